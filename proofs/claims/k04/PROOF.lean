import PyProof.Rows.All
import Wide.All
import OpenK.AllK
import Wide.FinOn
import Lean
import PyProof.EqAt
import PyProof.EqKinds
import PyProof.TupleCall
import KE.BitLaws
import KE.KRevIter
import KE.KUnpack
import KE.KSortTup
import PyProof.Rows.StrOver
import PyProof.ZipIter
import PyProof.StrLawsChain
import PyProof.StrBlock
import PyProof.FitsReplace
import PySem.Challenge.RW_doubthall_k04_first_fault
set_option compiler.extract_closed false
set_option Elab.async false
set_option linter.all false
set_option maxRecDepth 100000
noncomputable section
open PySem renaming wpAny_bind->aa,wpAny_pure->af,starEach->ai,Shared->ap,wpAny->av,sizeLine->ax,Program->aN,wpAny_setState_of->aT,wpAny_newObj_type->a9,wpAny_holding->bd,World->bg,rawInt->bA,backTo->bB,wpAny_call_entry->bD,compareOp->bE,Around->bG,binaryOp->bV,mem_of_lookup->b4,wpAny_askSetting->b5,wpAny_mono->b8,foldedSetIterable->cb,wpAny_callSpecial?_slot->cn,swapsWith->cp,cellsFrom->cq,wpAny_truthy_bool->cx,bootBuiltins->cy,FuncData->cA,wpAny_field->cE,mainGlobals->cG,codeAny_builtin->cI,attributeBase->cQ,wpAny_setField->cS,SetTable->de,wpAny_loadPart'->dt,wpAny_loadPart_at->dy,codeAny_call_builtin->dz,wpAny_setEntries_of->dJ,Keyword->dL,codeAny_mono->dP,Scope->dS,scanBound->dW,fits_of_scanBound->d1,sysModules->d4,pushCells->eh,wpAny_Call_Name_kw->eI,typeIs_str->eJ,sizeLine_eq->eL,keywordEach->eM,wpAny_typeOf->eT,wpAny_rule->fg,noteFrame->fh,call_meets->fj,codeAny->fu,behindInMarks->fw,sliceBounds->fB,bindArgs->fC,boot_len->fD,wpAny_passesOwn->fJ,wpAny_execs_nil->fK,length_partsBetween->fL,strKind->fS,pickOrder->f9,cLine->gd,assignEach->ge,wpAny_storeSet_of->gz,wpAny_of_eq->gA,getItem->gC,wpAny_standAt->gI,wpAny_newList->gJ,wpAny_attempt->gK,IsPart->gM,wpAny_isInstance->gO,wpAny_eqBool_str->gP,checkBuiltinCall->gR,backToKw->gS,PassesOwn->gT,wpAny_call->g0,wpAny_Name->g1,wpAny_Call_method_late->hB,isInstance->hQ,wpAny_updateSeq->ic,pushCells_keeps->ie,codeAny_of_tree->ig,wpAny_runValue->iA,wpAny_fieldsOf->iB,NameKind->iF,Builtin->iJ,wpAny_isSubtype_exc->iK,plainId_quiet->iO,wpAny_forIn_array'->iU,wpAny_sequenceKey->i5,wpAny_pyIter_list->i6,sub_set_self->i7,relayAll->i8,concat_meets->i9,callerA->ja,OsState->jd,wpAny_execs_cons->jo,tupleKind->jp,noFill_tuple_add->jq,Params->jv,letOwnedTupleGo->jJ,importedModules->jK,valueAt->jU,ElemsOf->j7,typeLookup->j9,strKind_is->kb,pyNext->kd,pyIter->ke,newFunctionEnv->kf,entryFor_alias->kh,wpAt_of_wpAny->kI,wpAny_comprehension_free->kT,seq_tuple_add->kW,call->k9,Slot->lc,ExceptHandler->ll,wpAny_getItem_str_slice->lp,treeTable->lq,setFlight->lr,lastMarks->lu,atKey->lv,seqIndex_neg->lE,Result->lG,Paired->lH,BindsTo->lR,weight_type_call_type->lS,wpAt_bind->lV,wpAny_loadName_local->l6,wpAny_alloc->l7,setField->l8,setEpoch->l9,seqIndex_of->md,entryFor->mf,bindL->mm,bindC->mn,GenState->mu
open PySem.W renaming Frag->ac,keepIn->bN,boot_heap->cJ,fnOf->cK,kia_one->ee,cellsFrom_some->et,findIn->eQ,looks_findIn->eX,hideAll_get->eZ,codeIn->fE,mroIn->fT,looks_mroIn->gN,callWith_K->io,instObj->iW,hideAll->iX,mroIn->i4,lookIn->jb,hideAll_none->kj,kas_rev->kG,SharedT->kH,typeIn->kU,boot_drawn->kX,of_hideAll->lb,boot_toks->lU,keepIn->me
open And renaming intro->ae
open PySem.Heap renaming get?_push_of_some->ag,lt_size->ay,get?_push_size->aB,get?_update_other->aX,size_push->a7,SameBut->bF,get?_update_self->bI,get?_none_of_le->mr
open List renaming getElem?_set_ne->ah,length_map->aj,getElem?_eq_some_iff->al,mem_cons->ao,length_range->aq,getElem?_set_self->au,mem_cons_of_mem->aw,range->az,mem_singleton->aA,size_toArray->aF,length_append->aJ,length_cons->aK,map_cons->aL,mem_append->aO,getElem?_eq_getElem->aU,all_eq_true->aV,getElem?_eq_none->aY,getElem?_map->a0,map_map->bc,lookup_cons->bn,mem_cons_self->bp,length_take->br,length_drop->bu,mem_filterMap->bv,mem_map->bw,mem_append_right->bx,map_append->bH,drop_eq_getElem_cons->bL,nodup_cons->bO,mem_filter->bP,append_nil->bQ,getElem_mem->bZ,getElem?_append_left->b0,filterMap_cons_some->b6,mem_of_mem_take->cj,getElem?_append_right->cs,range'->cw,length_replicate->cz,mem_of_mem_drop->cO,getElem?_replicate->cP,take_of_length_le->cU,pairwise_iff_getElem->cZ,length_nil->c7,mem_of_getElem?->dh,length->di,filterMap_cons_none->dr,filterMap_cons->dw,replicate->dB,mem_range->dC,length_eq_zero_iff->dD,drop_eq_nil_of_le->dH,contains_cons->dI,length_set->dM,length_filter_le->dN,reverse_cons->dO,not_mem_nil->dZ,map_take->d8,count_append->eB,all_map->eD,drop_length->eR,any_eq_true->eS,mem_iff_getElem->eU,any_map->fr,pairwise_cons->fF,filterMap_map->fG,drop_zero->fH,nodup_append->fN,ext_getElem?->fO,append_assoc->fP,any_eq_false->fQ,idxOf_lt_length_iff->fW,any_cons->fX,all_cons->fY,pairwise_mergeSort->gl,range_succ_eq_map->gx,forIn_cons->gG,find?_cons->gH,length_singleton->gL,perm_cons_erase->gU,pairwise_append->gW,length_eraseIdx->gX,mergeSort_perm->hV,map_congr_left->hZ,length_reverse->h8,map_drop->ii,getElem_idxOf->ir,getElem?_drop->iu,findIdx?_eq_some_iff_getElem->iz,take_sublist->iG,of_mem_zip->iZ,nil_append->i0,perm_ext_iff_of_nodup->je,nodup_iff_pairwise_ne->jf,lt_irrefl->jg,getD_eq_getElem?_getD->jh,mem_or_eq_of_mem_set->jl,getElem?_eq_none_iff->jm,findIdx?_eq_none_iff->jn,sum_cons->jw,length_erase_of_mem->jx,getElem?_cons_succ->jE,getD->jF,filter_cons_of_pos->jG,filter_cons_of_neg->jH,pairwise_lt_range->jP,length_pos_of_mem->jQ,singleton_append->j3,mem_iff_getElem?->j4,filterMap_append->j5,zip->kw,range_eq_range'->ky,mem_erase_of_ne->kz,mem_append_left->kB,toList_toArray->kJ,replicate_zero->kK,replicate_succ->kL,getElem?_range->kO,getElem?_take->lh,pairwise_map->lx,getElem?_set->lz,filter_congr->lA,drop_sublist->lB,zipIdx_cons->lL,range'_succ->lM,filter_cons->lN,ext_getElem->lO,cons_append->lP,range_succ->lX,foldl_cons->lY
open Nat renaming le_refl->am,ne_of_lt->aC,lt_of_lt_of_le->aG,mod_lt->aP,le_trans->aS,zero_le->bz,lt_succ_of_lt->bC,le_of_lt->bS,lt_irrefl->bX,le_succ->cf,lt_succ_self->cW,add_sub_cancel->dG,ne_of_gt->dY,lt_trans->ew,lt_of_le_of_lt->iq,zero_add->iD,le_of_succ_le->iE,eq_of_beq_eq_true->jZ,pow_le_pow_right->ku,lt_or_gt_of_ne->lf,eq_zero_or_pos->lg,lt_trichotomy->lw,succ_le_succ->lI,min_le_right->lJ,le_of_not_lt->lK,le_antisymm->lW
open Bool renaming and_eq_true->aD,false_ne_true->cC,false_eq_true->cD,or_eq_true->ef,or_true->eG,eq_iff_iff->eY,and_false->gY,true_and->ij,or_false->ik,false_and->jj,not_true->jy,false_or->jz,not_eq_true'->lC
open Array renaming getElem?_eq_getElem->aI,length_toList->bf,getElem?_toList->bR,getElem?_eq_some_iff->bW,getElem?_eq_none->cV,size_map->dU,getD_eq_getD_getElem?->ft,toList_inj->gu,toList_append->ib,append_assoc->iw,all_eq_true'->ix,size_append->iI,eq_empty_of_size_eq_zero->iN,mk->kF,toList_push->lD,replicate->l5
open PySem.Txt renaming join->aM,split->bh,slice->bT
open Option renaming bind_some->aQ,isSome_iff_exists->cN
open Option.some renaming inj->aR
open PySem.PyData renaming strOk->aW,canLay0->cT,depth->dA,canLayAll0->jc,depthAll->jO
open PySem.Builtin.Str renaming strSliceIndices->aZ,strKind->bU,partsBetween->cY
open PySem.F renaming called_set->a8,plainAttrs_list->bj,type_list_append->cL,slot_list_append->cM,plainAttrs_str->dF,slot_list_insert->d7,type_list_insert->fU,args_tuple_add_2->fV,entry_tuple_add->gk,slot_tuple_add->gv,slot_tuple_index->js,slot_str_replace->jt,slot_str_getitem->ju,plain_list_iadd->jC,entry_type_call->jD,typeCall_set_1->jM,entry_set_init->jN,type_str_join->jW,slot_str_join->jX,slot_set_iter->jY,slot_set_sub->kq
open PyProof.Rows renaming slot_tuple_getitem->ba,seqObj->cF,envOfC->cH,callWith_type1->fq,AllBare->iy,slicePart_none->jk,StrsAre->jr,entry_tuple_getitem->jA,listUpdate_at->jI,IsTup->jR,args_tuple_getitem->jV,entry_list_sort->lT,IntsAre->mq
open PySem.SetTable renaming below->bi,sizeAbove->bq,grown->da,eraseAt->fm,bits->fy,turns->gh,insertAt->gE,laid->iQ,fits->kZ,fill->k8
open PySem.PassesOwn renaming never->bJ
open PySem.Obj renaming mapSeq->bK,data_mapFields->dg,isFreed_of_fields->dX,mapFields->fA
open ForInStep renaming yield->bY
open PySem.Builtin.Slice renaming slicePlaces->b7,sliceApplied->gt,sliceAdjust->kS
open PySem.Str renaming length->b9,ofString->lF
open PySem.NameKind renaming cell->cg
open PySem.Value renaming none->cm,ref->cr,isStrOf->ei,str->gb,bool->gf,builtin->iP
open Int renaming toNat_natCast->cu,emod_nonneg->lZ
open False renaming elim->cB
open PySem.Builtin.List renaming listTooLong->cR,listExtendWith->f8,listLengthHint->j8,listFitsIndex->kE,listSameRef->lm
open PySem.Heap.SameBut renaming update->cX,refl->dE
open Classical renaming byContradiction->c0,choose_spec->eO,propDecidable->gm,choose->lQ
open True renaming intro->dm
open Sum renaming inr->du,inl->gZ
open PySem.Code renaming quiet_builtin->dQ
open PySem.Calls renaming spliced_cons->dR,Constant_str->gq,call_function_entry->gy,callWith_builtin->ia,evalArgs_plain->iH,spliced_nil->ji,Name_function_global->kD
open PySem.Builtin.Tuple renaming tupleExact->eF,tupleItemsOf->gs
open LawfulBEq renaming eq_of_beq->eV
open PySem.Builtin.Int renaming intBits->fR,intTooBig->l0
open List.Perm renaming eq_of_pairwise->fZ
open PySem.W.KasT renaming kasWp_bind->f7
open PySem.SetTable.below renaming go->gF
open PyProof.Rows.F renaming entry_set_update_loop->hU
open PySem.StrLaws renaming occ_length_le->il,glued_eq_join->im,lt_cons_cons->mo
open PySem.BindsTo renaming of_defaults->iM
open PySem.AutoSeq1 renaming sub_tuple_list->iR,sub_list_tuple->iS
open PySem.Paired renaming length->iT
open PySem.SeqAt.EqAt renaming of_refs->iV,same->jL
open PySem.SeqAt renaming ne_of_list_tuple->iY,EqAt->ki
open PySem.Builtin.Frozenset renaming differenceUpdate->i3,updateFrom->jS,difference->jT
open List.Pairwise renaming sublist->j6,filter->kC
open Prod renaming fst->kr
open PySem.W.Fast renaming tw14364793385576792824->kP,tw11892475500146522536->kQ,tw10156331382660048174->kR,tw9446332074065402090->li,tw6613529449190102663->lj
open PySem.Shared renaming TypeIs->kY
open LawfulMonad renaming bind_assoc->mj
open PySem.Around renaming under_plainId->mw
abbrev ak:=@if_pos
abbrev ar:=@if_neg
abbrev aE:=@decide_eq_true
abbrev aH:=@decide_eq_false
abbrev bM:=@beq_iff_eq
abbrev ce:=@decide_eq_true_iff
abbrev cv:=@beq_eq_false_iff_ne
abbrev c8:=@of_decide_eq_true
abbrev c9:=@decide_eq_true_eq
abbrev fM:=@bne_self_eq_false
abbrev gc:=@decide_eq_decide
abbrev gQ:=@if_false
abbrev hJ:=@ne_true_of_eq_false
abbrev iC:=@or_false
abbrev iL:=@beq_self_eq_true
namespace L2
open PySem PySem.Spec PyProof.Rows
abbrev Key:=Sum Int Str
def QjE:Key->Value->Bool
 |.inl k,v=>Value.isInt k v
 |.inr x,v=>ei x v
def keyH(w:bg):Key->Int
 |.inl k=>hashInt k
 |.inr x=>hashStr w x
theorem Zg:∀{k:Key}{v:Value},QjE k v=true->(∃i t,k=gZ i/\v=Value.int i t)\/(∃x t,k=du x/\v=gb x t)
 |.inl i,v,h=>by
  obtain⟨t,e⟩:=Value.isInt_shape h;exact .inl ⟨i,t,rfl,e⟩
 |.inr x,v,h=>by
  obtain⟨t,e⟩:=Value.isStrOf_shape h;exact .inr ⟨x,t,rfl,e⟩
def Qot i t:QjE (.inl i) (.int i t)=true:=by simp[QjE,Value.isInt]
def Qos x t:QjE (.inr x) (.str x t)=true:=by simp[QjE,ei]
def key_ll a b:decide ((gZ a:Key)=gZ b)=(a==b):=by
 by_cases e:a=b
 .subst e;simp
 .have h:¬(gZ a:Key)=gZ b:=λq=>e (gZ.inj q);rw[aH h];exact(cv.mpr e).symm
def key_rr a b:decide ((du a:Key)=du b)=decide (a=b):=by
 grind
def key_lr a b:decide ((gZ a:Key)=du b)=false:=by grind
def key_rl a b:decide ((du a:Key)=gZ b)=false:=by grind
def ZS prog w:PySem.KeyKind prog w Key where
 is:=QjE
 hash:=keyH w
 inj:=λv a b D B=>by
  rcases Zg D with⟨i,t,rfl,rfl⟩|⟨x,t,rfl,rfl⟩
  .rcases Zg B with⟨j,u,rfl,e⟩|⟨y,u,rfl,e⟩
   .injection e with e1 _;rw[e1]
   .exact nomatch e
  .rcases Zg B with⟨j,u,rfl,e⟩|⟨y,u,rfl,e⟩
   .exact nomatch e
   .injection e with e1 _;rw[e1]
 byValue:=λk v h=>by
  rcases Zg h with⟨i,t,rfl,rfl⟩|⟨x,t,rfl,rfl⟩<;>rfl
 pyHash:=λm h=>by
  rcases Zg m with⟨i,t,rfl,rfl⟩|⟨x,t,rfl,rfl⟩
  .exact wpAny_pyHash_int h
  .exact wpAny_pyHash_str h
 eqBool:=λE m h=>by
  rcases Zg E with⟨i,t,rfl,rfl⟩|⟨x,t,rfl,rfl⟩
  .rcases Zg m with⟨j,u,rfl,rfl⟩|⟨y,u,rfl,rfl⟩
   .rw[key_ll]at h;exact wpAny_eqBool_int h
   .exact ki.int_str i t y u _ _ _ _ h
  .rcases Zg m with⟨j,u,rfl,rfl⟩|⟨y,u,rfl,rfl⟩
   .exact ki.str_int x t j u _ _ _ _ h
   .rw[key_rr]at h;exact gP h
 «strs»:=λk x t v h=>by
  rcases Zg h with⟨i,u,rfl,e⟩|⟨y,u,rfl,e⟩
  .exact nomatch e
  .injection e with e1 _
   subst e1;cases v<;>rfl
def QjC prog w i t:(ZS prog w).is (.inl i) (.int i t)=true:=Qot i t
def QjB prog w x t:(ZS prog w).is (.inr x) (.str x t)=true:=Qos x t
inductive V where
 |non | bl (b:Bool) | int (i:Int) | str (x:Str) | byt (b:Array UInt8) | flt (b:UInt64) | ref (a:Addr) | ty (n:String)
 deriving DecidableEq
def RelV:V->Value->Prop
 |.non,u=>u=cm
 |.bl b,u=>u=gf b
 |.int i,u=>∃t,u=Value.int i t
 |.str x,u=>∃t,u=gb x t
 |.byt b,u=>∃t,u=Value.bytes b t
 |.flt b,u=>∃t,u=Value.float b t
 |.ref a,u=>u=cr a
 |.ty n,u=>u=Value.type n
abbrev Vals:List V->List Value->Prop:=lH RelV
theorem Vals.length(r:Vals xs us):xs.length=us.length:=iT r
theorem Vals.get:∀{xs:List V}{us:List Value}{i:Nat}{x:V},Vals xs us->xs[i]?=some x->∃u,us[i]?=some u/\RelV x u
 |_,_,_,_,.nil,e=>by simp at e
 |_,_,0,_,.cons r _,e=>by simp at e;subst e;exact⟨_,rfl,r⟩
 |_,_,i+1,x,.cons _ t,e=>by
  obtain⟨u,h1,h2⟩:=Vals.get t (by simpa using e);exact⟨u,by simpa using h1,h2⟩
theorem Vals.set{x:V}{u:Value}(r:RelV x u):∀{xs:List V}{us:List Value}(i:Nat),Vals xs us->Vals (xs.set i x) (us.set i u)
 |_,_,_,.nil=>.nil
 |_,_,0,.cons _ t=>.cons r t
 |_,_,i+1,.cons q t=>.cons q (Vals.set r i t)
theorem Vals.append:∀{xs ys:List V}{us ws:List Value},Vals xs us->Vals ys ws->Vals (xs++ys) (us++ws)
 |_,_,_,_,.nil,s=>s
 |_,_,_,_,.cons r t,s=>.cons r (Vals.append t s)
theorem Vals.take:∀{xs:List V}{us:List Value} n,Vals xs us->Vals (xs.take n) (us.take n)
 |_,_,0,_=>.nil
 |_,_,_+1,.nil=>.nil
 |_,_,n+1,.cons r t=>.cons r (Vals.take n t)
theorem Vals.drop:∀{xs:List V}{us:List Value}(n:Nat),Vals xs us->Vals (xs.drop n) (us.drop n)
 |_,_,0,r=>r
 |_,_,_+1,.nil=>.nil
 |_,_,n+1,.cons _ t=>Vals.drop n t
def RelO:Option V->Option Value->Prop
 |some v,some u=>RelV v u
 |none,none=>True
 |_,_=>False
def KV{κ:Type}:List (κ×V)->List (κ×Value)->Prop:=lH λp q=>p.1=q.1/\RelV p.2 q.2
def kV:Key->V
 |.inl i=>.int i
 |.inr x=>.str x
inductive HO where
 |lst (xs:List V)
 |tup (xs:List V)
 |dK (kvs:List (Key×V)) | dT (kvs:List (List Key×V))
 |set (S:Int->Bool) (n:Nat)
 |ins (C dx:Addr) (fs:List (Str×V))
 |own (x:Addr)
 |xd (fs:List (Str×V))
 |met (f x:Addr)
 |rng (lo hi:Int)
 |frz (o:Obj) (u:HO)
 |tbl (ps:Array Value)
 |ext (φ:Heap->Prop)
abbrev Hp:=Addr->Option HO
def upd(H:Hp)(a:Addr)(o:HO):Hp:=λb=>if b=a then some o else H b
theorem Qk:upd H a o a=some o:=by unfold upd;grind
theorem Qj(h:b≠a):upd H a o b=H b:=by unfold upd;grind
def QmD{H:Hp}{a:Addr}{o u:HO}:upd (upd H a o) a u=upd H a u:=by
 funext b;unfold upd;split<;>rfl
def Qmb{H:Hp}(h:H a=some o)(h':H b=some u)(d:o≠u):a≠b:=by
 grind
def Ql{H:Hp}(h:H a=some o)(h':H b=none):a≠b:=by
 grind
section
variable(P:aN)(w:bg)
def Xd(h:Heap)(a:Addr)(items:Array Value)(xs:List V):Prop:=∃o,h.get? a=some o/\o.cls = .type "tuple"/\(o.dict=none\/∃i y,xs=[V.int i,y])/\∃n,o.data = .seq items n
def Xd.is(x:Xd h a items xs):jR h a items:=let ⟨o,h1,h2,_,j⟩:=x;⟨o,h1,h2,j⟩
def Xd.new(h:Heap) items xs:Xd (h.push { cls := .type "tuple",data := .seq items }) h.objs.size items xs:=⟨_,aB _ rfl,rfl,.inl rfl,_,rfl⟩
def Xd.pair(x:jR h a items):Xd h a items [V.int i,y]:=let ⟨o,h1,h2,j⟩:=x;⟨o,h1,h2,.inr ⟨i,y,rfl⟩,j⟩
def ZY(H:Hp)(h:Heap)(a:Addr):HO->Prop
 |.lst xs=>xs.length<=ax/\∃j n,Vals xs j/\h.get? a=some { cls := .type "list",data := .seq j.toArray n }
 |.tup xs=>xs.length<=ax/\∃j ,Vals xs j/\Xd h a j.toArray xs
 |.dK kvs=>kvs.length<=ax/\(a==d4)=false/\∃vs,KV kvs vs/\h.DictOf (ZS P w) a vs
 | .dT kvs=>kvs.length<=ax/\(a==d4)=false/\∃xs ,
   lH (λp q=>p.1=q.1/\H q.2.1=some (.tup (p.1.map kV))/\RelV p.2 q.2.2) kvs xs /\
   ∃o es ep,h.get? a=some o/\o.ExactDict/\o.data = .dict es ep/\es.toList=xs.map (entryOfKey (jp (ZS P w)))/\(xs.map (·.1)).Nodup
 |.set S n=>h.SetOf (intKind P w) a S n
 | .ins C dx fs=>H dx=some (.own a)/\fs.length<=1000/\dx≠a/\h.get? a=some (iW C dx) /\
   ∃mA,h.Ns1 dx mA/\(∀f,RelO (fs.lookup f) (mA f))/\PySem.Within mA (fs.map (·.1))
 |.own _=>∃o,h.get? a=some o
 |.xd fs=>∃mA,h.Ns1 a mA/\∀f,RelO (fs.lookup f) (mA f)
 |.rng lo hi=>∃t u v,h.get? a=some { cls := .type "range",data := .fields #[.int lo t,.int hi u,.int 1 v] }
 |.frz o u=>h.get? a=some o/\ZY H h a u
 |.tbl ps=>h.get? a=some { cls := .none,data := .fields ps }
 |.met f x=>h.get? a=some (PySem.W.methodObj (.ref f) (.ref x))
 |.ext m=>m h/\(∃o,h.get? a=some o)/\∀h1 h2 ,m h1->(∀o,h1.get? a=some o->h2.get? a=some o)->m h2
def HOk(H:Hp)(h:Heap):Prop:=∀a o,H a=some o->ZY P w H h a o
end
section
variable{P:aN}{w:bg}{H H':Hp}{h h':Heap}{a:Addr}{o:HO}
def ZY.lt(x:ZY P w H h a o):a<h.objs.size:=by
 cases o with
 |lst xs=>obtain⟨_,_,_,_,e⟩:=x;exact ay e
 |tup xs=>obtain⟨_,_,_,p⟩:=x;exact p.is.lt
 |dK kvs=>obtain⟨_,_,_,_,o,_,_,e,_⟩:=x;exact ay e
 |dT kvs=>obtain⟨_,_,_,_,o,_,_,e,_⟩:=x;exact ay e
 |set S n=>obtain⟨o,_,_,_,e,_⟩:=x;exact ay e
 |ins C dx fs=>obtain⟨_,_,_,e,_⟩:=x;exact ay e
 |own y=>obtain⟨_,e⟩:=x;exact ay e
 |xd fs=>obtain⟨_,⟨_,_,_,e,_⟩,_⟩:=x;exact ay e
 |rng lo hi=>obtain⟨_,_,_,e⟩:=x;exact ay e
 |frz ob u=>obtain⟨e,_⟩:=x;exact ay e
 |tbl ps=>exact ay (x)
 |met f y=>exact ay (x)
 |ext j=>obtain⟨_,⟨_,e⟩,_⟩:=x;exact ay e
theorem lH.mapP:∀{l₁:List α}{J:List O},lH F l₁ J->(∀a b,F a b->G a b)->lH G l₁ J
 |_,_,.nil,_=>.nil
 |_,_,.cons r t,f=>.cons (f _ _ r) (lH.mapP t f)
def ZY.stay(x:ZY P w H h a o)(k:∀b u,(b=a\/H b=some (.own a))->h.get? b=some u->h'.get? b=some u)(ho:∀b,H b=some (.own a)->H' b=some (.own a))(G:∀b xs,H b=some (.tup xs)->H' b=some (.tup xs)):ZY P w H' h' a o:=by
 induction o with
 |lst xs=>obtain⟨z,j,n,r,e⟩:=x;exact⟨z,j,n,r,k _ _ (.inl rfl) e⟩
 |tup xs=>obtain⟨z,j,r,ob,e,c⟩:=x;exact⟨z,j,r,ob,k _ _ (.inl rfl) e,c⟩
 |dK kvs=>obtain⟨z,y,vs,r,ob,es,ep,e,c⟩:=x;exact⟨z,y,vs,r,ob,es,ep,k _ _ (.inl rfl) e,c⟩
 |dT kvs =>
  obtain⟨z,y,xs,r,ob,es,ep,e,c⟩:=x;exact⟨z,y,xs,lH.mapP r λp q z=>⟨z.1,G _ _ z.2.1,z.2.2⟩,ob,es,ep,k _ _ (.inl rfl) e,c⟩
 |set S n=>obtain⟨ob,es,ep,t,e,c⟩:=x;exact⟨ob,es,ep,t,k _ _ (.inl rfl) e,c⟩
 |ins C dx fs =>
  obtain⟨d,z,ne,e,mA,⟨od,es,ep,e2,c⟩,r⟩:=x;exact⟨ho _ d,z,ne,k _ _ (.inl rfl) e,mA,⟨od,es,ep,k _ _ (.inr d) e2,c⟩,r⟩
 |own y=>obtain⟨ob,e⟩:=x;exact⟨ob,k _ _ (.inl rfl) e⟩
 |xd fs=>obtain⟨mA,⟨od,es,ep,e,c⟩,r⟩:=x;exact⟨mA,⟨od,es,ep,k _ _ (.inl rfl) e,c⟩,r⟩
 |rng lo hi=>obtain⟨t,u,v,e⟩:=x;exact⟨t,u,v,k _ _ (.inl rfl) e⟩
 |frz ob u m=>obtain⟨e,q⟩:=x;exact⟨k _ _ (.inl rfl) e,m q⟩
 |tbl ps =>
  have e :=x;exact k a _ (.inl rfl) e
 |met f y =>
  have e :=x;exact k a _ (.inl rfl) e
 |ext B=>obtain⟨p,⟨o,e⟩,st⟩:=x;exact⟨st _ _ p λo q=>k _ _ (.inl rfl) q,⟨o,k _ _ (.inl rfl) e⟩,st⟩
def HOk.lt(x:HOk P w H h)(e:H a=some o):a<h.objs.size:=(x a o e).lt
def HOk.fresh(x:HOk P w H h)(e:h.objs.size<=a):H a=none:=by
 cases q:H a with
 |none=>rfl
 |some u=>exact absurd (aG (x.lt q) e) (bX _)
def HOk.kept(x:HOk P w H h)(k:∀b u,h.get? b=some u->h'.get? b=some u):HOk P w H h':=λa o e =>
 (x a o e).stay (λb u _ q=>k b u q) (λ_ q=>q) λ_ _ q=>q
def HOk.laid(x:HOk P w H h)(k:∀b u,h.get? b=some u->h'.get? b=some u)(G:h.objs.size<=a)(new:ZY P w (upd H a o) h' a o):HOk P w (upd H a o) h':=λb u e=>by
 have hn:=x.fresh G;by_cases j:b=a
 .subst j;rw[Qk]at e;cases e;exact new
 .rw[Qj j]at e;exact(x b u e).stay (λc v _ q=>k c v q) (λc q=>by rw[Qj (Ql q hn)];exact q) λc xs q=>by rw[Qj (Ql q hn)];exact q
end
def Rd(H:Hp)(a:Addr)(u:HO):Prop:=H a=some u\/∃o,H a=some (.frz o u)
def Rd.ok(r:Rd H a u)(x:HOk P w H h):ZY P w H h a u:=by
 rcases r with r|⟨o,r⟩
 .exact x a u r
 .obtain⟨_,q⟩:=x a _ r;exact q
def Mut:Option HO->Prop
 |some (.lst _)=>True
 |some (.dK _)=>True
 |some (.dT _)=>True
 |some (.set _ _)=>True
 |some (.ins _ _ _)=>True
 |some (.ext _)=>True
 |_=>False
section
variable{P:aN}{w:bg}{H:Hp}{h h':Heap}{x e:Addr}{o':HO}
def HOk.write(ok:HOk P w H h)(G:Mut (H x))(he:e=x\/H e=some (.own x))(k:∀b u,b≠e->h.get? b=some u->h'.get? b=some u)(J:∃u,h'.get? e=some u)(new:ZY P w (upd H x o') h' x o'):HOk P w (upd H x o') h':=λb u q=>by
 have m:∀c y,H c=some (.own y)->c≠x:=λc y r z=>by subst z;rw[r]at G;exact G
 have B:∀c xs,H c=some (.tup xs)->c≠x:=λc xs r z=>by subst z;rw[r]at G;exact G
 by_cases D:b=x
 .subst D;rw[Qk]at q;cases q;exact new
 .rw[Qj D]at q;by_cases j:b=e
  .have E:H b=some (.own x):=by
    rcases he with z | z
    .exact absurd (j.trans z) D
    .rw[j];exact z
   rw[q]at E;cases E;obtain⟨v,I⟩:=J;exact⟨v,by rw[j];exact I⟩
  .refine(ok b u q).stay (λc v hc r=>k c v ?_ r) (λc r=>by rw[Qj (m c b r)];exact r) λc xs r=>by rw[Qj (B c xs r)];exact r
   rcases hc with rfl | hc
   .exact j
   .rintro rfl;rcases he with z | z
    .exact m c b hc z
    .rw[hc]at z;cases z;exact D rfl
end
structure Un (fs ex:List Addr) (H H':Hp) (h h':Heap):Prop where
 keep:∀b o,h.get? b=some o->H b=none->b∉fs->b∉ex->h'.get? b=some o
 slot:∀b o,h.get? b=some o->H b=none->b∈fs->b∉ex->∃sl,h'.get? b=some { o with slots:=sl }
 free:∀b o,h.get? b=some o->H b=none->b∉ex->H' b=none
 there:∀b o,h.get? b=some o->b∉ex->∃o',h'.get? b=some o'
 tups:∀b xs,H b=some (.tup xs)->H' b=some (.tup xs)
 frzs:∀b o u,H b=some (.frz o u)->H' b=some (.frz o u)
 tbls:∀b ps,H b=some (.tbl ps)->∃more,H' b=some (.tbl (ps++more))
section
variable{fs fs' ex ex':List Addr}{H H1 H2:Hp}{h h1 h2 h':Heap}{a x e:Addr}{o:HO}
def Un.any(u:Un fs ex H H1 h h1){b:Addr}{ob:Obj}(q:h.get? b=some ob)(n:H b=none)(G:b∉ex):∃J,h1.get? b=some { ob with slots:=J }:=by
 by_cases j:b∈fs
 .exact u.slot b ob q n j G
 .exact⟨ob.slots,u.keep b ob q n j G⟩
def Un.trans(a:Un fs ex H H1 h h1)(b:Un fs ex H1 H2 h1 h2):Un fs ex H H2 h h2 where
 keep:=λc ob q n hc j=>b.keep c ob (a.keep c ob q n hc j) (a.free c ob q n j) hc j
 slot:=λc ob q n hc j=>by
  obtain⟨B,e1⟩:=a.slot c ob q n hc j;obtain⟨m,e2⟩:=b.slot c _ e1 (a.free c ob q n j) hc j;exact⟨m,e2⟩
 free:=λc ob q n j=>by
  obtain⟨o',e1⟩:=a.there c ob q j;exact b.free c o' e1 (a.free c ob q n j) j
 there:=λc ob q j=>by
  obtain⟨o',e1⟩:=a.there c ob q j;exact b.there c o' e1 j
 tups:=λc xs q=>b.tups c xs (a.tups c xs q)
 frzs:=λc ob xs q=>b.frzs c ob xs (a.frzs c ob xs q)
 tbls:=λc ps q=>by
  obtain⟨m1,e1⟩:=a.tbls c ps q;obtain⟨m2,e2⟩:=b.tbls c _ e1;exact⟨m1++m2,by rw[e2,iw]⟩
def Un.kept(k:∀b u,h.get? b=some u->h'.get? b=some u):Un fs ex H H h h' :=
 ⟨λb ob q _ _ _=>k b ob q,λb ob q _ _ _=>⟨ob.slots,k b ob q⟩,λ_ _ _ n _=>n,λb ob q _=>⟨ob,k b ob q⟩,λ_ _ q=>q,λ_ _ _ q=>q,λ_ ps q=>⟨#[],by rw[q];simp⟩⟩
theorem Un.refl:Un fs ex H H h h:=Un.kept λ_ _ q=>q
def Un.laid(k:∀b u,h.get? b=some u->h'.get? b=some u)(G:h.objs.size<=a)(hn:H a=none):Un fs ex H (upd H a o) h h' where
 keep:=λb u q _ _ _=>k b u q
 slot:=λb u q _ _ _=>⟨u.slots,k b u q⟩
 free:=λb u q n _=>by rw[Qj (aC (aG (ay q) G))];exact n
 there:=λb u q _=>⟨u,k b u q⟩
 tups:=λb xs q=>by rw[Qj (Ql q hn)];exact q
 frzs:=λb u xs q=>by rw[Qj (Ql q hn)];exact q
 tbls:=λb ps q=>⟨#[],by rw[Qj (Ql q hn),q];simp⟩
def Un.write(G:Mut (H x))(he:e=x\/H e=some (.own x))(k:∀b u,b≠e->h.get? b=some u->h'.get? b=some u)(J:∃u,h'.get? e=some u):Un fs ex H (upd H x o) h h':=by
 have m:∀b,H b=none->b≠x:=λb n z=>by subst z;rw[n]at G;exact G
 have B:∀b,H b=none->b≠e:=λb n z=>by
  subst z;rcases he with r | r
  .exact m b n r
  .rw[n]at r;cases r
 have hm:∀b u,H b=some u->¬Mut (some u)->b≠x:=λb u q nm z=>by subst z;rw[q]at G;exact nm G
 refine⟨λb u q n _ _=>k b u (B b n) q,λb u q n _ _=>⟨u.slots,k b u (B b n) q⟩,λb u q n _=>by rw[Qj (m b n)];exact n,λb u q _=>?_,
  λb xs q=>by rw[Qj (hm b _ q λz=>z)];exact q,λb u xs q=>by rw[Qj (hm b _ q λz=>z)];exact q,λb ps q=>⟨#[],by rw[Qj (hm b _ q λz=>z),q];simp⟩⟩
 by_cases j:b=e
 .subst j;exact J
 .exact⟨u,k b u j q⟩
end
def trk(h:Heap)(H:Hp):List Addr:=(az h.objs.size).filter λa=>(H a).isSome
def hidT(h:Heap)(H:Hp):Heap:=iX h (trk h H)
def QoA h H:(hidT h H).objs.size=h.objs.size:=PySem.W.hideAll_size _ _
def hidT_get(e:h.get? b=some o)(n:H b=none):(hidT h H).get? b=some o :=
 eZ _ e λhm=>by
  have q :=(bP.mp hm).2;grind
def of_hidT(e:(hidT h H).get? b=some o):h.get? b=some o/\H b=none:=by
 have j :=lb (trk h H) e;refine⟨j,?_⟩;cases q:H b with
 |none=>rfl
 |some x =>
  have hm:b∈trk h H:=bP.mpr ⟨dC.mpr (ay j),by simp[q]⟩;have z:(hidT h H).get? b=none:=kj (trk h H) hm;rw[z]at e;cases e
def allNews(g h:Heap)(L:Addr):List (Addr×Obj):=(az h.objs.size).filterMap λa=>if a=L\/(g.get? a).isSome=true then none else (h.get? a).map λo=>(a,o)
def rest(g h:Heap)(L d:Addr):List (Addr×Obj):=(allNews g h L).filter λp=>decide (p.1≠d)
structure Mod (K:ac) (mg:Str->Option Value) (base:Heap):Prop where
 kin:K.In base
 glob:base.Ns cG mg
 blt:∃mb,base.Ns builtinsNs mb/\∀x:Str,x≠"__name__"->mb x=cy x
 nolimit:base.NoLimit
structure Cx where
 prog:aN
 w:bg
 K:ac
 mg:Str->Option Value
 base:Heap
 A:bG
 N:List Str
 s₀:ap
 H₀:Hp
 env:Env
 outer:List Env
 stack:List Env
 ex:List Addr
 fn:Str->Bool
 calm:Bool
 pn:List (Addr×Obj)
 xe:Value->ap->Prop
def frs(l:List Env):List Addr:=l.filterMap (·.frame)
abbrev Cx.fs(X:Cx):List Addr:=frs X.outer
def Vis(G:dS)(x:Str):Prop:=G.names.lookup x=some .local\/G.names.lookup x=some .cell\/G.names.lookup x=some .free
def Loc(G:dS)(x:Str):Prop:=G.names.lookup x=some .local\/G.names.lookup x=some .cell
def Look(env:Env)(h:Heap)(m:Str->Option Value)(x:Str)(u:Value):Prop :=
 (env.kindOf x=some .local/\m x=some u)\/((env.kindOf x=some .cell\/env.kindOf x=some .free)/\∃c,env.cells.lookup x=some c/\h.IsCell c (some u))
structure Cx.Ok (X:Cx):Prop where
 mod:Mod X.K X.mg X.base
 kind:X.env.scope.kind = .function
 glob:X.env.globals=cG
 blt:X.env.builtins=builtinsNs
 above:X.s₀.heap.objs.size<=X.env.locals
 inj:∀x y c,X.env.cells.lookup x=some c->X.env.cells.lookup y=some c->x=y
 has:∀x,(X.env.kindOf x=some .cell\/X.env.kindOf x=some .free)->∃c,X.env.cells.lookup x=some c
 cab:∀x c,X.fn x=true->X.env.cells.lookup x=some c->X.s₀.heap.objs.size<=c
 hd:X.calm=true->X.A.handled=none
 frames:X.A.frames=some X.stack
 stk:X.stack=X.outer\/(X.stack=X.env::X.outer/\X.env.frame=some X.env.locals)
 exf:∀b∈X.ex,b≠X.env.locals/\∀x c,X.env.cells.lookup x=some c->c≠b
 bs:∀b o,X.base.get? b=some o->X.s₀.heap.get? b=some o/\X.H₀ b=none
 bsz:X.base.objs.size<=X.s₀.heap.objs.size
 noex:∀b o,X.base.get? b=some o->b∉X.ex
 exfs:∀b∈X.ex,b∉X.fs
 funs:X.s₀.heap.FunFrames X.base X.outer
 frf:∀b∈X.fs,X.H₀ b=none
structure Inv (X:Cx) (pins:List (Addr×Obj)) (σ:List (Option V)) (H:Hp) (s:ap):Prop where
 ok:X.Ok
 os:s.os=X.s₀.os
 bare:iy s.gens
 base:Un X.fs X.ex X.H₀ H X.s₀.heap s.heap
 loc:∃m,s.heap.Ns X.env.locals m/\∀(i:Nat)(x:Str)(v:V),X.N[i]?=some x->σ[i]?=some (some v)->Vis X.env.scope x->∃u,RelV v u/\Look X.env s.heap m x u
 cell:∀x c,X.env.cells.lookup x=some c->∃v,s.heap.IsCell c v
 free:H X.env.locals=none
 freeC:∀x c,X.env.cells.lookup x=some c->H c=none
 pin:∀p∈X.pn++pins,s.heap.get? p.1=some p.2/\H p.1=none/\p.1≠X.env.locals/\p.1∉X.fs/\∀v,p.2.data≠.cell v
 hok:HOk X.prog X.w H s.heap
 len:σ.length=X.N.length
section
variable{X:Cx}{pins:List (Addr×Obj)}{σ:List (Option V)}{H H':Hp}{s:ap}{h':Heap}
def Cx.Ok.nofr(ok:X.Ok)(e:X.base.get? b=some o):b∉X.fs:=λj=>by
 have:=(ok.funs.mem j).1;grind
def Inv.bs(I:Inv X pins σ H s):∀b o,X.base.get? b=some o->s.heap.get? b=some o/\H b=none:=λb o e =>
 ⟨I.base.keep b o (I.ok.bs b o e).1 (I.ok.bs b o e).2 (I.ok.nofr e) (I.ok.noex b o e),I.base.free b o (I.ok.bs b o e).1 (I.ok.bs b o e).2 (I.ok.noex b o e)⟩
def Inv.bk(I:Inv X pins σ H s):∀b o,X.base.get? b=some o->s.heap.get? b=some o:=λb o e=>(I.bs b o e).1
def Inv.mod(I:Inv X pins σ H s):Mod X.K X.mg X.base:=I.ok.mod
def Inv.kIn(I:Inv X pins σ H s):X.K.In s.heap:=I.ok.mod.kin.keeps I.bk
def Inv.lt(I:Inv X pins σ H s):X.env.locals<s.heap.objs.size:=let ⟨_,hn,_⟩:=I.loc;hn.lt
def Inv.sz(I:Inv X pins σ H s):X.s₀.heap.objs.size<=s.heap.objs.size:=aS I.ok.above (bS I.lt)
def Inv.nofs(I:Inv X pins σ H s)(h:s.heap.objs.size<=a):a∉X.fs:=λj=>by
 obtain⟨_,o,ho,_⟩:=I.ok.funs.mem j;exact absurd (aG (ay ho) (aS I.sz h)) (bX _)
def Inv.cne(I:Inv X pins σ H s):∀x c,X.env.cells.lookup x=some c->c≠X.env.locals:=λx c e z=>by
 obtain⟨v,o,ho,hd⟩:=I.cell x c e;obtain⟨m,⟨o',es,ep,j,B,_⟩,_⟩:=I.loc;grind
def Inv.funs(I:Inv X pins σ H s):s.heap.FunFrames X.base X.outer:=by
 have all:∀l,(∀b∈frs l,b∈X.fs)->X.s₀.heap.FunFrames X.base l->s.heap.FunFrames X.base l:=by
  intro l;induction l with
  |nil=>intro _ _;trivial
  |cons env r B =>
   intro hs D;obtain⟨E,⟨L,o,hf,hn,ho,hd⟩,G⟩:=D;have j :=hs L (by unfold frs;rw[dw,hf];exact bp);obtain⟨J,e⟩:=I.base.slot L o ho (I.ok.frf L j) j λz=>I.ok.exfs L z j;exact⟨E,⟨L,_,hf,hn,e,hd⟩,B (λb m=>hs b (by unfold frs;rw[dw,hf];exact aw _ m)) G⟩
 exact all X.outer (λ_ m=>m) I.ok.funs
def Inv.stack(I:Inv X pins σ H s):s.heap.FunFrames X.base X.stack:=by
 rcases I.ok.stk with e|⟨e,hf⟩
 .rw[e];exact I.funs
 .rw[e];obtain⟨m,hn,_⟩:=I.loc;refine .cons (by rw[I.ok.kind];decide) hf hn ?_ I.funs;exact mr (aS I.ok.bsz I.ok.above)
def Inv.stkSub(I:Inv X pins σ H s):∀b∈frs X.stack,b∈X.env.locals::X.fs:=λb j=>by
 rcases I.ok.stk with e|⟨e,hf⟩
 .rw[e]at j;exact aw _ j
 .rw[e]at j;unfold frs at j;rw[dw,hf]at j;exact j
def Inv.stkFree(I:Inv X pins σ H s):∀b∈frs X.stack,H b=none:=λb j=>by
 rcases ao.mp (I.stkSub b j) with e | j
 .rw[e];exact I.free
 .obtain⟨_,o,ho,_⟩:=I.ok.funs.mem j;exact I.base.free b o ho (I.ok.frf b j) λz=>I.ok.exfs b z j
def Inv.step{U:Array mu}{t':Nat}{Y:Drawn}{ch:List Addr}(I:Inv X pins σ H s)(G:∀b∈ch,(b∈X.ex\/X.s₀.heap.objs.size<=b)/\b≠X.env.locals/\(∀x c,X.env.cells.lookup x=some c->c≠b)/\∀p∈X.pn++pins,p.1≠b)(keep:∀b o,b≠X.env.locals->b∉X.fs->b∉ch->s.heap.get? b=some o->H b=none->h'.get? b=some o)(slot:∀b o,b≠X.env.locals->b∈X.fs->b∉ch->s.heap.get? b=some o->H b=none->∃O,h'.get? b=some { o with slots:=O })(free:∀b o,b∉ch->s.heap.get? b=some o->H b=none->H' b=none)(there:∀b o,b∉ch->s.heap.get? b=some o->∃o',h'.get? b=some o')(tups:∀b xs,H b=some (.tup xs)->H' b=some (.tup xs))(frzs:∀b o u,H b=some (.frz o u)->H' b=some (.frz o u))(tbls:∀b ps,H b=some (.tbl ps)->∃more,H' b=some (.tbl (ps++more)))(ns:∀m,s.heap.Ns X.env.locals m->h'.Ns X.env.locals m)(hok:HOk X.prog X.w H' h')(hg:iy U) :
  Inv X pins σ H' { s with heap:=h',gens:=U,drawn:=Y,toks:=t' }:=by
 have L:∀b o,X.s₀.heap.get? b=some o->b≠X.env.locals:=λb o e=>aC (aG (ay e) I.ok.above);have E:∀b o,X.s₀.heap.get? b=some o->b∉X.ex->b∉ch:=λb o e j J=>by
  rcases (G b J).1 with z | z
  .exact j z
  .exact absurd (aG (ay e) z) (bX _)
 have B:∀x c,X.env.cells.lookup x=some c->∀v,s.heap.IsCell c v->h'.IsCell c v:=λx c e v ⟨o,ho,hd⟩=>by
  have D :=λz=>(G c z).2.2.1 x c e rfl;by_cases hc:c∈X.fs
  .obtain⟨O,q⟩:=slot c o (I.cne x c e) hc D ho (I.freeC x c e);exact⟨_,q,hd⟩
  .exact⟨o,keep c o (I.cne x c e) hc D ho (I.freeC x c e),hd⟩
 refine⟨I.ok,I.os,hg,⟨λb o e n J j=>?_,λb o e n J j=>?_,λb o e n j=>?_,λb o e j=>?_,λb xs e=>tups b xs (I.base.tups b xs e),λb o xs e=>frzs b o xs (I.base.frzs b o xs e),λb ps e=>?_⟩,?_,λx c e=>?_,?_,λx c e=>?_,λp Q=>?_,hok,I.len⟩
 .exact keep b o (L b o e) J (E b o e j) (I.base.keep b o e n J j) (I.base.free b o e n j)
 .obtain⟨O,e1⟩:=I.base.slot b o e n J j;obtain⟨M,e2⟩:=slot b _ (L b o e) J (E b o e j) e1 (I.base.free b o e n j);exact⟨M,e2⟩
 .obtain⟨o',e1⟩:=I.base.there b o e j;exact free b o' (E b o e j) e1 (I.base.free b o e n j)
 .obtain⟨o',e1⟩:=I.base.there b o e j;exact there b o' (E b o e j) e1
 .obtain⟨m1,e1⟩:=I.base.tbls b ps e;obtain⟨m2,e2⟩:=tbls b _ e1;exact⟨m1++m2,by rw[e2,iw]⟩
 .obtain⟨m,hn,hl⟩:=I.loc;refine⟨m,ns m hn,λi x v e1 e2 e3=>?_⟩;obtain⟨u,r,l⟩:=hl i x v e1 e2 e3;refine⟨u,r,?_⟩;rcases l with l|⟨k,c,e,z⟩
  .exact .inl l
  .exact .inr ⟨k,c,e,B x c e _ z⟩
 .obtain⟨v,z⟩:=I.cell x c e;exact⟨v,B x c e v z⟩
 .obtain⟨m,⟨o,_,_,ho,_⟩,_⟩:=I.loc;exact free _ o (λz=>(G _ z).2.1 rfl) ho I.free
 .obtain⟨v,o,ho,hd⟩:=I.cell x c e;exact free c o (λz=>(G c z).2.2.1 x c e rfl) ho (I.freeC x c e)
 .obtain⟨e,n,ne,T,d⟩:=I.pin p Q;have D :=λz=>(G p.1 z).2.2.2 p Q rfl;exact⟨keep p.1 p.2 ne T D e n,free p.1 p.2 D e n,ne,T,d⟩
def Inv.un(I:Inv X pins σ H s)(u:Un X.fs [] H H' s.heap h')(hok:HOk X.prog X.w H' h'):Inv X pins σ H' { s with heap:=h',toks:=t' }:=by
 obtain⟨m,⟨o,es,ep,ho,r⟩,_⟩:=id I.loc;obtain⟨J,L⟩:=u.any ho I.free (by simp);exact I.step (ch:=[]) (by grind) (λb o _ B _ e n=>u.keep b o e n B (by simp)) (λb o _ B _ e n=>u.slot b o e n B (by simp)) (λb o _ e n=>u.free b o e n (by simp)) (λb o _ e=>u.there b o e (by simp)) u.tups u.frzs u.tbls (λM hm=>by
  obtain⟨o',D,E,j,G⟩:=hm;rw[ho]at j;cases j;exact⟨_,D,E,L,G⟩) hok I.bare
def Inv.call(I:Inv X pins σ H s)(u:Un (frs X.stack) ch H H' s.heap h')(hok:HOk X.prog X.w H' h')(J:iy O)(G:∀b∈ch,(b∈X.ex\/X.s₀.heap.objs.size<=b)/\b≠X.env.locals/\(∀x c,X.env.cells.lookup x=some c->c≠b)/\∀p∈X.pn++pins,p.1≠b) :
  Inv X pins σ H' { s with heap:=h',gens:=O,drawn:=U,toks:=t' }:=by
 obtain⟨m,⟨o,es,ep,ho,r⟩,_⟩:=id I.loc;obtain⟨Q,L⟩:=u.any ho I.free λz=>(G _ z).2.1 rfl;exact I.step G (λb o L E hc e n=>u.keep b o e n (λz=>(ao.mp (I.stkSub b z)).elim L E) hc) (λb o _ _ hc e n=>u.any e n hc) (λb o hc e n=>u.free b o e n hc) (λb o hc e=>u.there b o e hc) u.tups u.frzs u.tbls (λT hm=>by
  obtain⟨o',B,D,j,M⟩:=hm;rw[ho]at j;cases j;exact⟨_,B,D,L,M⟩) hok J
def Inv.turned(I:Inv X pins σ H s)(k:∀b o,b≠it->s.heap.get? b=some o->h'.get? b=some o)(hn:H it=none)(G:it≠X.env.locals)(h1:it∈X.ex\/X.s₀.heap.objs.size<=it)(h2:∀x c,X.env.cells.lookup x=some c->c≠it)(J:∀p∈X.pn++pins,p.1≠it):Inv X pins σ H { s with heap:=h',toks:=t' }:=by
 have j:∀b u,H b=some u->b≠it:=λb u e z=>by rw[z,hn]at e;cases e
 refine I.step (ch:=[it]) (λb B=>?_) (λb o _ _ hc e _=>k b o (λz=>hc (by simp[z])) e) (λb o _ _ hc e _=>⟨o.slots,k b o (λz=>hc (by simp[z])) e⟩) (λ_ _ _ _ n=>n)
  (λb o hc e=>⟨o,k b o (λz=>hc (by simp[z])) e⟩) (λ_ _ e=>e) (λ_ _ _ e=>e) (λb ps e=>⟨#[],by rw[e];simp⟩) (λm hm=>?_) (λb u e=>?_) I.bare
 .have e :=by simpa using B
  subst e;exact⟨h1,G,h2,J⟩
 .obtain⟨o,es,ep,ho,r⟩:=hm;exact⟨o,es,ep,k _ o (Ne.symm G) ho,r⟩
 .refine(I.hok b u e).stay (λc v hc q=>k c v ?_ q) (λ_ q=>q) λ_ _ q=>q;rcases hc with z | z
  .rw[z];exact j b u e
  .exact j c _ z
def Inv.tok(I:Inv X pins σ H s) t:Inv X pins σ H { s with toks:=t }:=I.un Un.refl I.hok
def Inv.kept{t':Nat}(I:Inv X pins σ H s)(k:∀b u,s.heap.get? b=some u->h'.get? b=some u):Inv X pins σ H { s with heap:=h',toks:=t' }:=I.un (Un.kept k) (I.hok.kept k)
def Inv.laid{a:Addr}{o:HO}{t':Nat}(I:Inv X pins σ H s)(k:∀b u,s.heap.get? b=some u->h'.get? b=some u)(G:s.heap.objs.size<=a)(new:ZY X.prog X.w (upd H a o) h' a o) :
  Inv X pins σ (upd H a o) { s with heap:=h',toks:=t' }:=I.un (Un.laid k G (I.hok.fresh G)) (I.hok.laid k G new)
def Inv.write{x e:Addr}{o:HO}{t':Nat}(I:Inv X pins σ H s)(J:Mut (H x))(he:e=x\/H e=some (.own x))(k:∀b u,b≠e->s.heap.get? b=some u->h'.get? b=some u)(G:∃u,h'.get? e=some u)(new:ZY X.prog X.w (upd H x o) h' x o):Inv X pins σ (upd H x o) { s with heap:=h',toks:=t' }:=I.un (Un.write J he k G) (I.hok.write J he k G new)
def Inv.weak(I:Inv X pins σ H s)(G:σ'.length=σ.length)(w:∀(i:Nat) v,σ'[i]?=some (some v)->σ[i]?=some (some v)):Inv X pins σ' H s :=
 ⟨I.ok,I.os,I.bare,I.base,let ⟨m,hn,j⟩:=I.loc;⟨m,hn,λi x v e1 e2 e3=>j i x v e1 (w i v e2) e3⟩,I.cell,I.free,I.freeC,I.pin,I.hok,G.trans I.len⟩
def Inv.pins_of(I:Inv X pins σ H s)(h:∀p∈G,s.heap.get? p.1=some p.2/\H p.1=none/\p.1≠X.env.locals/\p.1∉X.fs/\∀v,p.2.data≠.cell v):Inv X G σ H s :=
 ⟨I.ok,I.os,I.bare,I.base,I.loc,I.cell,I.free,I.freeC,λp j=>(aO.mp j).elim (λz=>I.pin p (by grind)) (h p),I.hok,I.len⟩
def Qgk{N:List Str}(G:N.Nodup){i j:Nat}(a:N[i]?=some x)(b:N[j]?=some x):i=j:=by
 obtain⟨h1,e1⟩:=al.mp a;obtain⟨h2,e2⟩:=al.mp b;exact(List.getElem_inj G).mp (e1.trans e2.symm)
def Qhi(I:Inv X pins σ H s)(hN:X.N.Nodup)(hi:X.N[i]?=some x)(G:Loc X.env.scope x)(r:RelV v u)(h:∀s',Inv X pins (σ.set i (some v)) H s'->(∃a,bF a s.heap s'.heap/\(a=X.env.locals\/X.env.cells.lookup x=some a))->Q () s')(hf:X.fn x=true\/X.env.scope.names.lookup x=some .local:=by first | exact .inl rfl | exact .inr rfl | assumption):av M A (storeName X.env x u) Q E s:=by
 obtain⟨m,hn,hl⟩:=id I.loc;have U:(X.env.scope.kind==.class||(X.env.scope.kind==.module&&X.env.locals != X.env.globals))=false:=by rw[I.ok.kind];rfl
 have D:i<σ.length:=by rw[I.len];exact(al.mp hi).1
 have cne:=I.cne;have tracked:∀{a:Addr}{h':Heap},(∃o,s.heap.get? a=some o/\H a=none)->bF a s.heap h'->HOk X.prog X.w H h':=λ{a h'} ha hs b ob e=>by
  obtain⟨_,_,B⟩:=ha;refine(I.hok b ob e).stay (λc w' hc q=>(hs.2 c ?_).trans q) (λ_ q=>q) λ_ _ q=>q;rintro rfl;rcases hc with rfl | hc
  .rw[B]at e;cases e
  .rw[B]at hc;cases hc
 rcases G with J | J
 .refine wpAny_storeName_local J hn (λh' hn' hs=>?_) U;obtain⟨oL,_,_,hoL,_⟩:=id hn;refine h _ ⟨I.ok,I.os,I.bare,⟨λb o e n L G=>?_,λb o e n L G=>?_,I.base.free,λb o e G=>?_,I.base.tups,I.base.frzs,I.base.tbls⟩,⟨_,hn',λj y v' e1 e2 e3=>?_⟩,λy c e=>?_,I.free,I.freeC,λp hp=>?_,tracked ⟨oL,hoL,I.free⟩ hs,by simpa using I.len⟩ ⟨_,hs,.inl rfl⟩
  .exact(hs.2 b (aC (aG (ay e) I.ok.above))).trans (I.base.keep b o e n L G)
  .obtain⟨sl,e1⟩:=I.base.slot b o e n L G;exact⟨sl,(hs.2 b (aC (aG (ay e) I.ok.above))).trans e1⟩
  .obtain⟨o',e1⟩:=I.base.there b o e G;exact⟨o',(hs.2 b (aC (aG (ay e) I.ok.above))).trans e1⟩
  .by_cases O:j=i
   .subst O;rw[hi]at e1;cases e1;rw[au D]at e2;cases e2;exact⟨u,r,.inl ⟨J,by simp⟩⟩
   .rw[ah (Ne.symm O)]at e2;obtain⟨u',r',q⟩:=hl j y v' e1 e2 e3;refine⟨u',r',?_⟩;rcases q with⟨k,e⟩|⟨k,c,e,z⟩
    .refine .inl ⟨k,?_⟩;have:y≠x:=λe=>O (Qgk hN e1 (e▸hi));simp[this,e]
    .exact .inr ⟨k,c,e,z.sameBut hs (cne y c e)⟩
  .obtain⟨w',z⟩:=I.cell y c e;exact⟨w',z.sameBut hs (cne y c e)⟩
  .obtain⟨e,n,ne,nf,d⟩:=I.pin p hp;exact⟨(hs.2 p.1 ne).trans e,n,ne,nf,d⟩
 .have T:X.fn x=true:=by
   rcases hf with z | z
   .exact z
   .rw[z]at J;cases J
  obtain⟨c,hc⟩:=I.ok.has x (.inl J);obtain⟨w',z⟩:=I.cell x c hc;refine wpAny_storeName_cell I.ok.kind J hc z (λh' Y hs=>?_);obtain⟨oc,hoc,hocd⟩:=id z;refine h { s with heap:=h' } ⟨I.ok,I.os,I.bare,⟨λb o e n L G=>?_,λb o e n L G=>?_,I.base.free,λb o e G=>?_,I.base.tups,I.base.frzs,I.base.tbls⟩,⟨m,hn.sameBut hs (Ne.symm (cne x c hc)),λj y v' e1 e2 e3=>?_⟩,λy c' e=>?_,I.free,I.freeC,λp hp=>?_,tracked ⟨oc,hoc,I.freeC x c hc⟩ hs,by simpa using I.len⟩ ⟨c,hs,.inr hc⟩
  .exact(hs.2 b (aC (aG (ay e) (I.ok.cab x c T hc)))).trans (I.base.keep b o e n L G)
  .obtain⟨sl,e1⟩:=I.base.slot b o e n L G;exact⟨sl,(hs.2 b (aC (aG (ay e) (I.ok.cab x c T hc)))).trans e1⟩
  .obtain⟨o',e1⟩:=I.base.there b o e G;exact⟨o',(hs.2 b (aC (aG (ay e) (I.ok.cab x c T hc)))).trans e1⟩
  .by_cases O:j=i
   .subst O;rw[hi]at e1;cases e1;rw[au D]at e2;cases e2;exact⟨u,r,.inr ⟨.inl J,c,hc,Y⟩⟩
   .rw[ah (Ne.symm O)]at e2;obtain⟨u',r',q⟩:=hl j y v' e1 e2 e3;refine⟨u',r',?_⟩;rcases q with q|⟨k,c',e,z'⟩
    .exact .inl q
    .refine .inr ⟨k,c',e,z'.sameBut hs ?_⟩;rintro rfl;exact O (Qgk hN e1 (I.ok.inj _ _ _ e hc▸hi))
  .by_cases hcc:c'=c
   .subst hcc;exact⟨_,Y⟩
   .obtain⟨w2,z2⟩:=I.cell y c' e;exact⟨w2,z2.sameBut hs hcc⟩
  .obtain⟨e,n,ne,nf,d⟩:=I.pin p hp;refine⟨(hs.2 p.1 ?_).trans e,n,ne,nf,d⟩;intro q;rw[q,hoc]at e;have q' :=aR e;exact d w' (by rw[<-q'];exact hocd)
def Qde(I:Inv X pins σ H s)(G:X.N.Nodup)(hi:X.N[i]?=some x)(J:Loc X.env.scope x)(r:RelV v u)(h:∀s',Inv X pins (σ.set i (some v)) H s'->Q () s')(hf:X.fn x=true\/X.env.scope.names.lookup x=some .local:=by first | exact .inl rfl | exact .inr rfl | assumption):av M A (storeName X.env x u) Q E s :=
 Qhi I G hi J r (λs' j _=>h s' j) hf
def Inv.call'(I:Inv X pins σ H s)(ho:s'.os=s.os)(u:Un (frs X.stack) ch H H' s.heap s'.heap)(hok:HOk X.prog X.w H' s'.heap)(J:iy s'.gens)(G:∀b∈ch,(b∈X.ex\/X.s₀.heap.objs.size<=b)/\b≠X.env.locals/\(∀x c,X.env.cells.lookup x=some c->c≠b)/\∀p∈X.pn++pins,p.1≠b):Inv X pins σ H' s':=by
 obtain⟨h',j,m,t',o'⟩:=s';have e :=ho;subst e;exact I.call u hok J G
end
abbrev XK:=Value->Option Addr->Hp->Prop
abbrev St:=List (Option V)
abbrev VK:=V->Hp->Prop
abbrev TE:=St->Hp->VK->Prop
abbrev TT:=St->Hp->(Bool->Hp->Prop)->Prop
abbrev TA:=St->Hp->(List V->Hp->Prop)->Prop
structure Ends where
 nx:St->Hp->Prop
 rt:VK
 bk:St->Hp->Prop:=λ_ _=>False
 ct:St->Hp->Prop:=λ_ _=>False
abbrev TS:=Ends->St->Hp->Prop
inductive EP (X:Cx) (pins:List (Addr×Obj)) (σ:St) (Q:VK) (u:Value) (s':ap):Prop
 |mk v H':Inv X pins σ H' s'->RelV v u->Q v H'->EP X pins σ Q u s'
def TP(X:Cx)(pins:List (Addr×Obj))(σ:St)(Q:Bool->Hp->Prop)(b:Bool)(s':ap):Prop:=∃H',Inv X pins σ H' s'/\Q b H'
inductive AP (X:Cx) (pins:List (Addr×Obj)) (σ:St) (Q:List V->Hp->Prop) (us:List Value) (s':ap):Prop
 |mk vs H':Inv X pins σ H' s'->Vals vs us->Q vs H'->AP X pins σ Q us s'
def SP(X:Cx)(pins:List (Addr×Obj))(D:Ends)(f:Flow)(s':ap):Prop :=
 match f with
 |.next=>∃σ' H',Inv X pins σ' H' s'/\D.nx σ' H'
 |.brk=>∃σ' H',Inv X pins σ' H' s'/\D.bk σ' H'
 |.cont=>∃σ' H',Inv X pins σ' H' s'/\D.ct σ' H'
 |.ret u=>∃v σ' H',Inv X pins σ' H' s'/\RelV v u/\D.rt v H'
def PE(X:Cx)(e:Expr)(t:TE):Prop :=
 ∀pins s (σ:St) H Q,Inv X pins σ H s->t σ H Q->av (model X.prog X.w) X.A (eval e X.env) (EP X pins σ Q) X.xe s
def PT(X:Cx)(e:Expr)(t:TT):Prop :=
 ∀pins s (σ:St) H Q,Inv X pins σ H s->t σ H Q->av (model X.prog X.w) X.A (isTrue e X.env (eval e X.env)) (TP X pins σ Q) X.xe s
def PW(X:Cx)(e:Expr)(t:TT):Prop :=
 ∀whole pins s (σ:St) H Q,Inv X pins σ H s->t σ H Q->av (model X.prog X.w) X.A (isTrue e X.env whole) (TP X pins σ Q) X.xe s
def PW.pt(h:PW X e t):PT X e t:=h _
def PA(X:Cx)(es:List Expr)(t:TA):Prop :=
 ∀pos pins s (σ:St) H Q,Inv X pins σ H s->t σ H Q->av (model X.prog X.w) X.A (spliced (bB pos (ai es X.env))) (AP X pins σ Q) X.xe s
def PS(X:Cx)(st:Stmt)(t:TS):Prop :=
 ∀pins s (σ:St) H D,Inv X pins σ H s->t D σ H->av (model X.prog X.w) X.A (exec st X.env) (SP X pins D) X.xe s
def PSs(X:Cx)(st:List Stmt)(t:TS):Prop :=
 ∀pins s (σ:St) H D,Inv X pins σ H s->t D σ H->av (model X.prog X.w) X.A (execs st X.env) (SP X pins D) X.xe s
def thn(h:av M A t Q E s)(G:∀a s,Q a s->J a s):av M A t J E s:=b8 h G λ_ _ x=>x
section
variable{X:Cx}
def tVar(i:Nat):TE:=λσ H Q=>∃v,σ[i]?=some (some v)/\Q v H
def tC(v:V):TE:=λ_ H Q=>Q v H
def pe_var(J:X.N[i]?=some x)(O:Vis X.env.scope x)(hd:(x=="__debug__")=false:=by decide)(G:(x=="__classdict__")=false:=by decide):PE X (.Name x pos) (tVar i):=by
 intro pins s σ H Q I h;obtain⟨v,e,h⟩:=h;obtain⟨m,hn,D⟩:=I.loc;obtain⟨u,r,l⟩:=D i x v J e O;have fin:EP X pins σ Q u s:=⟨v,H,I,r,h⟩
 rcases l with⟨B,hm⟩|⟨B,c,hc,j⟩
 .exact g1 (l6 I.ok.kind B hn hm fin) hd
 .rcases B with B | B
  .exact g1 (wpAny_loadName_cell I.ok.kind B hc j fin) hd
  .exact g1 (wpAny_loadName_free I.ok.kind B hc j fin G) hd
def pe_int:PE X (.Constant (.int i) j pos) (tC (.int i)):=λ_ _ _ H _ I h=>wpAny_Constant_int ⟨.int i,H,I.tok _,⟨_,rfl⟩,h⟩
def pe_bl:PE X (.Constant (.bool b) j pos) (tC (.bl b)):=λ_ _ _ H _ I h=>Constant_bool ⟨.bl b,H,I,rfl,h⟩
def pe_non:PE X (.Constant .none j pos) (tC .non):=λ_ _ _ H _ I h=>Constant_none ⟨.non,H,I,rfl,h⟩
def pe_str:PE X (.Constant (.str x) j pos) (tC (.str x)):=λ_ _ _ H _ I h=>gq ⟨.str x,H,I.tok _,⟨_,rfl⟩,h⟩
def Gl(X:Cx)(x:Str):Prop:=X.env.kindOf x=some .globalImplicit
def QdL(I:Inv X pins σ H s)(G:Gl X x)(hm:X.mg x=some u)(h:Q u s)(hd:(x=="__debug__")=false:=by decide):av (model X.prog X.w) X.A (eval (.Name x pos) X.env) Q E s :=
 kD I.ok.kind G (Calls.loadGlobal_global (by rw[I.ok.glob];exact I.mod.glob.keeps I.bk) hm h) hd
def QgT(I:Inv X pins σ H s)(G:Gl X x)(hm:X.mg x=none)(J:cy x=some u)(h:Q u s)(hn:x≠"__name__":=by decide)(hd:(x=="__debug__")=false:=by decide):av (model X.prog X.w) X.A (eval (.Name x pos) X.env) Q E s:=by
 obtain⟨mb,h1,h2⟩:=I.mod.blt;exact kD I.ok.kind G (Calls.loadGlobal_builtin (by rw[I.ok.glob];exact I.mod.glob.keeps I.bk) hm (by rw[I.ok.blt];exact h1.keeps I.bk) ((h2 x hn).trans J) h) hd
def Qiz(G:Gl X x)(hm:X.mg x=some u)(r:RelV v u)(hd:(x=="__debug__")=false:=by decide):PE X (.Name x pos) (tC v) :=
 λ_ _ _ H _ I h=>QdL I G hm ⟨v,H,I,r,h⟩ hd
def Qna(G:Gl X x)(hm:X.mg x=none)(J:cy x=some u)(r:RelV v u)(hn:x≠"__name__":=by decide)(hd:(x=="__debug__")=false:=by decide):PE X (.Name x pos) (tC v) :=
 λ_ _ _ H _ I h=>QgT I G hm J ⟨v,H,I,r,h⟩ hn hd
def t2I(ta tb:TE)(k:Int->Int->Hp->Prop):St->Hp->Prop:=λσ H=>ta σ H λx H1=>tb σ H1 λy H2=>∃i j,x = .int i/\y = .int j/\k i j H2
variable{a b:Expr}{ta tb:TE}{pos:Pos}
def tCmp(p:Int->Int->Bool)(ta tb:TE):TE:=λσ H Q=>t2I ta tb (λi j H2=>Q (.bl (p i j)) H2) σ H
abbrev tLe:TE->TE->TE:=tCmp λi j=>decide (i<=j)
def tB(t:TE):TT:=λσ H Q=>t σ H λx H1=>∃c,x = .bl c/\Q c H1
variable{tA tB':TT}{rest:List Expr}
def tAnd(t u:TT):TT:=λσ H Q=>t σ H λc H1=>if c=true then u σ H1 Q else Q false H1
def tOr(t u:TT):TT:=λσ H Q=>t σ H λc H1=>if c=true then Q true H1 else u σ H1 Q
def tNot(t:TT):TT:=λσ H Q=>t σ H λc H1=>Q (!c) H1
def pw_and1(G:PT X a tA):PW X (.BoolOp .And [a] pos) tA:=by
 intro j pins s σ H Q I h;refine isTrue_and (thn (G pins s σ H Q I h) λc s1 e=>?_);grind[isTrue_and_nil]
def pw_or1(G:PT X a tA):PW X (.BoolOp .Or [a] pos) tA:=by
 intro j pins s σ H Q I h;refine isTrue_or (thn (G pins s σ H Q I h) λc s1 e=>?_);cases c with
 |false=>exact isTrue_or_nil e
 |true=>exact e
def pw_and(G:PT X a tA)(J:PW X (.BoolOp .And (b::rest) pos) tB'):PW X (.BoolOp .And (a::b::rest) pos) (tAnd tA tB'):=by
 intro B pins s σ H Q I h;refine isTrue_and (thn (G pins s σ H _ I h) λc s1 ⟨H1,j,m⟩=>?_);cases c with
 |true=>exact J B pins s1 σ H1 Q j m
 |false=>exact⟨H1,j,m⟩
def pw_or(G:PT X a tA)(J:PW X (.BoolOp .Or (b::rest) pos) tB'):PW X (.BoolOp .Or (a::b::rest) pos) (tOr tA tB'):=by
 intro B pins s σ H Q I h;refine isTrue_or (thn (G pins s σ H _ I h) λc s1 ⟨H1,j,m⟩=>?_);cases c with
 |true=>exact⟨H1,j,m⟩
 |false=>exact J B pins s1 σ H1 Q j m
def pt_not(G:PT X a tA):PT X (.UnaryOp .Not a pos) (tNot tA):=by
 intro pins s σ H Q I h;exact isTrue_not (G pins s σ H (λc H1=>Q (!c) H1) I h)
def tAndV(ta tb:TE):TE:=λσ H Q=>ta σ H λx H1=>∃c,x = .bl c/\if c=true then tb σ H1 Q else Q (.bl false) H1
def tOrV(ta tb:TE):TE:=λσ H Q=>ta σ H λx H1=>∃c,x = .bl c/\if c=true then Q (.bl true) H1 else tb σ H1 Q
def tNotV(ta:TE):TE:=λσ H Q=>ta σ H λx H1=>∃c,x = .bl c/\Q (.bl (!c)) H1
def pe_one(h:PE X a t):PE X (.BoolOp G [a] pos) t:=λpins s σ H Q I hw=>BoolOp_one (h pins s σ H Q I hw)
def pe_and(G:PE X a ta)(J:PE X (.BoolOp .And (b::rest) pos) tb):PE X (.BoolOp .And (a::b::rest) pos) (tAndV ta tb):=by
 intro pins s σ H Q I h;refine BoolOp_and (thn (G pins s σ H _ I h) λv s1 ⟨x,H1,m,B,j⟩=>?_);obtain⟨c,rfl,j⟩:=j;cases B;refine cx ?_;cases c with
 |true=>exact J pins s1 σ H1 Q m j
 |false=>exact⟨.bl false,H1,m,rfl,j⟩
def pe_or(G:PE X a ta)(J:PE X (.BoolOp .Or (b::rest) pos) tb):PE X (.BoolOp .Or (a::b::rest) pos) (tOrV ta tb):=by
 intro pins s σ H Q I h;refine BoolOp_or (thn (G pins s σ H _ I h) λv s1 ⟨x,H1,m,B,j⟩=>?_);obtain⟨c,rfl,j⟩:=j;cases B;refine cx ?_;cases c with
 |false=>exact J pins s1 σ H1 Q m j
 |true=>exact⟨.bl true,H1,m,rfl,j⟩
def pe_not(G:PE X a ta):PE X (.UnaryOp .Not a pos) (tNotV ta):=by
 intro pins s σ H Q I h;refine UnaryOp_ (thn (G pins s σ H _ I h) λv s1 ⟨x,H1,m,B,j⟩=>?_);obtain⟨c,rfl,j⟩:=j;cases B;exact not_of (cx ⟨.bl (!c),H1,m,rfl,j⟩)
def tIf(t:TT)(ta tb:TE):TE:=λσ H Q=>t σ H λc H1=>if c=true then ta σ H1 Q else tb σ H1 Q
def pe_ifExp(hc:PT X c tA)(G:PE X a ta)(J:PE X b tb):PE X (.IfExp c a b pos) (tIf tA ta tb):=by
 intro pins s σ H Q I h;refine wpAny_IfExp (thn (hc pins s σ H _ I h) λd s1 ⟨H1,j,m⟩=>?_);cases d with
 |true=>exact G pins s1 σ H1 Q j m
 |false=>exact J pins s1 σ H1 Q j m
end
def SqL(K:ac)(H:Hp)(a:Addr)(xs:List V):Prop :=
 Rd H a (.lst xs) \/
  ∃(o:Obj)(j:Array Value)(n:Nat),K.lookup a=some o/\o.cls = .type "list"/\o.dict=none/\o.data = .seq j n/\j.size<=ax/\Vals xs j.toList
def SqT(K:ac)(H:Hp)(a:Addr)(xs:List V):Prop :=
 Rd H a (.tup xs) \/
  ∃(o:Obj)(j:Array Value)(n:Nat),K.lookup a=some o/\o.cls = .type "tuple"/\o.dict=none/\o.data = .seq j n/\j.size<=ax/\Vals xs j.toList
def absV:Value->Option V
 |.none=>some .non
 |.bool b=>some (.bl b)
 |.int i _=>some (.int i)
 |.str x _=>some (.str x)
 |.bytes b _=>some (.byt b)
 |.float b _=>some (.flt b)
 |.ref a=>some (.ref a)
 |.type n=>some (.ty n)
 |_=>none
def RelV.abs(r:RelV x u):absV u=some x:=by
 cases x with
 |non=>cases r;rfl
 |bl _=>cases r;rfl
 |int _=>obtain⟨t,rfl⟩:=r;rfl
 |str _=>obtain⟨t,rfl⟩:=r;rfl
 |byt _=>obtain⟨t,rfl⟩:=r;rfl
 |flt _=>obtain⟨t,rfl⟩:=r;rfl
 |ref _=>cases r;rfl
 |ty _=>cases r;rfl
def RelV.inj(r:RelV x u)(q:RelV y u):x=y:=aR (r.abs.symm.trans q.abs)
theorem Vals.inj:∀{xs ys:List V}{us:List Value},Vals xs us->Vals ys us->xs=ys
 |_,_,_,.nil,.nil=>rfl
 |_,_,_,.cons r t,.cons j t'=>by rw[r.inj j,Vals.inj t t']
section
variable{X:Cx}{pins:List (Addr×Obj)}{σ:St}{H:Hp}{s:ap}{a:Addr}{xs ys:List V}
def SqL.of{K:ac}(h:H a=some (.lst xs)):SqL K H a xs := .inl (.inl h)
def SqT.of{K:ac}(h:H a=some (.tup xs)):SqT K H a xs := .inl (.inl h)
def Inv.list(I:Inv X pins σ H s)(h:SqL X.K H a xs):∃G ,Vals xs G/\PlainL s.heap a G.toArray/\xs.length<=ax:=by
 rcases h with h|⟨o,G,n,j,hc,hd,hs,hz,r⟩
 .obtain⟨z,G,n,r,e⟩:=h.ok I.hok;exact⟨G,r,⟨_,n,e,rfl,rfl,rfl⟩,z⟩
 .refine⟨G.toList,r,⟨o,n,I.kIn a o j,hc,hd,by simpa using hs⟩,?_⟩;have e:=r.length;grind
def Inv.tupleD(I:Inv X pins σ H s)(h:SqT X.K H a xs):∃G ,Vals xs G/\Xd s.heap a G.toArray xs/\xs.length<=ax:=by
 rcases h with h|⟨o,G,n,j,hc,hd,hs,hz,r⟩
 .obtain⟨z,G,r,p⟩:=h.ok I.hok;exact⟨G,r,p,z⟩
 .refine⟨G.toList,r,⟨o,I.kIn a o j,hc,.inl hd,n,by simpa using hs⟩,?_⟩;have e:=r.length;simp at e;omega
def Inv.tuple(I:Inv X pins σ H s)(h:SqT X.K H a xs):∃G ,Vals xs G/\jR s.heap a G.toArray/\xs.length<=ax :=
 let ⟨G,r,p,z⟩:=I.tupleD h
 ⟨G,r,p.is,z⟩
def Inv.list_inj(I:Inv X pins σ H s)(h:SqL X.K H a xs)(h':SqL X.K H a ys):xs=ys:=by
 obtain⟨j,r,⟨o,n,e,_,_,d⟩,_⟩:=I.list h;obtain⟨its',D,⟨o',E,m,_,_,B⟩,_⟩:=I.list h';rw[e]at m;cases m;rw[d]at B;injection B with G _
 have:j=its':=by grind
 subst this;exact r.inj D
def Inv.tuple_inj(I:Inv X pins σ H s)(h:SqT X.K H a xs)(h':SqT X.K H a ys):xs=ys:=by
 obtain⟨j,r,⟨o,e,_,n,d⟩,_⟩:=I.tuple h;obtain⟨its',D,⟨o',m,_,E,B⟩,_⟩:=I.tuple h';rw[e]at m;cases m;rw[d]at B;injection B with G _
 have:j=its':=by grind
 subst this;exact r.inj D
end
abbrev Cx.wish(X:Cx)(E:Value->ap->Prop):Cx:={ X with xe:=E }
abbrev Cx.nox(X:Cx):Cx:=X.wish λ_ _=>False
def Cx.Ok.wish{X:Cx}(ok:X.Ok) E:(X.wish E).Ok :=
 ⟨ok.mod,ok.kind,ok.glob,ok.blt,ok.above,ok.inj,ok.has,ok.cab,ok.hd,ok.frames,ok.stk,ok.exf,ok.bs,ok.bsz,ok.noex,ok.exfs,ok.funs,ok.frf⟩
def Cx.Ok.unwish{X:Cx}(ok:(X.wish E).Ok):X.Ok :=
 ⟨ok.mod,ok.kind,ok.glob,ok.blt,ok.above,ok.inj,ok.has,ok.cab,ok.hd,ok.frames,ok.stk,ok.exf,ok.bs,ok.bsz,ok.noex,ok.exfs,ok.funs,ok.frf⟩
section
variable{X:Cx}{pins:List (Addr×Obj)}{σ:St}{H:Hp}{s:ap}{E:Value->ap->Prop}
def Inv.wish(I:Inv X pins σ H s) E:Inv (X.wish E) pins σ H s:=⟨I.ok.wish E,I.os,I.bare,I.base,I.loc,I.cell,I.free,I.freeC,I.pin,I.hok,I.len⟩
def Inv.unwish(I:Inv (X.wish E) pins σ H s):Inv X pins σ H s:=⟨I.ok.unwish,I.os,I.bare,I.base,I.loc,I.cell,I.free,I.freeC,I.pin,I.hok,I.len⟩
def SP.unwish(h:SP (X.wish E) pins D f s'):SP X pins D f s':=by
 cases f with
 |next=>obtain⟨σ',H',I,q⟩:=h;exact⟨σ',H',I.unwish,q⟩
 |brk=>obtain⟨σ',H',I,q⟩:=h;exact⟨σ',H',I.unwish,q⟩
 |cont=>obtain⟨σ',H',I,q⟩:=h;exact⟨σ',H',I.unwish,q⟩
 |ret u=>obtain⟨v,σ',H',I,r,q⟩:=h;exact⟨v,σ',H',I.unwish,r,q⟩
def PT.nox(h:PT X.nox e t):PT X e t:=λpins s σ H Q I hw =>
 b8 (h pins s σ H Q (I.wish _) hw) (λ_ _ ⟨H',j,q⟩=>⟨H',j.unwish,q⟩) λ_ _ z=>cB z
def PSs.nox{st:List Stmt}(h:PSs X.nox st t):PSs X st t:=λpins s σ H D I hw =>
 b8 (h pins s σ H D (I.wish _) hw) (λ_ _ q=>q.unwish) λ_ _ z=>cB z
end
section
variable{X:Cx}{st:Stmt}{rest:List Stmt}{t u:TS}{e:Expr}{te:TE}{pos:Pos}
def tNext:TS:=λD σ H=>D.nx σ H
def tSeq(t u:TS):TS:=λD σ H=>t { D with nx:=u D } σ H
def QmW:PSs X [] tNext:=λ_ _ σ H _ I h=>fK ⟨σ,H,I,h⟩
def Qbz(h1:PS X st t)(h2:PSs X rest u):PSs X (st::rest) (tSeq t u):=by
 intro pins s σ H D I h;refine jo (thn (h1 pins s σ H { D with nx:=u D } I h) λf s1 q=>?_);cases f with
 |next =>
  obtain⟨σ',H',j,q⟩:=q;exact h2 pins s1 σ' H' D j q
 |ret v=>exact q
 |brk=>exact q
 |cont=>exact q
def QdI(h1:PS X st t):PSs X [st] t:=by
 intro pins s σ H D I h;refine jo (thn (h1 pins s σ H D I h) λf s1 q=>?_);cases f with
 |next=>exact fK q
 |ret v=>exact q
 |brk=>exact q
 |cont=>exact q
def Inv.quiet(I:Inv X pins σ H s):interactive X.env=false:=by simp[interactive,I.ok.kind]
def QlV(te:TE):TS:=λD σ H=>te σ H λ_ H1=>D.nx σ H1
def Ys(he:PE X e te)(hs:cp e none pos.line X.env=pure false:=by rfl):PS X (.Expr e pos) (QlV te):=by
 intro pins s σ H D I h;exact wpAny_Expr_any (thn (he pins s σ H _ I h) λv s1 ⟨x,H1,j,B,m⟩=>⟨σ,H1,j,m⟩) I.quiet hs
def tRet(te:TE):TS:=λD σ H=>te σ H D.rt
def QiS(he:PE X e te):PS X (.Return (some e) pos) (tRet te):=by
 intro pins s σ H D I h;exact wpAny_Return_some (thn (he pins s σ H _ I h) λv s1 ⟨x,H1,j,m,B⟩=>⟨x,σ,H1,j,m,B⟩)
def tIfS(c:TT)(t u:TS):TS:=λD σ H=>c σ H λb H1=>if b=true then t D σ H1 else u D σ H1
def ps_if(hc:PT X c tc)(G:PSs X a t)(J:PSs X b u):PS X (.If c a b pos) (tIfS tc t u):=by
 intro pins s σ H D I h;refine wpAny_If (thn (hc pins s σ H _ I h) λd s1 ⟨H1,j,m⟩=>?_);cases d with
 |true=>exact G pins s1 σ H1 D j m
 |false=>exact J pins s1 σ H1 D j m
end
abbrev TG:=V->St->Hp->(St->Hp->Prop)->Prop
abbrev TGs:=List V->St->Hp->(St->Hp->Prop)->Prop
def PG(X:Cx)(target:Expr)(t:TG):Prop :=
 ∀pins s (σ:St) H v u Q,Inv X pins σ H s->RelV v u->t v σ H Q ->
  av (model X.prog X.w) X.A (assign target X.env u) (λ_ s'=>∃σ' H',Inv X pins σ' H' s'/\Q σ' H') X.xe s
def PGs(X:Cx)(ts:List Expr)(t:TGs):Prop :=
 ∀pins s (σ:St) H vs us Q,Inv X pins σ H s->Vals vs us->t vs σ H Q ->
  av (model X.prog X.w) X.A (assignInOrder ((ge ts X.env).map (·.2)) us) (λ_ s'=>∃σ' H',Inv X pins σ' H' s'/\Q σ' H') X.xe s
abbrev TSet:=V->V->V->Hp->(Hp->Prop)->Prop
def PSet(X:Cx)(t:TSet):Prop :=
 ∀pins s (σ:St) H o i v j iv u Q,Inv X pins σ H s->RelV o j->RelV i iv->RelV v u->t o i v H Q ->
  av (model X.prog X.w) X.A (setItem j iv u) (λ_ s'=>∃H',Inv X pins σ H' s'/\Q H') X.xe s
section
variable{X:Cx}{pos:Pos}
def QjH(i:Nat):TG:=λv σ H Q=>Q (σ.set i (some v)) H
def QS(G:X.N.Nodup)(hi:X.N[i]?=some x)(J:Loc X.env.scope x)(hf:X.fn x=true\/X.env.scope.names.lookup x=some .local:=by first | exact .inl rfl | exact .inr rfl | assumption):PG X (.Name x pos) (QjH i):=by
 intro pins s σ H v u Q I r h;exact wpAny_assign_Name (Qde I G hi J r (λs' j=>⟨_,H,j,h⟩) hf)
def gNil:TGs:=λvs σ H Q=>vs=[]/\Q σ H
def gCons(t:TG)(u:TGs):TGs:=λvs σ H Q=>∃v r,vs=v::r/\t v σ H λσ' H'=>u r σ' H' Q
def QmZ:PGs X [] gNil:=by
 intro pins s σ H vs us Q I r h;obtain⟨e,h⟩:=h;subst e;cases r;exact assignInOrder_nil ⟨σ,H,I,h⟩
def Qdn(h1:PG X e t)(h2:PGs X es u)(hs:(ge (e::es) X.env).map (·.2)=assign e X.env::(ge es X.env).map (·.2):=by rfl):PGs X (e::es) (gCons t u):=by
 intro pins s σ H vs us Q I r h;obtain⟨v,E,e1,h⟩:=h;subst e1;cases r with
 |cons r m =>
  rw[hs];refine assignInOrder_cons (thn (h1 pins s σ H _ _ _ I r h) λ_ s1 ⟨j,H1,B,D⟩=>?_);exact h2 pins s1 j H1 _ _ Q B m D
def gTup(K:ac)(n:Nat)(t:TGs):TG:=λv σ H Q=>∃a xs,v = .ref a/\SqT K H a xs/\xs.length=n/\t xs σ H Q
def pg_tup(hc:X.calm=true)(h:PGs X es t)(hn:(ge es X.env).length=n:=by rfl)(G:(ge es X.env).findIdx? (·.1)=none:=by rfl):PG X (.Tuple es k pos) (gTup X.K n t):=by
 intro pins s σ H v u Q I r hw;obtain⟨a,xs,e1,j,m,hw⟩:=hw;subst e1;cases r;obtain⟨B,D,E,hz⟩:=I.tuple j;refine assign_Tuple_tuple (I.ok.hd hc) E (by simp[hn,<-m,D.length]) G λh' J=>?_;have L :=I.kept (t':=s.toks) λb o e=>J b o (aC (ay e)) e;exact h pins _ σ H xs _ Q L (by grind) hw
def gSub(to G:TE)(t:TSet):TG:=λv σ H Q=>to σ H λo H1=>G σ H1 λi H2=>t o i v H2 λj=>Q σ j
def pg_sub{o i:Expr}{to J:TE}{t:TSet}(ho:PE X o to)(hi:PE X i J)(hs:PSet X t)(O:∀v,assign (.Subscript o i pos) X.env v=(do
   let G <-holding [v] (eval o X.env);let iv <-holding [v,G] (eval i X.env)
   standAt pos
   holding [v,G,iv] (setItem G iv v)
   release [v,G,iv] []):=by intro _;rfl):PG X (.Subscript o i pos) (gSub to J t):=by
 intro pins s σ H v u Q I r h;rw[O];refine aa (bd (thn (ho pins s σ H _ I h) λG s1 ⟨x,H1,j,m,B⟩=>?_));refine aa (bd (thn (hi pins s1 σ H1 _ j B) λiv s2 ⟨y,H2,D,E,L⟩=>?_));refine aa (gI (aa (bd (thn (hs pins s2 σ H2 x y v G iv u _ D m E r L) λ_ Y ⟨M,T,U⟩=>?_))));exact wpAny_release ⟨σ,M,T,U⟩
def tAsg(te:TE)(g:TG):TS:=λD σ H=>te σ H λx H1=>g x σ H1 D.nx
def ps_asg(he:PE X e te)(G:PG X tg g)(hs:swapsWithSole [tg] e pos.line X.env=pure false:=by rfl)(hw:swappedStores [tg] e X.env=pure none:=by rfl)(h1:(ge [tg] X.env).map (·.2)=[assign tg X.env]:=by rfl):PS X (.Assign [tg] e pos) (tAsg te g):=by
 intro pins s σ H D I h;refine wpAny_Assign_stores (thn (he pins s σ H _ I h) λv s1 ⟨x,H1,j,m,B⟩=>?_) hs hw;rw[h1];exact thn (G pins s1 σ H1 x v _ j m B) λ_ s2 q=>q
def QeT(G:X.N.Nodup)(hi:X.N[i]?=some x)(J:Loc X.env.scope x)(he:PE X e te)(hs:cp e (some (.Name x pos')) pos.line X.env=pure false:=by rfl)(hf:X.fn x=true\/X.env.scope.names.lookup x=some .local:=by first | exact .inl rfl | exact .inr rfl | assumption) :
  PS X (.Assign [.Name x pos'] e pos) (tAsg te (QjH i)):=by
 intro pins s σ H D I h;refine wpAny_Assign_Name (thn (he pins s σ H _ I h) λv s1 ⟨y,H1,j,m,B⟩=>?_) hs;exact Qde j G hi J m (λs2 E=>⟨_,H1,E,B⟩) hf
end
structure It where
 go:Nat->Hp->Prop
 yld:Nat->Hp->V->Hp->Prop
 stop:Nat->Hp->Prop
def FpOk(X:Cx)(pins:List (Addr×Obj))(H:Hp)(b:Addr):Prop :=
 H b=none/\b≠X.env.locals/\b∉X.fs/\(b∈X.ex\/X.s₀.heap.objs.size<=b)/\(∀x c,X.env.cells.lookup x=some c->c≠b)/\∀p∈X.pn++pins,p.1≠b
def Inv.fpOk(I:Inv X pins σ H s)(G:s.heap.objs.size<=b)(hn:H' b=none):FpOk X pins H' b:=by
 refine⟨hn,dY (aG I.lt G),I.nofs G,.inr (aS I.sz G),λx c e z=>?_,λp j z=>?_⟩
 .obtain⟨v,q⟩:=I.cell x c e;exact absurd (aG q.lt (by rw[z];exact G)) (bX _)
 .exact absurd (aG (ay (I.pin p j).1) (by rw[z];exact G)) (bX _)
structure Turn (P:aN) (w:bg) (K:ac) (tg:Expr) (J:It) (fp:List Addr) (it:Addr) (tn:Nat->Heap->Prop):Prop where
 mem:it∈fp
 obj:∀i h,tn i h->∀b∈fp,∃o,h.get? b=some o/\∀v,o.data≠.cell v
 keep:∀i h h',tn i h->(∀b∈fp,∀o,h.get? b=some o->h'.get? b=some o)->tn i h'
 item:∀(X:Cx),X.prog=P->X.w=w->X.K=K->X.calm=true->∀(i:Nat)(pins:List (Addr×Obj))(s:ap)(σ:St)(H:Hp)(E:Value->ap->Prop),Inv X pins σ H s->(∀b∈fp,FpOk X pins H b)->tn i s.heap->J.go i H ->
  av (model P w) X.A (kd (.ref it)) (λr s1=>∃u,r=some u /\
   av (model P w) X.A (jJ tg (.ref it) u) (λ_ s2=>∃x H',Inv X pins σ H' s2/\RelV x u/\J.yld i H x H'/\tn (i+1) s2.heap/\∀b∈fp,H' b=none) E s1) E s
 done:∀(X:Cx),X.prog=P->X.w=w->X.K=K->X.calm=true->∀(i:Nat)(pins:List (Addr×Obj))(s:ap)(σ:St)(H:Hp)(E:Value->ap->Prop),Inv X pins σ H s->(∀b∈fp,FpOk X pins H b)->tn i s.heap->J.stop i H ->
  av (model P w) X.A (kd (.ref it)) (λr s1=>r=none/\Inv X pins σ H s1) E s
 self:∀(A:bG)(i:Nat)(s:ap)(Q:Value->ap->Prop)(E:Value->ap->Prop),tn i s.heap->Q (.ref it) s->av (model P w) A (ke (.ref it)) Q E s
abbrev TI:=St->Hp->(It->Hp->Prop)->Prop
def PIE(X:Cx)(pins:List (Addr×Obj))(σ:St)(tg:Expr)(R:It->Hp->Prop)(G:Value)(s2:ap):Prop :=
 ∃(it:Addr)(fp:List Addr)(j:Nat->Heap->Prop)(J:It)(H':Hp),G = .ref it/\Inv X pins σ H' s2/\Turn X.prog X.w X.K tg J fp it j/\j 0 s2.heap/\(∀b∈fp,FpOk X pins H' b)/\R J H'
def PI(X:Cx)(tg iter:Expr)(wi:TI):Prop :=
 ∀pins s (σ:St) H R,Inv X pins σ H s->wi σ H R ->
  av (model X.prog X.w) X.A (eval iter X.env) (λv s1=>av (model X.prog X.w) X.A (ke v) (PIE X pins σ tg R) X.xe s1) X.xe s
def Qpi(ho:s.heap.get? it=some o)(hc:o.cls = .type n)(hd:o.data = .fields vs)(hn:["enumerate","zip","dict_itemiterator","dict_reverseitemiterator","odict_iterator","itertools.zip_longest","itertools.pairwise"].contains n=false)(G:Q () s):av M A (jJ tg (.ref it) u) Q E s:=by
  cases tg<;>first
    |exact af G
    | (cases u<;>first
        |exact af G
        | (refine aa (wpAny_load ho ?_)
           rw[hc,hd];show av M A (if (["enumerate","zip","dict_itemiterator","dict_reverseitemiterator","odict_iterator","itertools.zip_longest","itertools.pairwise"].contains n&&vs[0]?==some (bA _))=true then _ else _) Q E s;rw[ar (by grind)];exact af G))
def Itl(K:ac)(a:Addr):It :=
 ⟨λi H=>∃xs x,SqL K H a xs/\xs[i]?=some x,λi H x H'=>H'=H/\∀xs,SqL K H a xs->xs[i]?=some x,λi H=>∃xs,SqL K H a xs/\xs.length<=i⟩
def Itt(K:ac)(a:Addr):It :=
 ⟨λi H=>∃xs x,SqT K H a xs/\xs[i]?=some x,λi H x H'=>H'=H/\∀xs,SqT K H a xs->xs[i]?=some x,λi H=>∃xs,SqT K H a xs/\xs.length<=i⟩
def Itr(lo:Int)(n:Nat):It:=⟨λi _=>i<n,λi H x H'=>H'=H/\x = .int (lo+i),λi _=>n<=i⟩
def QnP{K:ac} a it:Turn P w K tg (Itl K a) [it] it (λi h=>h.IsListIter it a i) where
 mem:=by simp
 obj:=λi h st b j=>by
  have e :=by simpa using j
  subst e;obtain⟨o,e,c,d⟩:=st;exact⟨o,e,λv z=>by rw[d]at z;cases z⟩
 keep:=λi h h' st k=>st.at λo e=>k it (by simp) o e
 item:=by
  intro X D hw G hc i pins s σ H E I hf st J;subst D hw G;obtain⟨xs,x,B,L⟩:=J;obtain⟨M,O,p,hz⟩:=I.list B;obtain⟨u,Y,ru⟩:=O.get L;obtain⟨f0,f1,f2,Q,T,U⟩:=hf it (by simp);refine wpAny_pyNext_list_item st p.isList (by simpa using Y) λh' m sb=>?_;have I1 :=I.turned (t':=s.toks) (λb o j e=>(sb.2 b j).trans e) f0 f1 Q T U;obtain⟨o,e,c,d⟩:=id m;exact⟨u,rfl,Qpi e c d (by decide) ⟨x,H,I1,ru,⟨rfl,λys hy=>by rw[I.list_inj hy B];exact L⟩,m,λb j=>(hf b j).1⟩⟩
 done:=by
  intro X D hw G hc i pins s σ H E I hf st J;subst D hw G;obtain⟨xs,B,L⟩:=J;obtain⟨M,O,p,hz⟩:=I.list B;obtain⟨f0,f1,f2,Q,T,U⟩:=hf it (by simp);have hl:=O.length;exact wpAny_pyNext_list_end (I.ok.hd hc) st p.isList (by simp;omega) λh' eb=>⟨rfl,I.turned (λb o j e=>eb b o j e) f0 f1 Q T U⟩
 self:=λ_ _ _ _ _ st h=>wpAny_pyIter_listiter st h
def Qlb{K:ac} a it:Turn P w K tg (Itt K a) [it] it (λi h=>h.IsTupleIter it a i) where
 mem:=by simp
 obj:=λi h st b j=>by
  obtain⟨o,e,c,d⟩:=st;grind
 keep:=λi h h' st k=>st.at λo e=>k it (by simp) o e
 item:=by
  intro X D hw G hc i pins s σ H E I hf st J;subst D hw G;obtain⟨xs,x,B,L⟩:=J;obtain⟨M,O,p,hz⟩:=I.tuple B;obtain⟨u,hu,Y⟩:=O.get L;obtain⟨f0,f1,f2,Q,T,U⟩:=hf it (by simp);refine wpAny_pyNext_tuple_item st (p) (x:=u) (by grind) λh' m sb=>?_;have I1 :=I.turned (t':=s.toks) (λb o j e=>(sb.2 b j).trans e) f0 f1 Q T U;obtain⟨o,e,c,d⟩:=id m;exact⟨u,rfl,Qpi e c d (by decide) ⟨x,H,I1,Y,⟨rfl,λys hy=>by rw[I.tuple_inj hy B];exact L⟩,m,λb j=>(hf b j).1⟩⟩
 done:=by
  intro X D hw G hc i pins s σ H E I hf st J;subst D hw G;obtain⟨xs,B,L⟩:=J;obtain⟨M,O,p,hz⟩:=I.tuple B;obtain⟨f0,f1,f2,Q,T,U⟩:=hf it (by simp);have hl:=O.length;exact wpAny_pyNext_tuple_end (I.ok.hd hc) st (p) (by simp;omega) λh' eb=>⟨rfl,I.turned (λb o j e=>eb b o j e) f0 f1 Q T U⟩
 self:=by grind[wpAny_pyIter_tupleiter]
def Qlc{K:ac} it lo n:Turn P w K tg (Itr lo n) [it] it (λi h=>IsRangeIter h it (lo+i*1) (n-i) 1) where
 mem:=by simp
 obj:=λi h st b j=>by
  have e :=by simpa using j
  subst e;exact⟨_,st,λv z=>by
   have O :=z;cases O⟩
 keep:=λi h h' st k=>k it (by simp) _ st
 item:=by
  intro X L hw M hc i pins s σ H E I hf st B;subst L hw M;obtain⟨f0,f1,f2,D,G,J⟩:=hf it (by simp);have W:=Walks.range (prog:=X.prog) (w:=X.w) (I.ok.hd hc) it lo 1 n;refine W.item i s _ _ B st λv h' tk Q m kk=>?_;obtain⟨t,rfl⟩:=Q;have T:Inv X pins σ H { s with heap:=h',toks:=tk }:=I.turned (λb o j e=>kk b o (by simpa using j) e) f0 f1 D G J;refine⟨_,rfl,Qpi m rfl rfl (by decide) ⟨.int (lo+i),H,T,⟨t,?_⟩,⟨rfl,rfl⟩,m,λb j=>(hf b j).1⟩⟩;rw[Int.mul_one]
 done:=by
  intro X L hw M hc i pins s σ H E I hf st B;obtain⟨f0,f1,f2,D,G,J⟩:=hf it (by simp);exact wpAny_pyNext_range_end (I.ok.hd hc) st (by have:n<=i:=B;omega) λh' U=>⟨rfl,I.turned (λb o j e=>U b o j e) f0 f1 D G J⟩
 self:=λ_ _ _ _ _ st h=>wpAny_pyIter_rangeiter st h
section
variable{X:Cx}{tg:Expr}
def iList(K:ac)(tl:TE):TI:=λσ H R=>tl σ H λx H1=>∃a,x = .ref a/\(∃xs,SqL K H1 a xs)/\R (Itl K a) H1
def iTup(K:ac)(tl:TE):TI:=λσ H R=>tl σ H λx H1=>∃a,x = .ref a/\(∃xs,SqT K H1 a xs)/\R (Itt K a) H1
def pi_list(G:PE X l tl):PI X tg l (iList X.K tl):=by
 intro pins s σ H R I h;refine thn (G pins s σ H _ I h) λv s1 ⟨x,H1,j,m,B⟩=>?_;obtain⟨a,e,⟨xs,D⟩,q⟩:=B;subst e;cases m;obtain⟨E,J,p,hz⟩:=j.list D;refine i6 p.isList ?_;refine⟨s1.heap.objs.size,[s1.heap.objs.size],_,_,H1,rfl,j.kept λb o e=>ag _ e,QnP a _,⟨_,aB _ rfl,rfl,rfl⟩,λb L=>?_,q⟩;have e:b=s1.heap.objs.size:=by grind
 subst e;exact j.fpOk (am _) (j.hok.fresh (am _))
def pi_tup(G:PE X l tl):PI X tg l (iTup X.K tl):=by
 intro pins s σ H R I h;refine thn (G pins s σ H _ I h) λv s1 ⟨x,H1,j,m,B⟩=>?_;obtain⟨a,e,⟨xs,D⟩,q⟩:=B;subst e;cases m;obtain⟨E,J,p,hz⟩:=j.tuple D;refine wpAny_pyIter_tuple (p) ?_;refine⟨s1.heap.objs.size,[s1.heap.objs.size],_,_,H1,rfl,j.kept λb o e=>ag _ e,Qlb a _,⟨_,aB _ rfl,rfl,rfl⟩,λb L=>?_,q⟩;have e:b=s1.heap.objs.size:=by grind
 subst e;exact j.fpOk (am _) (j.hok.fresh (am _))
def range_it{lo hi:Int}(I:Inv X pins σ H s)(h1 : -(2^62)<=lo)(h2:lo<2^62)(G : -(2^62)<=hi)(J:hi<2^62)(q:R (Itr lo (hi-lo).toNat) H):av (model X.prog X.w) X.A (ke (.ref s.heap.objs.size)) (PIE X pins σ tg R) E { s with heap:=s.heap.push { cls := .type "range",data := .fields #[.int lo t,.int hi u,.int 1 v] },toks:=tk }:=by
 refine wpAny_pyIter_range (IsRange.new ..) (small_one h1 h2 G J) ?_;have j:Inv X pins σ H { s with heap:=s.heap.push { cls := .type "range",data := .fields #[.int lo t,.int hi u,.int 1 v] },toks:=tk }:=I.kept λb o e=>ag _ e;refine⟨(s.heap.push { cls := .type "range",data := .fields #[.int lo t,.int hi u,.int 1 v] }).objs.size,[(s.heap.push { cls := .type "range",data := .fields #[.int lo t,.int hi u,.int 1 v] }).objs.size],_,_,H,rfl,
  j.kept λb o e=>ag _ e,Qlc _ lo (hi-lo).toNat,?_,λb m=>?_,q⟩
 .have e1:lo+((0:Nat))*1=lo:=by simp
  have e2:(((hi-lo).toNat))-((0:Nat))=iJ.Range.rangeSize lo hi 1:=by grind[rangeSize_one]
  rw[e1,e2];exact aB _ rfl
 .have e:b=(s.heap.push { cls := .type "range",data := .fields #[.int lo t,.int hi u,.int 1 v] }).objs.size:=by grind
  subst e;exact j.fpOk (am _) (j.hok.fresh (am _))
def iRng1(ta:TA):TI:=λσ H R=>ta σ H λvs H1=>∃j ,vs=[.int j] /\ -(2^62)<=j/\j<2^62/\R (Itr 0 j.toNat) H1
def Qho(G:Gl X "range")(hm:X.mg "range"=none)(J:PA X [a] ta)(hs:ai [a] X.env=[(false,eval a X.env)]:=by rfl):PI X tg (.Call (.Name "range" p) [a] [] pos) (iRng1 ta):=by
 intro pins s σ H R I h;refine Call_ (QgT I G hm boot_range (fq (thn (J pos pins s σ H _ I h) λus s1 ⟨vs,H1,B,D,m⟩=>?_) hs rfl));obtain⟨j,e,m,E,q⟩:=m;subst e;cases D with
 |cons r L =>
  cases L;obtain⟨t,rfl⟩:=r;exact call_range_1 (range_it B (by omega) (by omega) m E (by simpa using q))
def tFor(wi:TI)(g:TG)(tb:TS):TS:=λD σ H=>wi σ H λJ H1=>∃W:Nat->Nat->St->Hp->Prop,(∃m,W 0 m σ H1)/\∀i m σ H,W i m σ H ->
 (J.stop i H/\D.nx σ H)\/(J.go i H/\∃N ,(∀σ' H',N σ' H'->∃B,B<m/\W (i+1) B σ' H')/\∀x H',J.yld i H x H'->g x σ H' λj H2=>tb { D with nx:=N,ct:=N,bk:=D.nx } j H2)
def QgO(fp:List Addr)(h:Heap):List (Addr×Obj):=fp.filterMap λb=>(h.get? b).map λo=>(b,o)
def QaI(G:b∈fp)(e:h.get? b=some o):(b,o)∈QgO fp h:=bv.mpr ⟨b,G,by rw[e];rfl⟩
def Qon(G:p∈QgO fp h):p.1∈fp/\h.get? p.1=some p.2:=by
 obtain⟨b,j,e⟩:=bv.mp G;cases q:h.get? b with
 |none=>rw[q]at e;cases e
 |some o =>
  rw[q]at e;have m :=aR e;subst m;exact⟨j,q⟩
def Inv.pinned(I:Inv X pins σ H s)(hf:∀b∈fp,FpOk X pins H b)(ho:∀b∈fp,∃o,s.heap.get? b=some o/\∀v,o.data≠.cell v):Inv X (pins++QgO fp s.heap) σ H s :=
 I.pins_of λp B=>(aO.mp B).elim (λz=>I.pin p (bx _ z)) λz=>by
  obtain⟨j,e⟩:=Qon z;obtain⟨f0,f1,f2,_⟩:=hf p.1 j;obtain⟨o,m,d⟩:=ho p.1 j;rw[e]at m;cases m;exact⟨e,f0,f1,f2,d⟩
def Inv.unpinned(I:Inv X (pins++G) σ H s):Inv X pins σ H s:=I.pins_of λp j=>I.pin p (bx _ (kB _ j))
def QiT(U:gT (model X.prog X.w) X.A X.env X.xe)(hc:X.calm=true)(hi:PI X tg iter wi)(hg:PG X tg g)(G:PSs X body tb)(hs:∀x,cb iter X.env x=pure x:=by intro _;rfl):PS X (.For tg iter body [] pos) (tFor wi g tb):=by
 intro pins s σ H D I h;refine wpAny_For (thn (hi pins s σ H _ I h) λv s1 h1=>thn h1 λitv s2 h2=>?_) hs;obtain⟨it,fp,tn,J,H2,e,I2,T,st2,f2,W,⟨m0,w0⟩,turn⟩:=h2;subst e
 -- what stays true of the iterator's objects through the loop
 have B:∀{H':Hp},(∀b∈fp,H' b=none)->∀b∈fp,FpOk X pins H' b:=λhn b G=>⟨hn b G,(f2 b G).2⟩
 refine codeAny_forLoop_any (λn s'=>∃i σ' H',Inv X pins σ' H' s'/\tn i s'.heap/\(∀b∈fp,H' b=none)/\W i n σ' H') ?_ m0 ⟨0,σ,H2,I2,st2,λb G=>(f2 b G).1,w0⟩;rintro n s3 ⟨i,E,H3,I3,Y,fr3,w3⟩;rcases turn i n E H3 w3 with⟨stop,qn⟩|⟨go,N,hN,step⟩
 .refine fJ U (thn (T.done X rfl rfl rfl hc i pins s3 E H3 X.xe I3 (B fr3) Y stop) λr s4 ⟨hr,I4⟩=>?_);subst hr;exact fK ⟨E,H3,I4,qn⟩
 .refine fJ U (thn (T.item X rfl rfl rfl hc i pins s3 E H3 X.xe I3 (B fr3) Y go) λr s4 ⟨u,hr,h4⟩=>?_);subst hr;refine fJ U (thn h4 λ_ s5 ⟨x,H5,I5,r5,y5,Q,fr5⟩=>?_);have I5':=I5.pinned (B fr5) (T.obj _ _ Q);refine fJ U (thn (hg _ s5 E H5 x u _ I5' r5 (step x H5 y5)) λ_ s6 ⟨σ6,H6,I6,q6⟩=>?_);refine fJ U (thn (G _ s6 σ6 H6 _ I6 q6) λf s7 O=>?_);have again:∀{j:St}{L:Hp},Inv X (pins++QgO fp s5.heap) j L s7->N j L->∃m,m<n/\∃i σ' H',Inv X pins σ' H' s7/\tn i s7.heap/\(∀b∈fp,H' b=none)/\W i m σ' H':=λ{j L} M n7=>by
   obtain⟨m',hm,w7⟩:=hN j L n7;refine⟨m',hm,i+1,j,L,M.unpinned,T.keep _ _ _ Q λb G o e=>(M.pin (b,o) (bx _ (bx _ (QaI G e)))).1,λb G=>?_,w7⟩;obtain⟨o,e,d⟩:=T.obj _ _ Q b G;exact(M.pin (b,o) (bx _ (bx _ (QaI G e)))).2.1
  cases f with
  |next=>obtain⟨j,L,M,n7⟩:=O;exact again M n7
  |cont=>obtain⟨j,L,M,n7⟩:=O;exact again M n7
  |brk=>obtain⟨j,L,M,O⟩:=O;exact⟨j,L,M.unpinned,O⟩
  |ret v=>obtain⟨x7,j,L,M,r7,O⟩:=O;exact⟨x7,j,L,M.unpinned,r7,O⟩
end
abbrev R2:=V->V->Hp->VK->Prop
def OpR(X:Cx)(f:Value->Value->Sem Value)(r:R2):Prop :=
 ∀pins s (σ:St) H x y v u Q,Inv X pins σ H s->RelV x v->RelV y u->r x y H Q ->
  av (model X.prog X.w) X.A (f v u) (EP X pins σ Q) X.xe s
def UnR(X:Cx)(f:Value->Sem Value)(r:V->Hp->VK->Prop):Prop :=
 ∀pins s (σ:St) H x v Q,Inv X pins σ H s->RelV x v->r x H Q ->
  av (model X.prog X.w) X.A (f v) (EP X pins σ Q) X.xe s
def Qah(X:Cx)(f:Value)(r:List V->Hp->VK->Prop):Prop :=
 ∀pins s (σ:St) H xs us Q,Inv X pins σ H s->Vals xs us->r xs H Q ->
  av (model X.prog X.w) X.A (call f us) (EP X pins σ Q) X.xe s
def TruR(X:Cx)(r:V->Hp->(Bool->Hp->Prop)->Prop):Prop :=
 ∀pins s (σ:St) H x v Q,Inv X pins σ H s->RelV x v->r x H Q ->
  av (model X.prog X.w) X.A (truthy v) (TP X pins σ Q) X.xe s
def tOp(r:R2)(ta tb:TE):TE:=λσ H Q=>ta σ H λx H1=>tb σ H1 λy H2=>r x y H2 Q
def tUn(r:V->Hp->VK->Prop)(ta:TE):TE:=λσ H Q=>ta σ H λx H1=>r x H1 Q
def rI(C:Int->Int->Prop)(g:Int->Int->V):R2:=λx y H Q=>∃i j,x = .int i/\y = .int j/\C i j/\Q (g i j) H
def rI0(g:Int->Int->V):R2:=λx y H Q=>∃i j,x = .int i/\y = .int j/\Q (g i j) H
def rU(g:Int->V):V->Hp->VK->Prop:=λx H Q=>∃i,x = .int i/\Q (g i) H
section
variable{X:Cx}{a b c:Expr}{ta tb tc:TE}{pos:Pos}
def binT(O:PE X a ta)(U:PE X b tb){R:V->V->Hp->Prop}(I:Inv X pins σ H s)(h:ta σ H λx H1=>tb σ H1 λy H2=>R x y H2){f:Value->Value->Sem Value}(hf:∀v u s2 x y H2,Inv X pins σ H2 s2->RelV x v->RelV y u->R x y H2->av (model X.prog X.w) X.A (f v u) Q X.xe s2) :
  av (model X.prog X.w) X.A (eval a X.env) (λv G=>av (model X.prog X.w) X.A (eval b X.env) (λu J=>av (model X.prog X.w) X.A (f v u) Q X.xe J) X.xe G) X.xe s:=by
 refine thn (O pins s σ H _ I h) λv s1 ⟨x,H1,j,m,B⟩=>?_;refine thn (U pins s1 σ H1 _ j B) λu s2 ⟨y,H2,D,E,L⟩=>?_;exact hf v u s2 x y H2 D m E L
def pe_op(ho:OpR X (bV G) r)(J:PE X a ta)(O:PE X b tb):PE X (.BinOp a G b pos) (tOp r ta tb):=by
 intro pins s σ H Q I h;exact wpAny_BinOp (binT J O I h λv u s2 x y H2 j m B q=>ho pins s2 σ H2 x y v u Q j m B q)
def pe_un(ho:UnR X (unaryOp G) r)(J:PE X a ta):PE X (.UnaryOp G a pos) (tUn r ta):=by
 intro pins s σ H Q I h;exact UnaryOp_ (thn (J pins s σ H _ I h) λv s1 ⟨x,H1,j,m,B⟩=>ho pins s1 σ H1 x v Q j m B)
def opI{g:Int->Int->Int}(rule:∀i j t u s Q E,C i j->Q (.int (g i j) s.toks) { s with toks:=s.toks+1 }->av (model X.prog X.w) X.A (f (.int i t) (.int j u)) Q E s) :
  OpR X f (rI C λi j=>.int (g i j)):=by
 intro pins s σ H x y v u Q I m B h;obtain⟨i,j,rfl,rfl,hc,q⟩:=h;obtain⟨t,rfl⟩:=m;obtain⟨t',rfl⟩:=B;exact rule i j t t' s _ _ hc ⟨.int (g i j),H,I.tok _,⟨_,rfl⟩,q⟩
def opI0{g:Int->Int->Int}(rule:∀i j t u s Q E,Q (.int (g i j) s.toks) { s with toks:=s.toks+1 }->av (model X.prog X.w) X.A (f (.int i t) (.int j u)) Q E s) :
  OpR X f (rI0 λi j=>.int (g i j)):=by
 intro pins s σ H x y v u Q I m B h;obtain⟨i,j,rfl,rfl,q⟩:=h;obtain⟨t,rfl⟩:=m;obtain⟨t',rfl⟩:=B;exact rule i j t t' s _ _ ⟨.int (g i j),H,I.tok _,⟨_,rfl⟩,q⟩
def opB0{g:Int->Int->Bool}(rule:∀i j t u s Q E,Q (.bool (g i j)) s->av (model X.prog X.w) X.A (f (.int i t) (.int j u)) Q E s) :
  OpR X f (rI0 λi j=>.bl (g i j)):=by
 intro pins s σ H x y v u Q I m B h;obtain⟨i,j,rfl,rfl,q⟩:=h;obtain⟨t,rfl⟩:=m;obtain⟨t',rfl⟩:=B;exact rule i j t t' s _ _ ⟨.bl (g i j),H,I,rfl,q⟩
def CPow(i j:Int):Prop:=0<=j/\j<=1000000/\i.natAbs<2^64
def CMul(i j:Int):Prop:=(-(2^64)<i/\i<2^64)\/(-(2^64)<j/\j<2^64)
def CMul.ok(h:CMul i j):IntMulOk i j:=by
 rcases h with⟨h1,h2⟩|⟨h1,h2⟩
 .exact .of_left (intBits_le_64 h1 h2)
 .exact .of_right (intBits_le_64 h1 h2)
def op_add:OpR X (bV .Add) (rI0 λi j=>.int (i+j)):=opI0 λ_ _ _ _ _ _ _ q=>add_int q
def op_sub:OpR X (bV .Sub) (rI0 λi j=>.int (i-j)):=opI0 λ_ _ _ _ _ _ _ q=>sub_int q
def op_mul:OpR X (bV .Mult) (rI CMul λi j=>.int (i*j)):=opI λ_ _ _ _ _ _ _ hc q=>mul_int q hc.ok
def op_mod:OpR X (bV .Mod) (rI (λ_ j=>0<j) λi j=>.int (i%j)):=opI λi j _ _ _ _ _ hc q=>by
 exact mod_int' (by omega) (by rw[Int.fmod_eq_emod_of_nonneg i (by omega)];exact q)
def op_pow:OpR X (bV .Pow) (rI CPow λi j=>.int (i^j.toNat)):=opI λ_ _ _ _ _ _ _ hc q=>pow_int_small hc.1 hc.2.1 hc.2.2 q
def unI{g:Int->Int}(rule:∀i t s Q E,Q (.int (g i) s.toks) { s with toks:=s.toks+1 }->av (model X.prog X.w) X.A (f (.int i t)) Q E s) :
  UnR X f (rU λi=>.int (g i)):=by
 intro pins s σ H x v Q I j h;obtain⟨i,rfl,q⟩:=h;obtain⟨t,rfl⟩:=j;exact rule i t s _ _ ⟨.int (g i),H,I.tok _,⟨_,rfl⟩,q⟩
def un_neg:UnR X (unaryOp .USub) (rU λi=>.int (-i)):=unI λ_ _ _ _ _ q=>neg_int q
def fin_bl(I:Inv X pins σ H s)(q:Q (.bl k) H)(e:k=G):EP X pins σ Q (.bool G) s:=by
 subst e;exact⟨.bl k,H,I,rfl,q⟩
def op_lt:OpR X (bE .Lt) (rI0 λi j=>.bl (decide (i<j))):=opB0 λ_ _ _ _ _ _ _ q=>lt_int q
def op_le:OpR X (bE .LtE) (rI0 λi j=>.bl (decide (i<=j))):=opB0 λ_ _ _ _ _ _ _ q=>le_int q
def op_gt:OpR X (bE .Gt) (rI0 λi j=>.bl (decide (j<i))):=opB0 λ_ _ _ _ _ _ _ q=>gt_int q
def op_ge:OpR X (bE .GtE) (rI0 λi j=>.bl (decide (j<=i))):=opB0 λ_ _ _ _ _ _ _ q=>ge_int q
def Xp b (h:G≠.In:=by decide) (h2:G≠.NotIn:=by decide):fw G b=false:=by
 have e1:(G==CmpOp.In)=false:=by grind
 have e2:(G==CmpOp.NotIn)=false:=by grind
 cases b<;>simp[fw,e1,e2]
def pe_cmpR(ho:OpR X (bE G) r)(J:PE X a ta)(O:PE X b tb)(hm:fw G b=false):PE X (.Compare a [G] [b] pos) (tOp r ta tb):=by
 intro pins s σ H Q I h;exact wpAny_Compare1 (binT J O I h λv u s2 x y H2 j m B q=>ho pins s2 σ H2 x y v u Q j m B q) hm
def tTest(t:TE):TT:=λσ H Q=>t σ H λx H'=>∃k,x = .bl k/\Q k H'
def pt_cmpR(ho:OpR X (bE G) r)(J:PE X a ta)(O:PE X b tb)(hm:fw G b=false):PT X (.Compare a [G] [b] pos) (tTest (tOp r ta tb)):=by
 intro pins s σ H Q I h;refine wpAny_isTrue_Compare1 (thn (J pins s σ H _ I h) λv s1 ⟨x,H1,j,m,B⟩=>thn (O pins s1 σ H1 _ j B) λu s2 ⟨y,H2,D,E,L⟩ =>
  thn (ho pins s2 σ H2 x y v u _ D m E L) λc s3 ⟨z,M,T,U,k,e,Y⟩=>?_) hm
 subst e;cases U;exact cx ⟨M,T,Y⟩
def Qmj(r G:R2)(ta tb tc:TE):TE:=λσ H Q=>ta σ H λx H1=>tb σ H1 λy H2=>r x y H2 λz j=>∃k,z = .bl k /\
 (if k=true then tc σ j λm B=>G y m B Q else Q (.bl false) j)
def pe_chain(ho:OpR X (bE O) r)(J:OpR X (bE G) U)(Y:PE X a ta)(hb:PE X b tb)(hc:PE X c tc)(hm:lu [O,G] [b,c]=false:=by with_unfolding_all rfl):PE X (.Compare a [O,G] [b,c] pos) (Qmj r U ta tb tc):=by
 intro pins s σ H Q I h;refine Compare_chain (thn (Y pins s σ H _ I h) λv s1 ⟨x,H1,E,L,M⟩=>chain_link (thn (hb pins s1 σ H1 _ E M) λu s2 ⟨y,H2,T,j,q2⟩ =>
  thn (ho pins s2 σ H2 x y v u _ T L j q2) λd s3 ⟨z,m,B,r3,k,e,D⟩=>?_)) hm
 subst e;cases r3;refine cx ?_;cases k with
 |false=>exact ite_ff ⟨.bl false,m,B,rfl,D⟩
 |true=>exact ite_tt (chain_last (thn (hc pins s3 σ m _ B D) λw' s4 ⟨z',H4,I4,r4,q4⟩=>J pins s4 σ H4 y z' u w' Q I4 j r4 q4))
def pt_chain(ho:OpR X (bE O) r)(J:OpR X (bE G) U)(Y:PE X a ta)(hb:PE X b tb)(hc:PE X c tc)(hm:lu [O,G] [b,c]=false:=by with_unfolding_all rfl):PT X (.Compare a [O,G] [b,c] pos) (tTest (Qmj r U ta tb tc)):=by
 intro pins s σ H Q I h;refine isTrue_chain (thn (Y pins s σ H _ I h) λv s1 ⟨x,H1,E,L,M⟩=>test_link (thn (hb pins s1 σ H1 _ E M) λu s2 ⟨y,H2,T,j,q2⟩ =>
  thn (ho pins s2 σ H2 x y v u _ T L j q2) λd s3 ⟨z,m,B,r3,k,e,D⟩=>?_)) hm
 subst e;cases r3;refine cx ?_;cases k with
 |false =>
  obtain⟨k',e',q'⟩:=D;cases e';exact ite_ff ⟨m,B,q'⟩
 |true =>
  refine ite_tt (test_last (thn (hc pins s3 σ m _ B D) λw' s4 ⟨z',H4,I4,r4,q4⟩=>thn (J pins s4 σ H4 y z' u w' _ I4 j r4 q4) λd' s5 ⟨z2,H5,I5,r5,k2,e2,q5⟩=>?_));subst e2;cases r5;exact cx ⟨H5,I5,q5⟩
def TruV(K:ac)(x:V)(H:Hp)(k:Bool):Prop :=
 match x with
 |.non=>k=false
 |.bl b=>k=b
 |.int i=>k=(i != 0)
 |.str y=>y.length<=ax/\k=((y.length:Int) != 0)
 |.byt y=>y.size<=ax/\k=((y.size:Int) != 0)
 |.ref p=>(∃xs,SqL K H p xs/\k = !xs.isEmpty)\/(∃xs,SqT K H p xs/\k = !xs.isEmpty)\/∃kvs,H p=some (.dK kvs)/\k = !kvs.isEmpty
 |_=>False
def Qly(r:KV kvs vs):(!vs.isEmpty) = !kvs.isEmpty:=by
 cases r<;>rfl
def Qfq(r:Vals xs G):(!G.toArray.isEmpty) = !xs.isEmpty:=by
 cases r<;>simp
def Qjb:ax<2^63:=by decide
def tru_ok:TruR X (λx H Q=>∃k,TruV X.K x H k/\Q k H):=by
 intro pins s σ H x v Q I D h;obtain⟨k,e,q⟩:=h;have hs:ax=16777216:=eL;cases x with
 |non =>
  cases D;have j:k=false:=e;subst j;exact truthy_none ⟨H,I,q⟩
 |bl b =>
  cases D;have j:k=b:=e;subst j;exact cx ⟨H,I,q⟩
 |int i =>
  obtain⟨t,rfl⟩:=D;have j:k=(i != 0):=e;subst j;exact PySem.P.truthy_int ⟨H,I,q⟩
 |str y =>
  obtain⟨t,rfl⟩:=D;obtain⟨L,j⟩:y.length<=ax/\k=((y.length:Int) != 0):=e;subst j;exact PySem.P.truthy_str (by omega) ⟨H,I.tok _,q⟩
 |byt y =>
  obtain⟨t,rfl⟩:=D;obtain⟨L,j⟩:y.size<=ax/\k=((y.size:Int) != 0):=e;subst j;exact PySem.W.truthy_bytes (by omega) ⟨H,I.tok _,q⟩
 |ref p =>
  cases D;have j:(∃xs,SqL X.K H p xs/\k = !xs.isEmpty)\/(∃xs,SqT X.K H p xs/\k = !xs.isEmpty)\/∃kvs,H p=some (.dK kvs)/\k = !kvs.isEmpty:=e;rcases j with⟨xs,E,j⟩|⟨xs,E,j⟩|⟨kvs,E,j⟩
  .subst j;obtain⟨G,r,J,hz⟩:=I.list E;have B:=r.length;exact wpAny_truthy_list J.isList (by simp only[aF];omega) ⟨H,I.tok _,by rw[Qfq r];exact q⟩
  .subst j;obtain⟨G,r,J,hz⟩:=I.tuple E;have B:=r.length;exact truthy_tuple J (by simp only[aF];omega) ⟨H,I.tok _,by rw[Qfq r];exact q⟩
  .subst j;obtain⟨hz,M,vs,r,m⟩:kvs.length<=ax/\(p==d4)=false/\∃vs,KV kvs vs/\s.heap.DictOf (ZS X.prog X.w) p vs:=I.hok p _ E;have B:kvs.length=vs.length:=iT r;exact wpAny_truthy_dict M m (by omega) ⟨H,I.tok _,by rw[Qly r];exact q⟩
 |_=>exact(show False from e).elim
def pt_truth(G:PE X a ta)(he:∀whole,isTrue a X.env whole=(do let v <-whole;standAt a.pos;holding [v] (truthy v))) :
  PT X a (λσ H Q=>ta σ H λx H'=>∃k,TruV X.K x H' k/\Q k H'):=by
 intro pins s σ H Q I h;exact isTrue_plain (thn (G pins s σ H _ I h) λv s1 ⟨x,H1,j,m,B⟩=>tru_ok pins s1 σ H1 x v Q j m B) (he _)
def Qln:OpR X (bV .Add) (λx y H Q=>∃i j,x = .str i/\y = .str j/\i.length+j.length<=ax/\Q (.str (i++j)) H):=by
 intro pins s σ H x y v u Q I m B h;obtain⟨i,j,rfl,rfl,hz,q⟩:=h;obtain⟨t,rfl⟩:=m;obtain⟨t',rfl⟩:=B;exact add_str (λt' tk=>⟨.str (i++j),H,I.tok _,⟨_,rfl⟩,q⟩) hz
def YD(r:Vals [x] us):∃u,us=[u]/\RelV x u:=by
 cases r with
 |cons j m=>cases m;exact⟨_,rfl,j⟩
def vals2(r:Vals [x,y] us):∃u G,us=[u,G]/\RelV x u/\RelV y G:=by
 cases r with
 |cons j m =>
  cases m with
  |cons B D=>cases D;exact⟨_,_,rfl,j,B⟩
def QoS(hc:X.calm=true):Qah X (.builtin "min") (λxs H Q=>∃i j,xs=[.int i,.int j]/\Q (.int (if j<i then j else i)) H):=by
 intro pins s σ H xs us Q I r h;obtain⟨i,j,rfl,q⟩:=h;obtain⟨u,B,rfl,⟨t,rfl⟩,⟨t',rfl⟩⟩:=vals2 r;refine min_two_ints (I.ok.hd hc) λh' tk k=>⟨_,H,I.kept k,?_,q⟩
 by_cases m:j<i
 .rw[ak m,ak m];exact⟨_,rfl⟩
 .rw[ar m,ar m];exact⟨_,rfl⟩
def LenV(K:ac)(x:V)(H:Hp)(n:Nat):Prop :=
 match x with
 |.str y=>y.length<=ax/\n=y.length
 |.byt y=>y.size<=ax/\n=y.size
 |.ref p=>(∃xs,SqL K H p xs/\n=xs.length)\/∃xs,SqT K H p xs/\n=xs.length
 |_=>False
def call_len:Qah X (.builtin "len") (λxs H Q=>∃x n,xs=[x]/\LenV X.K x H n/\Q (.int n) H):=by
 intro pins s σ H xs us Q I r h;obtain⟨x,n,rfl,e,q⟩:=h;obtain⟨u,rfl,B⟩:=YD r;have hs :=eL;cases x with
 |str y =>
  obtain⟨t,rfl⟩:=B;obtain⟨L,m⟩:y.length<=ax/\n=y.length:=e;subst m;exact len_str (by omega) ⟨.int _,H,I.tok _,⟨_,rfl⟩,q⟩
 |byt y =>
  obtain⟨t,rfl⟩:=B;obtain⟨L,m⟩:y.size<=ax/\n=y.size:=e;subst m;exact PySem.W.len_bytes (by omega) ⟨.int _,H,I.tok _,⟨_,rfl⟩,q⟩
 |ref p =>
  cases B;have m :=e;rcases m with⟨xs,D,m⟩|⟨xs,D,m⟩
  .subst m;obtain⟨E,G,J,hz⟩:=I.list D;have j:=G.length;exact Calls.call_len_list J.isList (by grind) ⟨.int xs.length,H,I.tok _,⟨_,by simp only[aF];rw[j]⟩,q⟩
  .subst m;obtain⟨E,G,J,hz⟩:=I.tuple D;have j:=G.length;exact len_tuple J (by grind) ⟨.int xs.length,H,I.tok _,⟨_,by simp only[aF];rw[j]⟩,q⟩
 |_=>exact(e).elim
end
structure ObjM (h:Heap) (x dx C:Addr) (mA:Str->Option Value):Prop where
 obj:h.get? x=some (iW C dx)
 ns:h.Ns1 dx mA
 ne:dx≠x
def Qhy{h:Heap}(n:h.Ns1 dx mA):∃od,h.get? dx=some od/\∀name,jb name od=some (mA name):=by
 obtain⟨o,es,ep,ho,hd,m,_,hm⟩:=n;refine⟨o,ho,λname=>?_⟩;have e:=hm name;unfold nsFind findBy at e;rw[<-Array.find?_toList]at e;unfold jb;rw[hd];dsimp only;split
 .rename_i y q;rw[q]at e;exact congrArg some e
 .rename_i q;rw[q]at e;have a:es.toList.any (·.refKey)=false:=by
   rw[fQ];intro y B;obtain⟨z,t,j⟩:=m y (Array.mem_toList_iff.mp B);simp[DictEntry.refKey,j]
  have D:¬es.toList.any (·.refKey)=true:=by rw[a];exact cC
  rw[ar D];exact congrArg some e
def ObjM.look(I:ObjM h x dx C mA):∃od,PySem.W.InstAt h x (iW C dx) C (some od)/\∀name,jb name od=some (mA name) :=
 let ⟨od,ho,j⟩:=Qhy I.ns
 ⟨od,⟨I.obj,rfl,rfl,ho⟩,j⟩
def RelO.some_of(r:RelO (some v) o):∃u,o=some u/\RelV v u:=by
 cases o with
 |none=>exact(r).elim
 |some u=>exact⟨u,rfl,r⟩
def QoB(r:RelV v u):PySem.W.handedIn u=true:=by
 cases v with
 |non=>cases (r);rfl
 |bl b=>cases (r);rfl
 |int i=>obtain⟨t,e⟩:=(r);cases e;rfl
 |str x=>obtain⟨t,e⟩:=(r);cases e;rfl
 |byt b=>obtain⟨t,e⟩:=(r);cases e;rfl
 |flt b=>obtain⟨t,e⟩:=(r);cases e;rfl
 |ref a=>cases (r);rfl
 |ty n=>cases (r);rfl
section
variable{P:aN}{w:bg}{H H':Hp}{h h':Heap}{a C dx:Addr}{fs fs':List (Str×V)}
def ins_get(hok:HOk P w H h)(e:H a=some (.ins C dx fs)):∃mA,ObjM h a dx C mA/\(∀f,RelO (fs.lookup f) (mA f))/\PySem.Within mA (fs.map (·.1))/\fs.length<=1000/\H dx=some (.own a):=by
 obtain⟨d,z,ne,ob,mA,n,r,q⟩:=(hok a _ e)
 exact⟨mA,⟨ob,n,ne⟩,r,q,z,d⟩
end
section
variable{X:Cx}{pins:List (Addr×Obj)}{σ:St}{H:Hp}{s:ap}{a C dx:Addr}{fs:List (Str×V)}{f:Str}{v:V}{A:bG}{E:Value->ap->Prop}
def attr_of(J:cQ e f env (eval e env)=eval e env)(h:av (model prog w) A (eval e env) (λo G=>av (model prog w) A (getAttr o f true) Q E G) E s):av (model prog w) A (eval (.Attribute e f pos) env) Q E s :=
 Attribute_any_ h (by rw[arm_eval_Attribute,J])
end
structure Room (k:Nat) (A:bG):Prop where
 hd:A.handled=none
 dp:A.depth+3*k+5<recursionLimit
 un:A.units+16*k+200<gd
def Room.mono(r:Room k A)(h:j<=k):Room j A:=⟨r.hd,by have:=r.dp;lia,by have:=r.un;lia⟩
def Room.deeper(r:Room (k+1) A) env:Room k (A.deeper env) :=
 ⟨r.hd,by have:=r.dp;show A.depth+1+3*k+5<_;lia,by have:=r.un;show A.units+3+16*k+200<_;lia⟩
def Qls{A:bG}:(A.under (.builtin "type.__call__" ⟨.ref C::us,G⟩)).depth=A.depth+1:=by
 first | rfl | simp[       guardIds]
def Qlr{A:bG}:(A.under (.builtin "type.__call__" ⟨.ref C::us,G⟩)).units=A.units+1:=by
 first | rfl | simp[   Code.isFrame]
def Room.make(r:Room (k+1) A) C us G:Room k (A.under (.builtin "type.__call__" ⟨.ref C::us,G⟩)) :=
 ⟨r.hd,by have:=r.dp;rw[Qls];lia,by have:=r.un;rw[Qlr];lia⟩
def Room.depth(r:Room k A):A.depth<recursionLimit:=by have:=r.dp;lia
def Room.units(r:Room k A):A.units+64<gd:=by have:=r.un;lia
def tNil:TA:=λ_ H Q=>Q [] H
def QlW(ta:TE)(tr:TA):TA:=λσ H Q=>ta σ H λx H1=>tr σ H1 λxs H2=>Q (x::xs) H2
section
variable{X:Cx}{e:Expr}{es:List Expr}{te:TE}{t:TA}{pos:Pos}
def Qbf:PA X [] tNil:=λ_ _ _ _ H Q I h=>ji ⟨[],H,I,.nil,h⟩
def ZF(G:PE X e te)(J:PA X es t)(hs:ai (e::es) X.env=(false,eval e X.env)::ai es X.env:=by rfl):PA X (e::es) (QlW te t):=by
 intro pos pins s σ H Q I h;rw[hs];show av _ _ (spliced ((false,eval e X.env)::bB pos (ai es X.env))) _ _ s;refine dR (thn (G pins s σ H _ I h) λu s1 ⟨x,H1,j,m,B⟩=>?_);exact thn (J pos pins s1 σ H1 _ j B) λus s2 ⟨xs,H2,D,E,L⟩=>⟨x::xs,H2,D,.cons m E,L⟩
def tTup(t:TA):TE:=λσ H Q=>t σ H λxs H1=>xs.length<=ax/\∀p,H1 p=none->Q (.ref p) (upd H1 p (.tup xs))
def tLst(t:TA):TE:=λσ H Q=>t σ H λxs H1=>xs.length<=ax/\∀p,H1 p=none->Q (.ref p) (upd H1 p (.lst xs))
def pe_tup(h:PA X es t):PE X (.Tuple es G pos) (tTup t):=by
 intro pins s σ H Q I m;refine wpAny_Tuple_spliced (thn (h pos pins s σ H _ I m) λus s1 ⟨xs,H1,j,r,z,q⟩=>⟨by rw[<-r.length];exact z,?_⟩);have hf :=j.hok.fresh (am _);refine⟨.ref s1.heap.objs.size,upd H1 s1.heap.objs.size (.tup xs),j.laid (λb u e=>ag _ e) (am _) ?_,rfl,q _ hf⟩;exact⟨z,us,r,⟨_,aB _ rfl,rfl,.inl rfl,_,rfl⟩⟩
def pe_lst(h:PA X es t):PE X (.List es pos) (tLst t):=by
 intro pins s σ H Q I m;refine wpAny_List_spliced (thn (h pos pins s σ H _ I m) λus s1 ⟨xs,H1,j,r,z,q⟩=>⟨by rw[<-r.length];exact z,?_⟩);have hf :=j.hok.fresh (am _);refine⟨.ref s1.heap.objs.size,upd H1 s1.heap.objs.size (.lst xs),j.laid (λb u e=>ag _ e) (am _) ?_,rfl,q _ hf⟩;exact⟨z,us,0,r,aB _ rfl⟩
end
abbrev Sp:=List V->Hp->VK->XK->Prop
abbrev CXT:=List Env->Hp->ap->XK->Value->ap->Prop
structure Env0 (P:aN) (w:bg) (K:ac) (mg:Str->Option Value) (base:Heap) (A:bG) (outer:List Env) (s:ap) (H:Hp):Prop where
 frames:A.frames=some outer
 mod:Mod K mg base
 bs:∀b o,base.get? b=some o->s.heap.get? b=some o/\H b=none
 bsz:base.objs.size<=s.heap.objs.size
 funs:s.heap.FunFrames base outer
 frf:∀b∈frs outer,H b=none
 hok:HOk P w H s.heap
 bare:iy s.gens
def CE(outer:List Env)(P:aN)(w:bg)(H:Hp)(s:ap)(Q:VK)(u:Value)(s':ap):Prop :=
 ∃v H',s'.os=s.os/\iy s'.gens/\Un (frs outer) [] H H' s.heap s'.heap/\HOk P w H' s'.heap/\RelV v u/\Q v H'
def CR(CX:CXT)(outer:List Env)(P:aN)(w:bg)(H:Hp)(s:ap)(Q:VK)(E:XK)(r:lG)(s':ap):Prop :=
 match r with
 |.ok (.ret u)=>CE outer P w H s Q u s'
 |.ok _=>False
 |.error e=>CX outer H s E e s'
structure FnOk (P:aN) (w:bg) (K:ac) (mg:Str->Option Value) (base:Heap) (CX:CXT) (k:Nat) (f:Addr) (fd:cA) (ps:List Str) (sp:Sp):Prop where
 len:∀vs H Q E,sp vs H Q E->vs.length=ps.length
 run:∀(A:bG)(outer:List Env)(s:ap)(H:Hp)(args:Args)(us:List Value)(vs:List V)(Q:VK)(E:XK),Room k A->Env0 P w K mg base A outer s H->lR s fd args (ps.zip us)->Vals vs us->sp vs H Q E ->
  fu (model P w) A (.call (.ref f) args) (CR CX outer P w H s Q E) s
def FnOk.imp{K:ac}(F:FnOk P w K mg base CX k f fd ps sp)(h:∀vs H Q E,G vs H Q E->sp vs H Q E):FnOk P w K mg base CX k f fd ps G :=
 ⟨λvs H Q E q=>F.len vs H Q E (h _ _ _ _ q),λA outer s H args us vs Q E j he m B hs=>F.run A outer s H args us vs Q E j he m B (h _ _ _ _ hs)⟩
def Env0.make{K:ac}(e:Env0 P w K mg base A outer s H) C us G :
  Env0 P w K mg base (A.under (.builtin "type.__call__" ⟨.ref C::us,G⟩)) outer s H:=⟨by first | exact e.frames | (simpa[   pushEnvs] using e.frames),e.mod,e.bs,e.bsz,e.funs,e.frf,e.hok,e.bare⟩
section
variable{X:Cx}{pins:List (Addr×Obj)}{σ:St}{H:Hp}{s s':ap}
def Inv.env0(I:Inv X pins σ H s):Env0 X.prog X.w X.K X.mg X.base X.A X.stack s H :=
 ⟨I.ok.frames,I.ok.mod,I.bs,aS I.ok.bsz I.sz,I.stack,I.stkFree,I.hok,I.bare⟩
def Inv.after(I:Inv X pins σ H s)(h:CE X.stack X.prog X.w H s Q u s'):EP X pins σ Q u s':=by
 obtain⟨v,H',os,bare,un,hok,r,q⟩:=h;obtain⟨m,g,d,t,j⟩:=s';obtain rfl:j=s.os:=os;exact⟨v,H',I.call un hok bare (λb z=>absurd z (by simp)),r,q⟩
end
def QoX(sp:Sp)(dvs:List V)(E:XK)(t:TA):TE:=λσ H Q=>t σ H λvs H1=>sp (vs++dvs) H1 Q E
def YQ(K:ac)(fd:cA)(ps:List Str)(ds:List Value):Prop :=
 ∀s us,K.In s.heap->(us++ds).length=ps.length->lR s fd ⟨us,[]⟩ (ps.zip (us++ds))
def YQ.all{K:ac}(h:∀us ,us.length=ps.length->fC fd ⟨us,[]⟩=pure (ps.zip us)):YQ K fd ps []:=λs us _ j=>by
 rw[bQ]at j |-;exact .of_eq (h us j)
def QgZ(CX:CXT)(X:Cx)(E:XK):Prop:=∀pins (σ:St) H s e s',Inv X pins σ H s->CX X.stack H s E e s'->X.xe e s'
section
variable{X:Cx}{CX:CXT}{k:Nat}{f C:Addr}{fd:cA}{ps:List Str}{sp:Sp}{dvs:List V}{ds:List Value}{E:XK}{x m:Str}{p pos apos:Pos}{e o:Expr}{es:List Expr}{ta:TE}{t:TA}
def run_fn(F:FnOk X.prog X.w X.K X.mg X.base CX k f fd ps sp)(G:Room k X.A)(J:YQ X.K fd ps ds)(hd:Vals dvs ds)(O:QgZ CX X E)(I:Inv X pins σ H s)(r:Vals vs us)(h:sp (vs++dvs) H Q E):av (model X.prog X.w) X.A (call (.ref f) us) (EP X pins σ Q) X.xe s:=by
 have m :=r.append hd;have B:(us++ds).length=ps.length:=by rw[<-m.length];exact F.len _ _ _ _ h
 refine g0 (dP (F.run X.A X.stack s H ⟨us,[]⟩ (us++ds) (vs++dvs) Q E G I.env0 (J s us I.kIn B) m h) λr s' j=>?_);cases r with
 |error e=>exact O pins σ H s e s' I j
 |ok fl =>
  cases fl with
  |ret u=>exact I.after j
  |next=>exact cB j
  |brk=>exact cB j
  |cont=>exact cB j
def QfJ(F:FnOk X.prog X.w X.K X.mg X.base CX k f fd ps sp)(O:Room k X.A)(U:Gl X x)(hm:X.mg x=some (.ref f))(Y:bN X.K (.ref f)=true)(hb:YQ X.K fd ps ds)(hd:Vals dvs ds)(hx:QgZ CX X E)(ha:PA X (e::es) t)(G:(x=="__debug__")=false:=by decide)(he:ai (e::es) X.env=(false,eval e X.env)::ai es X.env:=by rfl)(J:(bB pos (ai es X.env)).any (·.1)=false:=by rfl) :
  PE X (.Call (.Name x p) (e::es) [] pos) (QoX sp dvs E t):=by
 intro pins s σ H Q I h;refine eI (QdL I U hm ?_ G);refine io I.ok.mod.kin Y (thn (ha pos pins s σ H _ I h) λus s1 ⟨vs,H1,j,r,q⟩=>⟨j.kIn,?_⟩) he J;exact run_fn F O hb hd hx j r q
end
section
variable{X:Cx}{CX:CXT}{k:Nat}{f C:Addr}{fd:cA}{ps ks:List Str}{sp:Sp}{E:XK}{x m:Str}{p pos apos kpos:Pos}{e o:Expr}{es:List Expr}{kws:List dL}{te ta:TE}{t tk:TA}{nm:Option Str}
structure KBinds (K:ac) (fd:cA) (ps ks:List Str) (g:List Value->List Value->List Value) (gV:List V->List V->List V):Prop where
 to:∀(s:ap)(us ws:List Value),K.In s.heap->(g us ws).length=ps.length->lR s fd ⟨us,ks.zip ws⟩ (ps.zip (g us ws))
 rel:∀{vs:List V}{us:List Value}{zs:List V}{ws:List Value},Vals vs us->Vals zs ws->Vals (gV vs zs) (g us ws)
variable{g:List Value->List Value->List Value}{gV:List V->List V->List V}
end
structure FnScope (N P:List Str) (sc:dS):Prop where
 kind:sc.kind = .function
 co:sc.isCoroutine=false
 gen:sc.isGenerator=false
 nd:N.Nodup
 pre:N.take P.length=P
 par:∀x∈P,sc.names.lookup x=some .local\/sc.names.lookup x=some .cell
 nofree:∀y∈sc.names,y.2≠.free
theorem QhP{kindOf:Str->Option iF}:∀{binds:List (Str×Value)}{m:Str->Option Value},(∀v,(x,v)∉binds)->mm kindOf binds m x=m x
 |[],_,_=>rfl
 | (n,v)::r,m,h=>by
  unfold mm;rw[QhP λw hw=>h w (aw _ hw)];split
  .have:x≠n:=by rintro rfl;exact h v bp
   simp[this]
  .rfl
theorem QhR{kindOf:Str->Option iF}:∀{binds:List (Str×Value)}{m:Str->Option Value},(∀v,(x,v)∉binds)->mn kindOf binds m x=m x
 |[],_,_=>rfl
 | (n,v)::r,m,h=>by
  unfold mn;rw[QhR λw hw=>h w (aw _ hw)];split;all_goals grind
theorem QhQ{kindOf:Str->Option iF}:∀{P:List Str}{vs:List Value}{i:Nat}{m:Str->Option Value},P.Nodup->P[i]?=some x->vs[i]?=some v->kindOf x=some .local ->
  mm kindOf (P.zip vs) m x=some v
 |[],_,_,_,_,h,_,_=>by simp at h
 |_::_,[],_,_,_,_,h,_=>by simp at h
 |p::P,w::vs,0,m,nd,h1,h2,j=>by
  simp at h1 h2;subst h1;subst h2;show mm kindOf ((p,w)::P.zip vs) m p=_;unfold mm;rw[QhP λv B=>(bO.mp nd).1 (iZ B).1,ak j];simp
 |p::P,w::vs,i+1,m,nd,h1,h2,j=>by
  unfold mm;exact QhQ (bO.mp nd).2 (by simpa using h1) (by simpa using h2) j
theorem QhS{kindOf:Str->Option iF}:∀{P:List Str}{vs:List Value}{i:Nat}{m:Str->Option Value},P.Nodup->P[i]?=some x->vs[i]?=some v->kindOf x≠some .local ->
  mn kindOf (P.zip vs) m x=some v
 |[],_,_,_,_,h,_,_=>by simp at h
 |_::_,[],_,_,_,_,h,_=>by simp at h
 |p::P,w::vs,0,m,nd,h1,h2,j=>by
  simp at h1 h2;subst h1;subst h2;show mn kindOf ((p,w)::P.zip vs) m p=_;unfold mn;rw[QhR λv B=>(bO.mp nd).1 (iZ B).1,ar j];simp
 |p::P,w::vs,i+1,m,nd,h1,h2,j=>by
  unfold mn;exact QhS (bO.mp nd).2 (by simpa using h1) (by simpa using h2) j
def Xg(N:List Str)(vs:List V):St:=vs.map some++dB (N.length-vs.length) none
def cxOf(CX:CXT)(P:aN)(w:bg)(K:ac)(mg:Str->Option Value)(base:Heap)(N:List Str)(qual:Str)(scope:dS)(f:Addr)(cd:Value)(A:bG)(outer:List Env)(s:ap)(H:Hp)(E:XK):Cx where
 prog:=P
 w:=w
 K:=K
 mg:=mg
 base:=base
 A:=A.deeper (cH qual scope s.heap.objs.size f cd)
 N:=N
 s₀:=s
 H₀:=H
 env:=cH qual scope s.heap.objs.size f cd
 outer:=outer
 stack:=cH qual scope s.heap.objs.size f cd::outer
 ex:=[]
 calm:=true
 fn:=λ_=>true
 pn:=[]
 xe:=λe s'=>av (model P w) (A.deeper (cH qual scope s.heap.objs.size f cd)) (leaving (cH qual scope s.heap.objs.size f cd) e) (λ_ j=>CX outer H s E e j) (λm j=>CX outer H s E m j) s'
def QkT{G:dS}(h:G.names.lookup x=some .cell):∃c,(cq n G.names []).lookup x=some c:=by
 have q:=et G.names n [] (.inl h);exact cN.mp q
def Qow{CX:CXT}{P:aN}{w:bg}{K:ac}{mg:Str->Option Value}{base:Heap}{N ps:List Str}{qual:Str}{scope:dS}{f:Addr}{cd:Value}{A:bG}{outer:List Env}{s s1:ap}{H:Hp}{E:XK}{us:List Value}{vs:List V}(S:FnScope N ps scope)(hd:A.handled=none)(G:Env0 P w K mg base A outer s H)(U:vs.length=ps.length)(r:Vals vs us)(x:InCallC s s.heap.objs.size (mm (cH qual scope s.heap.objs.size f cd).kindOf (ps.zip us) λ_=>none) (cq (s.heap.objs.size+1) scope.names []) (mn (cH qual scope s.heap.objs.size f cd).kindOf (ps.zip us) λ_=>none) s1) :
  Inv (cxOf CX P w K mg base N qual scope f cd A outer s H E) [] (Xg N vs) H s1:=by
 have L:ps.length<=N.length:=by have:=congrArg di S.pre;rw[br]at this;omega
 obtain⟨h1,tk,rfl,I⟩:=x.done;have j:∀b:Addr,b∉(cxOf CX P w K mg base N qual scope f cd A outer s H E).ex:=λb z=>absurd (show b∈([]:List Addr) from z) (by simp);refine⟨⟨G.mod,S.kind,rfl,rfl,am _,λy z c h1 h2=>?_,λy m=>?_,λy c _ h=>?_,λ_=>hd,bG.frames_deeper G.frames,.inr ⟨rfl,rfl⟩,λb z=>absurd z (j b),G.bs,G.bsz,λb _ _=>j b,λb z=>absurd z (j b),G.funs,G.frf⟩,
  rfl,G.bare,Un.kept I,⟨_,x.toInCall.ns,λi y v h1 h2 Q=>?_⟩,λy c h=>⟨_,x.cell y c h⟩,G.hok.fresh (am _),λy c h=>?_,λp B=>absurd (show p∈([]:List (Addr×Obj)) from B) (by simp),G.hok.kept I,?_⟩
 .exact name_of_addr x.apart (b4 h1) (b4 h2)
 .rcases m with m | m
  .exact QkT m
  .exact absurd rfl (S.nofree _ (b4 m))
 .exact bS (x.above y c (b4 h))
 .have hi:i<vs.length:=by
   unfold Xg at h2;by_cases hi:i<vs.length
   .exact hi
   .rw[cs (by simpa using hi)]at h2;rw[cP]at h2;split at h2<;>cases h2
  have M:vs[i]?=some v:=by
   unfold Xg at h2;rw[b0 (by simpa using hi),a0]at h2;cases e:vs[i]? with
   |none=>rw[e]at h2;cases h2
   |some a=>rw[e]at h2;cases h2;rfl
  obtain⟨u,J,O⟩:=r.get M;have B:ps[i]?=some y:=by
   rw[<-S.pre,List.getElem?_take_of_lt (by omega)];exact h1
  have D:ps.Nodup:=by rw[<-S.pre];exact S.nd.sublist (iG _ _)
  refine⟨u,O,?_⟩;rcases S.par y (dh B) with k | k
  .exact .inl ⟨k,QhQ D B J k⟩
  .obtain⟨c,e⟩:=QkT k;refine .inr ⟨.inl k,c,e,?_⟩;have q:=x.cell y c e;rw[QhS D B J (by show scope.names.lookup y≠_;rw[k];decide)]at q;exact q
 .exact G.hok.fresh (bS (x.above y c (b4 h)))
 .unfold Xg;show _=N.length;rw[aJ,aj,cz];omega
def Qpk{K:ac}{dV kV doc Y G ct oc:Value}(lk:K.lookup f=some ⟨oc,od,.func (cK name qual params body scope dV kV doc Y an G ct),osl⟩)(U:fE K G qual=true)(S:FnScope N ps scope)(len:∀vs H Q E,sp vs H Q E->vs.length=ps.length)(O:∀A outer s H vs Q E,Room k (A.deeper (cH qual scope s.heap.objs.size f G))->sp vs H Q E ->
   ∃t,PSs (cxOf CX P w K mg base N qual scope f G A outer s H E) body t/\t { nx:=λ_ H'=>Q .non H',rt:=Q } (Xg N vs) H) :
  FnOk P w K mg base CX (k+1) f (cK name qual params body scope dV kV doc Y an G ct) ps sp:=by
 refine⟨len,λA outer s H args us vs Q E D m hb r B=>?_⟩;have hl:=len _ _ _ _ B;have T :=m.mod.kin.keeps λb o e=>(m.bs b o e).1;have L :=m.mod.nolimit.keeps λb o e=>(m.bs b o e).1;have j:∀y∈ps.zip us,scope.names.lookup y.1=some .local\/(scope.names.lookup y.1=some .cell/\((cq (s.heap.objs.size+1) scope.names []).lookup y.1).isSome=true):=λ⟨n,v⟩ hy=>by
  rcases S.par n (iZ hy).1 with q | q
  .exact .inl q
  .exact .inr ⟨q,et _ _ _ (.inl q)⟩
 refine codeAny_call_function D.depth (T _ _ lk) rfl S.co S.gen rfl (PySem.W.codeRec_of T U) (hb _ _ _ _ ?_);refine wpAny_newFunctionEnv_cells S.kind j λenv he s1 x=>?_;subst he;refine⟨L.keeps x.toInCall.keep,codeAny_func ?_⟩;obtain⟨t,ht,hq⟩:=O A outer s H vs Q E (D.deeper _) B;have I:Inv (cxOf CX P w K mg base N qual scope f G A outer s H E) [] (Xg N vs) H s1:=Qow S D.hd m hl r x;refine b8 (ht [] s1 (Xg N vs) H _ I hq) (λfl s' hs=>?_) λe s' hs=>hs;have fin:∀{σ':St}{H':Hp}{v:V}{u:Value},Inv (cxOf CX P w K mg base N qual scope f G A outer s H E) [] σ' H' s'->RelV v u->Q v H'->CE outer P w H s Q u s' :=
  λ{σ' H' v u} J M q=>⟨v,H',J.os,J.bare,J.base,J.hok,M,q⟩
 cases fl with
 |ret u =>
  obtain⟨v,σ',H',J,M,q⟩:=hs;exact fin J M q
 |next =>
  obtain⟨σ',H',J,q⟩:=hs;exact fin (v:=V.non) J rfl q
 |brk =>
  obtain⟨_,_,_,q⟩:=hs;exact cB q
 |cont =>
  obtain⟨_,_,_,q⟩:=hs;exact cB q
section
variable{X:Cx}{x:Str}{p pos:Pos}{e:Expr}{es:List Expr}{t:TA}{id T:String}{r:List V->Hp->VK->Prop}
def tCB(r:List V->Hp->VK->Prop)(t:TA):TE:=λσ H Q=>t σ H λvs H1=>r vs H1 Q
def YX(hc:Qah X (.builtin id) r)(O:Gl X x)(hm:X.mg x=none)(U:cy x=some (.builtin id))(Y:PA X (e::es) t)(hn:x≠"__name__":=by decide)(G:(x=="__debug__")=false:=by decide)(he:ai (e::es) X.env=(false,eval e X.env)::ai es X.env:=by rfl)(J:(bB pos (ai es X.env)).any (·.1)=false:=by rfl):PE X (.Call (.Name x p) (e::es) [] pos) (tCB r t):=by
 intro pins s σ H Q I h;refine eI (QgT I O hm U ?_ hn G);exact PyProof.Rows.callWith_builtin1 (thn (Y pos pins s σ H _ I h) λus s1 ⟨vs,H1,j,m,B⟩=>hc pins s1 σ H1 vs us Q j m B) he J
def Xk(hc:Qah X (.type T) r)(O:Gl X x)(hm:X.mg x=none)(U:cy x=some (.type T))(Y:PA X (e::es) t)(hn:x≠"__name__":=by decide)(G:(x=="__debug__")=false:=by decide)(he:ai (e::es) X.env=(false,eval e X.env)::ai es X.env:=by rfl)(J:(bB pos (ai es X.env)).any (·.1)=false:=by rfl):PE X (.Call (.Name x p) (e::es) [] pos) (tCB r t):=by
 intro pins s σ H Q I h;refine eI (QgT I O hm U ?_ hn G);exact fq (thn (Y pos pins s σ H _ I h) λus s1 ⟨vs,H1,j,m,B⟩=>hc pins s1 σ H1 vs us Q j m B) he J
end
end L2
namespace HT
open PySem PyProof.Rows
section
variable{prog:aN}{w:bg}{A:bG}{E:Value->ap->Prop}{s:ap}
def cat_tup(O:jR s.heap t vs.toArray)(U:jR s.heap b ws.toArray)(J:vs≠[])(h1:ws=[]->Q (.ref t) s)(h2:ws≠[]->Q (.ref s.heap.objs.size) { s with heap:=s.heap.push { cls := .type "tuple",data := .seq (vs++ws).toArray } })(G:vs.length+ws.length<=ax):av (model prog w) A (bV .Add (.ref t) (.ref b)) Q E s:=by
 obtain⟨⟨cls,dd,data,I⟩,ho,hc,n,hd⟩:=id O;obtain⟨⟨L,m,data2,B⟩,j,D,n2,H⟩:=id U;subst hc hd D H;have e:vs.toArray++ws.toArray=(vs++ws).toArray:=by simp
 by_cases hw:ws=[]
 .exact i9 ⟨_,ho,rfl⟩ ⟨_,j,rfl⟩ jq kW gv gk (fV _ _)
   (tuple_addW1 t b vs.toArray ws.toArray n n2 dd m I B (by simpa using J) (by simp[hw])) ⟨ho,j,h1 hw⟩
 .refine i9 ⟨_,ho,rfl⟩ ⟨_,j,rfl⟩ jq kW gv gk (fV _ _)
   (tuple_addW2 t b vs.toArray ws.toArray n n2 dd m I B (by simpa using J) (by simpa using hw) (by exact G)) ⟨ho,j,?_⟩
  rw[e];exact h2 hw
def sIx(n d:Nat):Option Int->Nat
 |none=>d
 |some v=>if v<0 then (v+n).toNat else min v.toNat n
def sIx_none n d:sIx n d none=d:=rfl
def sIx_nat(n d k:Nat):sIx n d (some k)=min k n:=by
 show(if k<0 then (k+(n:Int)).toNat else min (k:Int).toNat n)=min k n;rw[ar (by omega),cu]
def sIx_le(n d:Nat)(hd:d<=n)(o:Option Int):sIx n d o<=n:=by
 cases o with
 |none=>exact hd
 |some v =>
  show(if v<0 then (v+(n:Int)).toNat else min v.toNat n)<=n;by_cases j:v<0
  .rw[ak j];omega
  .rw[ar j];exact lJ _ _
def QnG v (n d:Nat):(if v<0 then max (v+(n:Int)) 0 else min v n)=((sIx n d (some v))):=by
 show(if v<0 then max (v+n) 0 else min v n)=(((if v<0 then (v+(n:Int)).toNat else min v.toNat n)));grind
def QlS lo hi (n:Nat):kS lo hi 1 n=(((sIx n 0 lo):Int),((sIx n n hi):Int)):=by
 refine Prod.ext ?_ ?_
 .cases lo with
  |none=>rfl
  |some v=>exact QnG v n 0
 .cases hi with
  |none=>rfl
  |some v=>exact QnG v n n
def Qlj(i j:Nat):b7 i j 1=j-i:=by
 unfold b7;grind
def Qff(p:gM v o)(h:Q o s):av (model prog w) A (iJ.Slice.slicePartIndex v) Q E s:=by
 cases p with
 |none=>exact jk h
 |int i t=>exact slicePart_int h
def XJ{lo hi:Option Int}{Q:Int×Int×Nat->ap->Prop}(hs:s.heap.IsSliceOf G J O .none)(U:gM J lo)(Y:gM O hi)(h:Q (((sIx n 0 lo)),1,sIx n n hi-sIx n 0 lo) s):av (model prog w) A (gt (.ref G) (pure n)) Q E s:=by
 obtain⟨os,j,B,m⟩:=id hs;refine aa (aa (cE j m rfl (aa (cE j m rfl (aa (cE j m rfl (af ?_)))))));refine aa (jk ?_);refine aa (Qff U (aa (Qff Y (aa (af ?_)))));show av _ _ (match kS lo hi 1 n with | (lo,hi)=>pure (lo,(1:Int),b7 lo hi 1)) _ _ s;rw[QlS lo hi n];show av _ _ (pure (((sIx n 0 lo):Int),1,b7 ((sIx n 0 lo)) ((sIx n n hi)) 1)) _ _ s;rw[Qlj];exact af h
def pick_gen(xs:Array Value)(i k:Nat):((az k).filterMap λ(m:Nat)=>xs[((i:Int)+(m:Int)*1).toNat]?).toArray=((xs.toList.drop i).take k).toArray:=by
 have e:(λ(m:Nat)=>xs[((i:Int)+(m:Int)*1).toNat]?)=λm=>xs[i+m]?:=by
  funext m;have:((i:Int)+(m:Int)*1).toNat=i+m:=by omega
  rw[this]
 rw[e];have:=pick_run xs i k;rw[fG]at this;have e2:((λx=>xs[x]?)∘λx=>i+x)=λm=>xs[i+m]?:=rfl;rw[e2]at this;rw[this]
def getItem_tuple_cut{t J:Addr}{items:Array Value}{O U:Value}{lo hi:Option Int}{Q:Value->ap->Prop}(G:jR s.heap t items)(hs:s.heap.IsSliceOf J O U .none)(Y:gM O lo)(pu:gM U hi)(hw:¬(sIx items.size 0 lo=0/\sIx items.size items.size hi=items.size))(h:Q (.ref s.heap.objs.size) { s with heap:=s.heap.push { cls := .type "tuple",data := .seq ((items.toList.drop (sIx items.size 0 lo)).take (sIx items.size items.size hi-sIx items.size 0 lo)).toArray } })(hsz:items.size<=ax):av (model prog w) A (gC (.ref t) (.ref J)) Q E s:=by
 have j:sizeOk (.seq ((items.toList.drop (sIx items.size 0 lo)).take (sIx items.size items.size hi-sIx items.size 0 lo)).toArray):=by
  show((items.toList.drop (sIx items.size 0 lo)).take (sIx items.size items.size hi-sIx items.size 0 lo)).toArray.size<=ax;rw[aF,br,bu,bf];omega
 have L:sIx items.size items.size hi<=items.size:=sIx_le _ _ (am _) hi;obtain⟨os,B,D,I⟩:=id hs;have T:s.TypeIs (.ref J) "slice":=⟨os,B,D⟩
 unfold gC
 try with_reducible refine bd ?_
 first | refine aa (af ?_) | skip
 refine aa (i5 G.typeIs (by decide) ?_);refine aa (cn (name:=lF "__getitem__") G.typeIs ba
  (bD ba G.typeIs jA ?_ (jV _ _)))
 show av _ _ (gs (.ref t) >>= _) _ _ s;refine aa (tupleItemsOf_ G ?_);refine aa (eT T ?_);rw[ak (by decide)];refine aa (XJ hs Y pu ?_);have H:¬((((sIx items.size 0 lo:Nat):Int)==0&&(1:Int)==1&&(sIx items.size items.size hi-sIx items.size 0 lo)==items.size)=true):=by
  intro q;rw[aD,aD]at q;have M:((sIx items.size 0 lo:Nat):Int)=0:=eV q.1.1;have q2:sIx items.size items.size hi-sIx items.size 0 lo=items.size:=eV q.2;exact hw ⟨by omega,by omega⟩
 show av _ _ (if (((sIx items.size 0 lo:Nat):Int)==0&&(1:Int)==1&&(sIx items.size items.size hi-sIx items.size 0 lo)==items.size)=true then _ else _) _ _ s;rw[ar H,pick_gen];first
  |exact aa (m:=eF _) (a9 (af ⟨_,rfl,af h⟩) j)
  |exact aa (m:=eF _) (a9 (aa (af (af ⟨_,rfl,af h⟩))) j)
  |exact aa (aa (m:=eF _) (a9 (af (af ⟨_,rfl,af h⟩)) j))
  |exact aa (aa (m:=eF _) (a9 (af ⟨_,rfl,af h⟩) j))
end
end HT
namespace L2
open PySem PySem.Spec PyProof.Rows
abbrev TO:=St->Hp->(Option Int->Hp->Prop)->Prop
def PO(X:Cx)(e:Option Expr)(t:TO):Prop :=
 ∀pins s (σ:St) H Q,Inv X pins σ H s->t σ H Q ->
  av (model X.prog X.w) X.A (evalPart e X.env) (λu s'=>∃o H',Inv X pins σ H' s'/\gM u o/\Q o H') X.xe s
def tNoPart:TO:=λ_ H Q=>Q none H
def tPart(t:TE):TO:=λσ H Q=>t σ H λx H1=>∃i,x = .int i/\Q (some i) H1
def Qlz:∀{us:List Value},Vals (ns.map V.int) us->mq us ns:=by
 induction ns with
 |nil=>intro us r;cases r;exact .nil
 |cons n ns j =>
  intro us r;cases r with
  |cons m B =>
   obtain⟨t,e⟩:=m;subst e;exact .cons n t (j B)
section
variable{X:Cx}{e:Expr}{te:TE}{lo hi:Option Expr}{tl th:TO}{pos p2:Pos}
def po_none:PO X none tNoPart:=by
 intro pins s σ H Q I h;exact af ⟨none,H,I,.none,h⟩
def po_some(h:PE X e te):PO X (some e) (tPart te):=by
 intro pins s σ H Q I hw;refine thn (h pins s σ H _ I hw) λu s1 ⟨x,H1,j,m,B⟩=>?_;obtain⟨i,rfl,q⟩:=B;obtain⟨t,rfl⟩:=m;exact⟨some i,H1,j,.int i t,q⟩
def SlR(X:Cx)(r:V->Option Int->Option Int->Hp->VK->Prop):Prop :=
 ∀pins s (σ:St) H x v j m lo hi B Q,Inv X pins σ H s->RelV x v->s.heap.IsSliceOf B j m .none->gM j lo->gM m hi->r x lo hi H Q ->
  ∃T id,j9 (.type T) "__getitem__"=pure (some (.builtin id))/\s.TypeIs v T/\av (model X.prog X.w) X.A (gC v (.ref B)) (EP X pins σ Q) X.xe s
def tSl(r:V->Option Int->Option Int->Hp->VK->Prop)(te:TE)(tl th:TO):TE:=λσ H Q=>te σ H λx H1=>tl σ H1 λl H2=>th σ H2 λu j=>r x l u j Q
def Qgf(G:SlR X r)(he:PE X e te)(J:PO X lo tl)(O:PO X hi th):PE X (.Subscript e (.Slice lo hi none p2) pos) (tSl r te tl th):=by
 intro pins s σ H Q I h;refine Subscript_ (thn (he pins s σ H _ I h) λv s1 ⟨x,H1,E,L,M⟩=>?_);refine wpAny_Slice (thn (J pins s1 σ H1 _ E M) λm s2 ⟨l,H2,U,Y,q2⟩=>thn (O pins s2 σ H2 _ U q2) λB j ⟨u,D,I3,pu,q3⟩=>?_);refine af ?_;have I4:Inv X pins σ D { j with heap:=j.heap.push { cls := .type "slice",data := .fields #[m,B,.none] } }:=I3.kept λb ob q=>ag _ q;obtain⟨T,id,hT,ht,hg⟩:=G pins { j with heap:=j.heap.push { cls := .type "slice",data := .fields #[m,B,.none] } } σ D x v m B l u j.heap.objs.size Q I4 L (Heap.IsSliceOf.new ..) Y pu q3;exact tail_any ht hT hg (by with_unfolding_all rfl)
def cutV(xs:List V)(lo hi:Option Int):List V:=(xs.drop (HT.sIx xs.length 0 lo)).take (HT.sIx xs.length xs.length hi-HT.sIx xs.length 0 lo)
def Qet xs lo hi:(cutV xs lo hi).length<=xs.length:=by
 unfold cutV;rw[br,bu];omega
def rSlT(K:ac):V->Option Int->Option Int->Hp->VK->Prop:=λx lo hi H Q=>∃a xs,x = .ref a/\SqT K H a xs /\
 ¬(HT.sIx xs.length 0 lo=0/\HT.sIx xs.length xs.length hi=xs.length)/\∀p,H p=none->Q (.ref p) (upd H p (.tup (cutV xs lo hi)))
def sl_tup:SlR X (rSlT X.K):=by
 intro pins s σ H x v L M lo hi O Q I D hs E G h;obtain⟨a,xs,rfl,J,hw,q⟩:=h;cases D;obtain⟨m,r,B,hz⟩:=I.tuple J;have j:m.toArray.size=xs.length:=by rw[aF];exact r.length.symm
 refine⟨"tuple",_,ba.lookup,B.typeIs,?_⟩;refine HT.getItem_tuple_cut B hs E G (by rw[j];exact hw) ?_ (by rw[j];exact hz);rw[j];refine⟨.ref s.heap.objs.size,_,I.laid (t':=s.toks) (o := .tup (cutV xs lo hi)) (λb ob q=>ag _ q) (am _) ?_,rfl,q _ (I.hok.fresh (am _))⟩;exact⟨aS (Qet xs lo hi) hz,_,(r.drop (HT.sIx xs.length 0 lo)).take (HT.sIx xs.length xs.length hi-HT.sIx xs.length 0 lo),Xd.new _ _ _⟩
def rCatT(K:ac):R2:=λx y H Q=>∃a b xs ys,x = .ref a/\y = .ref b/\SqT K H a xs/\SqT K H b ys/\xs≠[]/\xs.length+ys.length<=ax /\
 (ys=[]->Q (.ref a) H)/\(ys≠[]->∀p,H p=none->Q (.ref p) (upd H p (.tup (xs++ys))))
def Vals.nil_iff(r:Vals xs us):us=[]↔xs=[]:=by
 cases r with
 |nil=>simp
 |cons _ _=>simp
def op_catT:OpR X (bV .Add) (rCatT X.K):=by
 intro pins s σ H x y v u Q I D E h;obtain⟨a,b,xs,ys,rfl,rfl,G,J,L,hz,M,O⟩:=h;cases D;cases E;obtain⟨T,m,p1,_⟩:=I.tuple G;obtain⟨B,j,p2,_⟩:=I.tuple J;refine HT.cat_tup p1 p2 (λz=>L (m.nil_iff.mp z)) (λz=>⟨.ref a,H,I,rfl,M (j.nil_iff.mp z)⟩) (λz=>?_) (by rw[<-m.length,<-j.length];exact hz);refine⟨.ref s.heap.objs.size,_,I.laid (λb ob q=>ag _ q) (am _) ?_,rfl,O (λw=>z (j.nil_iff.mpr w)) _ (I.hok.fresh (am _))⟩;exact⟨by rw[aJ];exact hz,_,m.append j,Xd.new _ _ _⟩
end
def ixN(n:Nat)(i:Int):Option Nat:=if 0<=i then (if i<n then some i.toNat else none) else if -n<=i then some (i+n).toNat else none
def atI{α:Type}(xs:List α)(i:Int):Option α:=(ixN xs.length i).bind λj=>xs[j]?
def Qnn(h:ixN n i=some j):seqIndex? i n=some j/\j<n /\ -n<=i/\i<n:=by
 unfold ixN at h;by_cases h0:0<=i
 .rw[ak h0]at h;by_cases h1:i<n
  .rw[ak h1]at h;have e :=aR h;exact⟨by rw[md h0 h1,e],by omega,by omega,h1⟩
  .rw[ar h1]at h;cases h
 .rw[ar h0]at h;by_cases h1 : -n<=i
  .rw[ak h1]at h;have e :=aR h;exact⟨by rw[lE (by omega) h1,e],by omega,h1,by omega⟩
  .rw[ar h1]at h;cases h
def QiK(h:atI xs i=some v):∃j,seqIndex? i xs.length=some j/\xs[j]?=some v/\j<xs.length /\ -xs.length<=i/\i<xs.length:=by
 unfold atI at h;cases e:ixN xs.length i with
 |none=>rw[e]at h;cases h
 |some j =>
  rw[e]at h;obtain⟨h1,h2,m,B⟩:=Qnn e;exact⟨j,h1,h,h2,m,B⟩
def QnL{j:Nat}(h:xs[j]?=some v):atI xs j=some v:=by
 have m :=(al.mp h).1;have e:ixN xs.length j=some j:=by
  unfold ixN;rw[ak (by omega),ak (by omega)];simp
 unfold atI;rw[e];exact h
def atI_last xs (v:α):atI (xs++[v]) (-1)=some v:=by
 have j:(xs++[v]).length=xs.length+1:=by simp
 have e:ixN (xs++[v]).length (-1)=some xs.length:=by
  unfold ixN;rw[j,ar (by decide),ak (by omega)];congr 1;omega
 unfold atI;rw[e];simp
def QiN(b:Expr):Prop:=∀o i,subscripted b false o i=operate [o,i] (gC o i)
def IxR(X:Cx)(r:R2):Prop :=
 ∀value slice pins s (σ:St) H x y v u Q,Inv X pins σ H s->RelV x v->RelV y u->r x y H Q ->
  subscripted slice false v u=operate [v,u] (gC v u)->av (model X.prog X.w) X.A (subscriptTail value slice v u) (EP X pins σ Q) X.xe s
def MtR(X:Cx)(id:String)(r:V->List V->Hp->VK->Prop):Prop :=
 ∀pins s (σ:St) H x xs v us Q,Inv X pins σ H s->RelV x v->Vals xs us->r x xs H Q ->
  av (model X.prog X.w) X.A (call (.builtin id) (v::us)) (EP X pins σ Q) X.xe s
section
variable{X:Cx}{a b:Expr}{ta tb:TE}{pos:Pos}
def pe_ix(G:IxR X r)(J:PE X a ta)(O:PE X b tb)(hs:QiN b):PE X (.Subscript a b pos) (tOp r ta tb):=by
 intro pins s σ H Q I h;exact Subscript_ (binT J O I h λv u s2 x y H2 j m B q=>G a b pins s2 σ H2 x y v u Q j m B q (hs _ _))
def rIxL(K:ac):R2:=λx y H Q=>∃p xs i v,x = .ref p/\y = .int i/\SqL K H p xs/\atI xs i=some v/\Q v H
def rIxT(K:ac):R2:=λx y H Q=>∃p xs i v,x = .ref p/\y = .int i/\SqT K H p xs/\atI xs i=some v/\Q v H
def rIxS:R2:=λx y H Q=>∃z i c,x = .str z/\y = .int i/\z.length<=ax/\atI z.cps.toList i=some c/\Q (.str ⟨#[c]⟩) H
def ix_list:IxR X (rIxL X.K):=by
 intro value slice pins s σ H x y v u Q I J L h hs;obtain⟨p,xs,i,z,rfl,rfl,M,he,q⟩:=h;cases J;obtain⟨t,rfl⟩:=L;obtain⟨m,r,B,hz⟩:=I.list M;obtain⟨j,h1,h2,Y,O,T⟩:=QiK he;obtain⟨w,G,D⟩:=r.get h2;have U:=r.length;have hn:=Qjb;have fin:EP X pins σ Q w s:=⟨z,H,I,D,q⟩
 by_cases h0:0<=i
 .have E :=by
   rw[md h0 T]at h1;exact aR h1
  exact item_listR B.isList h0 (by omega) (by rw[E];simpa using G) fin hs
 .have E:(i+m.toArray.size).toNat=j:=by
   rw[lE (by omega) O]at h1;rw[aF,<-U];exact aR h1
  exact subscriptTail_builtinR B.isList.typeIs slot_list_getitem.lookup
   (wpAny_getItem_list_neg B.isList (by omega) (by rw[aF]<;>omega) (by omega) (by rw[E];simpa using G) ⟨rfl,fin⟩) hs
def ix_tup:IxR X (rIxT X.K):=by
 intro value slice pins s σ H x y v u Q I D E h hs;obtain⟨p,xs,i,z,rfl,rfl,G,he,q⟩:=h;cases D;obtain⟨t,rfl⟩:=E;obtain⟨J,r,B,hz⟩:=I.tuple G;obtain⟨j,h1,h2,O,T,U⟩:=QiK he;obtain⟨w,L,m⟩:=r.get h2;have M:=r.length;have hn:=Qjb;have fin:EP X pins σ Q w s:=⟨z,H,I,m,q⟩
 exact subscriptTail_builtinR B.typeIs slot_tuple_getitem.lookup
  (getItem_tuple B (by omega) (by omega) (by rw[aF,<-M];exact h1) (by simpa using L) ⟨rfl,fin⟩) hs
def ix_str:IxR X rIxS:=by
 intro value slice pins s σ H x y v u Q I m B h hs;obtain⟨z,i,c,rfl,rfl,hz,he,q⟩:=h;obtain⟨t,rfl⟩:=m;obtain⟨t',rfl⟩:=B;obtain⟨j,h1,h2,D,E,G⟩:=QiK he;have J:z.cps.toList.length=z.length:=by simp[b9]
 have hn:=Qjb;exact tail_any (eJ s z t) slot_str_getitem.lookup (getItem_str (by
  grind) (by grind) ⟨.str ⟨#[c]⟩,H,I.tok _,⟨_,rfl⟩,q⟩) hs
def Qlq(G:List Value) n j u:bK (·.setIfInBounds j u) { cls := .type "list",data := .seq G.toArray n }={ cls := .type "list",data := .seq (G.set j u).toArray n }:=by
 simp[bK]
def Inv.lst(I:Inv X pins σ H s)(h:H p=some (.lst xs)) :
  ∃G n,Vals xs G/\s.heap.get? p=some { cls := .type "list",data := .seq G.toArray n }/\xs.length<=ax:=by
 obtain⟨z,G,n,r,e⟩:=I.hok p _ h;exact⟨G,n,r,e,z⟩
def Inv.lstUpd{G its':List Value}(I:Inv X pins σ H s)(h:H p=some (.lst xs))(ho:s.heap.get? p=some { cls := .type "list",data := .seq G.toArray n })(hf:f { cls := .type "list",data := .seq G.toArray n }={ cls := .type "list",data := .seq its'.toArray J })(r:Vals ys its')(hz:ys.length<=ax) t :
  Inv X pins σ (upd H p (.lst ys)) { s with heap:=s.heap.update p f,toks:=t }:=by
 have e:(s.heap.update p f).get? p=some { cls := .type "list",data := .seq its'.toArray J }:=by
  rw[bI f ho (by rw[hf]<;>rfl),hf]
 refine I.write (by rw[h];trivial) (.inl rfl) (λb u j q=>(aX _ _ (Ne.symm j)).trans q) ⟨_,e⟩ ?_;exact⟨hz,its',J,r,e⟩
def rSetL:V->V->V->Hp->(Hp->Prop)->Prop:=λo i v H Q=>∃p xs k j,o = .ref p/\i = .int k/\H p=some (.lst xs)/\ixN xs.length k=some j/\Q (upd H p (.lst (xs.set j v)))
def set_list:PSet X rSetL:=by
 intro pins s σ H o i v U iv u Q I ro M O h;obtain⟨p,xs,k,j,rfl,rfl,E,T,q⟩:=h;cases ro;obtain⟨t,rfl⟩:=M;obtain⟨m,n,r,ho,hz⟩:=I.lst E;obtain⟨h1,h2,G,J⟩:=Qnn T;have B:=r.length;have hn:=Qjb;have L:Inv X pins σ (upd H p (.lst (xs.set j v))) { s with heap:=s.heap.update p (bK (·.setIfInBounds j u)) } :=
  I.lstUpd E ho (Qlq m n j u) (r.set O j) (by rw[dM];exact hz) s.toks
 by_cases h0:0<=k
 .have D:k.toNat=j:=by
   rw[md h0 J]at h1;exact aR h1
  exact PySem.W.ki_setAt ho h0 (by omega) (by rw[aF,<-B];exact J) (by rw[D];exact⟨_,L,q⟩)
 .have D:(k+(m.toArray.size:Int)).toNat=j:=by
   rw[lE (by omega) G]at h1;rw[aF,<-B];exact aR h1
  exact PySem.W.ki_setBack ho (by omega) (by rw[aF,<-B];exact G) (by omega) (by rw[D];exact⟨_,L,q⟩)
def Qid lo hi n:(fB lo hi none n).1=((HT.sIx n 0 lo))/\(fB lo hi none n).2.1=((HT.sIx n n hi))/\(fB lo hi none n).2.2=1:=by
 refine⟨?_,?_,rfl⟩
 .cases lo with
  |none=>simp[fB,HT.sIx]
  |some i =>
   simp only[fB,HT.sIx];grind
 .cases hi with
  |none=>simp[fB,HT.sIx]
  |some i =>
   simp only[fB,HT.sIx];grind
def QgC(G:List Value) lo hi:slicePick G.toArray lo hi none=((G.drop (HT.sIx G.length 0 lo)).take (HT.sIx G.length G.length hi-HT.sIx G.length 0 lo)).toArray:=by
 obtain⟨h1,h2,j⟩:=Qid lo hi G.toArray.size;unfold slicePick;rw[h1,h2,j];simp only[sliceRange_one,pick_run]<;>rfl
def rSlL(K:ac):V->Option Int->Option Int->Hp->VK->Prop:=λx lo hi H Q=>∃a xs,x = .ref a/\SqL K H a xs/\∀p,H p=none->Q (.ref p) (upd H p (.lst (cutV xs lo hi)))
def sl_list:SlR X (rSlL X.K):=by
 intro pins s σ H x v L M lo hi O Q I B hs D E h;obtain⟨a,xs,rfl,G,q⟩:=h;cases B;obtain⟨J,r,m,hz⟩:=I.list G;have j:=r.length;refine⟨"list",_,slot_list_getitem.lookup,m.isList.typeIs,?_⟩;refine wpAny_getItem_list_slice m.isList hs D E .none (by simp) ?_ (by grind);rw[QgC,<-j];refine⟨.ref s.heap.objs.size,_,I.laid (λb ob q=>ag _ q) (am _) ?_,rfl,q _ (I.hok.fresh (am _))⟩;exact⟨aS (Qet xs lo hi) hz,_,0,(r.drop (HT.sIx xs.length 0 lo)).take (HT.sIx xs.length xs.length hi-HT.sIx xs.length 0 lo),aB _ rfl⟩
def Qin:Qah X (.type "list") (λxs H Q=>∃p ys,xs=[.ref p]/\(SqL X.K H p ys\/SqT X.K H p ys)/\∀l,H l=none->Q (.ref l) (upd H l (.lst ys))):=by
 intro pins s σ H xs us Q I r h;obtain⟨p,ys,rfl,D,q⟩:=h;obtain⟨u,rfl,J⟩:=YD r;cases J;have fin:∀j,Vals ys j->ys.length<=ax->∀h' m,(∀b o',s.heap.get? b=some o'->h'.get? b=some o') ->
   h'.get? s.heap.objs.size=some { cls := .type "list",dict:=none,data := .seq j.toArray m,slots := #[] }->EP X pins σ Q (.ref s.heap.objs.size) { s with heap:=h' }:=λj B hz h' m kp e =>
  ⟨.ref s.heap.objs.size,_,I.laid kp (am _) (show ZY X.prog X.w _ h' _ (.lst ys) from⟨hz,j,m,B,e⟩),rfl,q _ (I.hok.fresh (am _))⟩
 rcases D with D | D
 .obtain⟨j,B,G,hz⟩:=I.list D;have E:=B.length;obtain⟨o,ho,hc,n,hd⟩:=G.isList;exact call_list_seq p (.inl rfl) ho hc hd (λh' m kp e=>fin j B hz h' m kp e) (by simp<;>omega)
 .obtain⟨j,B,G,hz⟩:=I.tuple D;have E:=B.length;obtain⟨o,ho,hc,n,hd⟩:=G;exact call_list_seq p (.inr rfl) ho hc hd (λh' m kp e=>fin j B hz h' m kp e) (by simp<;>omega)
def QgI:Qah X (.type "tuple") (λxs H Q=>∃p ys,xs=[.ref p]/\((SqL X.K H p ys/\∀l,H l=none->Q (.ref l) (upd H l (.tup ys)))\/(SqT X.K H p ys/\Q (.ref p) H))):=by
 intro pins s σ H xs us Q I r h;obtain⟨p,ys,rfl,h⟩:=h;obtain⟨u,rfl,J⟩:=YD r;cases J;rcases h with⟨m,q⟩|⟨m,q⟩
 .obtain⟨j,B,D,hz⟩:=I.list m;have E:=B.length;refine call_tuple_list D.isList (λh' kp=>?_) (by simp<;>omega);have G :=I.kept (t':=s.toks) kp;have L  :=
   G.laid (t':=s.toks) (λb o e=>ag _ e) (am _) (show ZY X.prog X.w _ _ _ (.tup ys) from⟨hz,j,B,Xd.new _ _ _⟩)
  exact⟨.ref h'.objs.size,_,L,rfl,q _ (G.hok.fresh (am _))⟩
 .obtain⟨j,B,D,hz⟩:=I.tuple m;exact call_tuple_same D ⟨.ref p,H,I,rfl,q⟩
def tyV(K:ac)(T:String)(x:V)(H:Hp):Prop:=match x with
 |.str _=>T = "str"
 |.int _=>T = "int"
 | .ref p=>(T = "list"/\∃xs,SqL K H p xs)\/(T = "tuple"/\∃o,K.lookup p=some o/\o.cls = .type "tuple"/\o.dict=none) \/
   (T = "dict"/\((∃kvs,H p=some (.dK kvs))\/∃kvs,H p=some (.dT kvs)))\/(T = "set"/\∃S n,H p=some (.set S n))
 |_=>False
def tyV_is(I:Inv X pins σ H s)(r:RelV x v)(ty:tyV X.K T x H) :
  s.TypeIs v T/\∀a,v = .ref a->∃ob,s.heap.get? a=some ob/\ob.dict=none:=by
 cases x with
 |str z =>
  obtain⟨t,rfl⟩:=r;cases (ty);exact⟨eJ s z t,λ_ e=>nomatch e⟩
 |int i =>
  obtain⟨t,rfl⟩:=r;cases (ty);exact⟨typeIs_int s i t,λ_ e=>nomatch e⟩
 |ref p =>
  cases r;rcases ty with⟨rfl,xs,B⟩|⟨rfl,o,j,hc,hd⟩|⟨rfl,j⟩|⟨rfl,S,n,j⟩
  .obtain⟨D,_,m,_⟩:=I.list B;refine⟨m.isList.typeIs,λa e=>?_⟩;cases e;obtain⟨o,n,e,c,hd,_⟩:=m;exact⟨o,e,hd⟩
  .refine⟨⟨o,I.kIn p o j,hc⟩,λa e=>?_⟩;cases e;exact⟨o,I.kIn _ o j,hd⟩
  .have z:∃o,s.heap.get? p=some o/\o.ExactDict:=by
    rcases j with⟨kvs,j⟩|⟨kvs,j⟩
    .obtain⟨_,_,_,_,o,_,_,e,ex,_⟩:=I.hok p _ j;exact⟨o,e,ex⟩
    .obtain⟨_,_,_,_,o,_,_,e,ex,_⟩:=I.hok p _ j;exact⟨o,e,ex⟩
   obtain⟨o,e,ex⟩:=z;refine⟨⟨o,e,ex.1⟩,λa e2=>?_⟩;cases e2;exact⟨o,e,ex.2.1⟩
  .obtain⟨o,_,_,_,e,ex,_⟩:=I.hok p _ j;refine⟨⟨o,e,ex.1⟩,λa e2=>?_⟩;cases e2;exact⟨o,e,ex.2.1⟩
 |_=>exact cB ty
def tBM(K:ac)(T:String)(r:V->List V->Hp->VK->Prop)(to:TE)(t:TA):TE:=λσ H Q=>to σ H λx H1=>tyV K T x H1/\t σ H1 λxs H2=>r x xs H2 Q
variable{o e:Expr}{es:List Expr}{to:TE}{t:TA}{name:Str}{apos cpos:Pos}{T id:String}{r:V->List V->Hp->VK->Prop}
def Qad(pa:PlainAttrs T)(slot:Slot T name id)(Y:typeOf (.builtin id)=pure (.type "method_descriptor"))(hm:MtR X id r)(ho:PE X o to)(ha:PA X (e::es) t)(J:cQ o name X.env (eval o X.env)=eval o X.env:=by rfl)(U:((bB cpos (ai (e::es) X.env)).all (λx => !x.1)&&(gS cpos (eM [] X.env)).all (λx=>x.1.isSome)
   && decide ((e::es).length+([]:List dL).length+(if ([]:List dL).isEmpty then 0 else 1)<30))=true:=by rfl)(O:(apos.endLine==cpos.line)=true:=by rfl)(hs:ai (e::es) X.env=(false,eval e X.env)::ai es X.env:=by rfl)(G:(bB cpos (ai es X.env)).any (·.1)=false:=by rfl) :
  PE X (.Call (.Attribute o name apos) (e::es) [] cpos) (tBM X.K T r to t):=by
 intro pins s σ H Q I h;refine hB J U O rfl (thn (ho pins s σ H _ I h) λv s1 ⟨x,H1,j,m,ty,D⟩=>?_);obtain⟨h1,h2⟩:=tyV_is j m ty;refine⟨T,id,pa,slot,Y,h1,h2,?_⟩;have B:=ha cpos pins s1 σ H1 _ j D;rw[hs]at B |-;refine ia (by show(false||(bB cpos (ai es X.env)).any (·.1))=false;rw[G]<;>rfl) (iH ?_);exact thn B λus s2 ⟨vs,H2,E,L,M⟩=>hm pins s2 σ H2 x vs v us Q E m L M
end
def MtM(X:Cx)(id:String)(r:V->List V->Hp->VK->Prop):Prop :=
 ∀pins s (σ:St) H x xs v us Q,Inv X pins σ H s->RelV x v->Vals xs us->r x xs H Q ->
  av (model X.prog X.w) X.A (call (.builtin id) (v::us)) (EP X pins σ Q) X.xe s
theorem Vals.one:∀{x:V}{us:List Value},Vals [x] us->∃u,us=[u]/\RelV x u
 |_,_,.cons r .nil=>⟨_,rfl,r⟩
theorem Vals.eraseIdx:∀{xs:List V}{us:List Value} i,Vals xs us->Vals (xs.eraseIdx i) (us.eraseIdx i)
 |_,_,_,.nil=>.nil
 |_,_,0,.cons _ t=>t
 |_,_,i+1,.cons r t=>.cons r (Vals.eraseIdx i t)
theorem Qhz:∀(l:List α) i,(l.eraseIdx i).length<=l.length
 |[],_=>am _
 |_::_,0=>cf _
 |_::r,i+1=>lI (Qhz r i)
section
variable{X:Cx}{pins:List (Addr×Obj)}{σ:St}{H:Hp}{s:ap}{l b:Addr}{xs ys zs:List V}
def Inv.lset{G its':List Value}(I:Inv X pins σ H s)(J:H l=some (.lst xs))(e:s.heap.get? l=some { cls := .type "list",data := .seq G.toArray n })(hf:f G.toArray=its'.toArray)(O:Vals ys its')(hz:ys.length<=ax) :
  Inv X pins σ (upd H l (.lst ys)) { s with heap:=s.heap.update l (bK f),toks:=t' }:=by
 have q:=PySem.IsL.update e f;rw[hf]at q;refine I.write (by rw[J];exact trivial) (.inl rfl) (λB u j m=>(aX s.heap (bK f) (Ne.symm j)).trans m) ⟨_,q⟩ ?_;exact⟨hz,its',_,O,q⟩
def Inv.lnew(I:Inv X pins σ H s)(J:Vals ys G)(hz:ys.length<=ax) :
  Inv X pins σ (upd H s.heap.objs.size (.lst ys)) { s with heap:=s.heap.push { cls := .type "list",data := .seq G.toArray },toks:=t' } :=
 I.laid (λ_ _ q=>ag _ q) (am _) ⟨hz,G,0,J,aB _ rfl⟩
def Inv.fresh(I:Inv X pins σ H s):H s.heap.objs.size=none:=I.hok.fresh (am _)
def Inv.lstM(I:Inv X pins σ H s)(J:H l=some (.lst xs)):xs.length<=ax/\∃G n,Vals xs G/\xs.length=G.length/\s.heap.get? l=some { cls := .type "list",data := .seq G.toArray n }:=by
 obtain⟨z,G,n,r,e⟩:=I.hok l _ J;exact⟨z,G,n,r,r.length,e⟩
def Qku(h:n<=ax):cR n=false:=by
 grind[cR]
end
section
variable{X:Cx}
def QmT:V->List V->Hp->VK->Prop:=λx vs H Q=>∃l xs y,x = .ref l/\vs=[y]/\H l=some (.lst xs)/\xs.length<ax/\Q .non (upd H l (.lst (xs++[y])))
def YN:MtM X "list.append" QmT:=by
 intro pins s σ H x vs v us Q I B D h;obtain⟨l,xs,y,rfl,rfl,m,hz,q⟩:=h;cases B;obtain⟨u,rfl,E⟩:=D.one;obtain⟨z,j,n,r,G,e⟩:=I.lstM m;refine fj F.slot_list_append ⟨_,e,rfl⟩ F.entry_list_append (F.args_list_append_2 _ _) (PySem.list_append l j.toArray n u (by grind)) ⟨e,?_⟩;refine⟨.non,_,I.lset m e (by simp) (r.append (.cons E .nil)) ?_,rfl,q⟩;grind
def rPopAt:V->List V->Hp->VK->Prop:=λx vs H Q=>∃l xs i k y,x = .ref l/\vs=[.int i]/\H l=some (.lst xs) /\ -(2^63)<=i/\i<2^63/\seqIndex? i xs.length=some k/\xs[k]?=some y/\Q y (upd H l (.lst (xs.eraseIdx k)))
def mt_popAt:MtM X "list.pop" rPopAt:=by
 intro pins s σ H x vs v us Q I D E h;obtain⟨l,xs,i,k,y,rfl,rfl,B,h1,h2,G,J,q⟩:=h;cases D;obtain⟨u,rfl,L⟩:=E.one;obtain⟨t,rfl⟩:=L;obtain⟨z,j,n,r,M,e⟩:=I.lstM B;obtain⟨w,hw,m⟩:=r.get J;refine fj F.slot_list_pop ⟨_,e,rfl⟩ F.entry_list_pop (F.args_list_pop_2 _ _)
  (MeetsSeq.list_pop_at l j.toArray n i t k w (fitsIndex_both h1 h2) (by rw[aF,<-M];exact G) (by rw[<-bR];exact hw) (by rw[aF];omega)) ⟨e,?_⟩
 refine⟨y,_,I.lset (its':=j.eraseIdx k) B e ?_ (r.eraseIdx k) ?_,m,q⟩
 .show j.toArray.eraseIdxIfInBounds k=(j.eraseIdx k).toArray;rw[List.eraseIdxIfInBounds_toArray]
 .have:=Qhz xs k;omega
end
end L2
namespace Att
open PySem PySem.W PySem.Calls PyProof.Rows
def QeG:∀ns vs,WellAll P h vs (ns.map WData.int)->mq vs ns:=by
 intro ns;induction ns with
 |nil =>
  intro vs w;cases w;exact .nil
 |cons n ns j =>
  intro vs w;cases w with
  |cons a b =>
   cases a;exact .cons _ _ (j _ b)
def QnY{l:OpenLaw}(hn:l.most=some n)(G:l.row.toRowW.claim.pre args=true)(O:WellAll P h J args) :
  ∃a vs ns,J=[cr a]/\args=[WData.list (ns.map WData.int)]/\h.get? a=some { cls := .type "list",data := .seq vs.toArray }/\mq vs ns/\ns.length<=n:=by
 have D :=(pre_splitW G).1;have hc :=(pre_splitW G).2;obtain⟨d,r,rfl,h1,h2⟩:=hasAllW_cons D;obtain rfl:=hasAllW_nil h2;obtain⟨xs,rfl,H⟩:=hasW_list h1;obtain⟨ns,rfl⟩:=items_int H;have j:ns.length<=n:=by
  have B :=by
   have B:=(holds_andW hc).1;rw[hn]at B;exact B
  have E:=condW_of B (w_not (w_lt w_lit (w_len_list (w_arg rfl))));refine lK λq=>?_;first
   | (exact absurd E (by decide))
   | (simp at E;omega)
 cases O with
 |cons I L =>
  cases L;cases I with
  |list ho m=>exact⟨_,_,ns,rfl,rfl,ho,QeG ns _ m,j⟩
def Qoi(l:OpenLaw) args:l.row.toRowW.claim.post args (.bool true) args=true :=
 postW_of
  (show WShape.has [] (.bool true) .bool=true by first | rfl | decide | simp[  WShape.armsAll])
  (w_eq_bool (w_res rfl) w_lit) rfl
def attach_call{l:OpenLaw}(hn:l.most=some n)(U:d.params.defaults=[])(call:∀w s₀ J mg mb fa o pm cd doc a vs ns,
   Ground q O [] XP w s₀ mg mb J.heap->YP w J.heap ->
   J.heap.get? fa=some o->o.data = .func (docDef d.name d.params d.body d.scope pm cd doc)->J.heap.CodeRec cd d.name->mg d.name=some (.ref fa) ->
   J.heap.get? a=some { cls := .type "list",data := .seq vs.toArray }->mq vs ns->ns.length<=n->J.gens = #[] ->
   fu (model l.prog w) ja (.call (.ref fa) ⟨[.ref a],[]⟩) (λr s'=>r = .ok (.ret (.bool true))/\OldK J.heap s'.heap/\s'.os=J.os/\iy s'.gens) J) :
  WalkO q O XP YP l.row.toRowW d [] (λf vs=>k9 f vs):=by
 intro w s₀ J mg mb G Y fa o pm cd doc dV kV ho hd E L H T args M as m Q hrd I hlo;obtain rfl:dV = .none:=Dflts.none L U;obtain rfl:kV = .none:=Dflts.noKw L;obtain⟨a,vs,ns,rfl,rfl,B,j,D⟩:=QnY hn m I;refine enter_call (dP (call w s₀ J mg mb fa o pm cd doc a vs ns G Y ho (fd_plain hd) E H B j D T) λr s' hq=>?_);obtain⟨rfl,h2,h3,h4⟩:=hq;exact⟨.inl ⟨.bool true,.bool true,[],rfl,λ_=>rfl,.bool true,Qoi l _,λ_=>⟨List.Pairwise.nil,λ_ hm=>(nomatch hm)⟩⟩,h2,h3,h4⟩
end Att
namespace L2
open PySem PySem.Spec PyProof.Rows
theorem QdS:∀{vs:List Value}{ns:List Int},mq vs ns->Vals (ns.map V.int) vs
 |_,_,.nil=>.nil
 |_,_,.cons n t h=>.cons ⟨t,rfl⟩ (QdS h)
def Only(H:Hp):Prop:=∀b,H b=none\/∃o xs,H b=some (.frz o (.lst xs))
def law_call{P:aN}{w:bg}{K:ac}{mg mb:Str->Option Value}{CX:CXT}{k:Nat}{fa a:Addr}{fd:cA}{x:Str}{sp:Sp}{G:ap}{vs:List Value}{ns:List Int}(KX:K.In G.heap)(U:G.heap.Ns cG mg)(J:G.heap.Ns builtinsNs mb)(hbb:∀x:Str,x≠"__name__"->mb x=cy x)(Y:G.heap.NoLimit)(hg:G.gens = #[])(ha:G.heap.get? a=some { cls := .type "list",data := .seq vs.toArray })(hi:mq vs ns)(hl:ns.length<=ax)(hr:Room k ja)(F:∀base ,K.In base->base.Ns cG mg->FnOk P w K mg base CX k fa fd [x] sp)(O:∀s u,lR s fd ⟨[u],[]⟩ [(x,u)])(hsp:∀H ,Only H->SqL K H a (ns.map V.int)->sp [.ref a] H (λv _=>v = .bl true) λ_ _ _=>False)(hCX:∀H e s',CX [] H G (λ_ _ _=>False) e s'->False) :
  fu (model P w) ja (.call (.ref fa) ⟨[.ref a],[]⟩) (λr s'=>r = .ok (.ret (.bool true))/\OldK G.heap s'.heap/\s'.os=G.os/\iy s'.gens) G:=by
 have rv:=QdS hi;have E:=hi.length
 -- from an abstract heap in which nothing but the script may be tracked
 have D:∀H ,Only H->SqL K H a (ns.map V.int)->HOk P w H G.heap->(∀b,H b≠none->b=a)->(H a≠none->K.lookup a=none) ->
   fu (model P w) ja (.call (.ref fa) ⟨[.ref a],[]⟩) (λr s'=>r = .ok (.ret (.bool true))/\OldK G.heap s'.heap/\s'.os=G.os/\iy s'.gens) G:=by
  intro H hO hS hok hA hK;have j:∀{b:Addr}{o:Obj},G.heap.get? b=some o->H b=none->(hidT G.heap H).get? b=some o:=λe n=>hidT_get e n;have Q:∀{b:Addr}{o:Obj}{es:Array DictEntry}{ep:Nat},G.heap.get? b=some o->o.data = .dict es ep->H b=none:=λ{b o es ep} e d=>by
   cases q:H b with
   |none=>rfl
   |some u =>
    have T :=hA b (by rw[q];simp);subst T;rw[ha]at e;cases e;have d' :=d;cases d'
  have B:∀{b:Addr}{m:Str->Option Value},G.heap.Ns b m->(hidT G.heap H).Ns b m:=λ{b m} ⟨o,es,ep,e,d,r⟩=>⟨o,es,ep,j e (Q e d),d,r⟩
  have I :=λb o e=>j (KX b o e) (by
   cases q:H b with
   |none=>rfl
   |some u =>
    have T :=hA b (by rw[q];simp);subst T;rw[hK (by rw[q];simp)]at e;cases e)
  have hM:Mod K mg (hidT G.heap H):=⟨I,B U,⟨mb,B J,hbb⟩,let ⟨mc,h1,h2⟩:=Y;⟨mc,B h1,h2⟩⟩
  have e0:Env0 P w K mg (hidT G.heap H) ja [] G H:=⟨rfl,hM,λb o e=>of_hidT e,Nat.le_of_eq (QoA _ _),trivial,λb J=>absurd (show b∈[] from J) (by simp),hok,.of_eq hg⟩
  refine dP ((F _ I (B U)).run ja [] G H ⟨[.ref a],[]⟩ [.ref a] [.ref a] _ _ hr e0 (O G (.ref a)) (.cons rfl .nil) (hsp H hO hS)) λr s' h=>?_;cases r with
  |error e=>exact(hCX H e s' h).elim
  |ok fl =>
   cases fl with
   |next=>exact cB h
   |brk=>exact cB h
   |cont=>exact cB h
   |ret u =>
    obtain⟨v,H',os,bare,un,L,r',q⟩:=h;have q' :=q;subst q';obtain rfl:u=gf true:=r';refine⟨rfl,OldK.of_keep λb o e=>?_,os,bare⟩;cases q:H b with
    |none=>exact un.keep b o e q (by intro z;exact absurd (show b∈[] from z) (by simp)) (by simp)
    |some u =>
     rcases hO b with z|⟨ob,xs,z⟩
     .rw[q]at z;cases z
     .have z2:=un.frzs b ob _ z;obtain⟨e1,_⟩:=hok b _ z;obtain⟨e2,_⟩:=L b _ z2;rw[e]at e1;cases e1;exact e2
 cases hk:K.lookup a with
 |some o =>
  -- the script is one of the module's own objects
  have e:=KX a o hk;rw[ha]at e;cases e;refine D (λ_=>none) (λ_=>.inl rfl) (.inr ⟨_,vs.toArray,_,hk,rfl,rfl,rfl,by rw[aF,E];exact hl,by simpa using rv⟩) (λb u z=>by have M :=z;cases M) (λb z=>absurd rfl z) λz=>absurd rfl z
 |none =>
  refine D (λb=>if b=a then some (.frz { cls := .type "list",data := .seq vs.toArray } (.lst (ns.map V.int))) else none) (λb=>?_) (.inl (.inr ⟨{ cls := .type "list",data := .seq vs.toArray },ak rfl⟩)) (λb u z=>?_) (λb z=>?_) λ_=>hk
  .by_cases J:b=a
   .exact .inr ⟨_,_,ak J⟩
   .exact .inl (ar J)
  .by_cases J:b=a
   .have M:=(ak J).symm.trans z;cases M;subst J;exact⟨ha,by rw[aj];exact hl,vs,_,rv,ha⟩
   .have M:=(ar J).symm.trans z;cases M
  .by_cases J:b=a
   .exact J
   .exact absurd (ar J) z
abbrev KOf{K:ac}{h:Heap}(_:K.In h):ac:=K
def walk_of{l:PySem.W.OpenLaw}{K:jv->ac}{CX:bg->CXT}{sp:bg->Sp}(hn:l.most=some n)(J:n<=ax)(O:d.params.defaults=[])(hr:Room k ja)(hY:∀w h,YP w h->(K w.params).In h)(F:∀w mg fa h,(K w.params).In h->h.Ns cG mg->mg d.name=some (.ref fa) ->
   ∃fd ,(∀s u,lR s fd ⟨[u],[]⟩ [(x,u)]) /\
    ∀base ,(K w.params).In base->base.Ns cG mg->FnOk l.prog w (K w.params) mg base (CX w) k fa fd [x] (sp w))(U:∀w H a (ns:List Int),ns.length<=n->Only H->SqL (K w.params) H a (ns.map V.int)->sp w [.ref a] H (λv _=>v = .bl true) λ_ _ _=>False)(hCX:∀w H s e s',CX w [] H s (λ_ _ _=>False) e s'->False) :
  PySem.W.WalkO q loose XP YP l.row.toRowW d [] (λf vs=>k9 f vs):=by
 refine Att.attach_call hn O λw s₀ B mg mb fa o pm cd doc a vs ns G Y ho hd L E D m j M=>?_;have I:=hY w _ Y;obtain⟨fd,Q,hF⟩:=F w mg fa _ I G.T.g E;exact law_call I G.T.g G.T.b G.T.builtins G.T.nolimit M D m (aS j J) hr hF Q (λH hO hS=>U w H a ns j hO hS) λH e s'=>hCX w H B e s'
end L2
namespace L2
open PySem PySem.Spec PyProof.Rows
def Qnq(s:Stmt)(j:Nat):Stmt:=match s with
 |.ClassDef _ _ _ body _ _ _ _ _ _ _=>body.getD j (.Pass ⟨0,0,0,0⟩)
 |_=>.Pass ⟨0,0,0,0⟩
def QT(s:Stmt):Arguments:=match s with
 |.FunctionDef _ a _ _ _ _ _ _ _ _=>a
 |_=>{ posonlyargs:=[],args:=[],vararg:=none,kwonlyargs:=[],kw_defaults:=[],kwarg:=none,defaults:=[] }
def Qy(s:Stmt):List Stmt:=match s with
 |.FunctionDef _ _ b _ _ _ _ _ _ _=>b
 |_=>[]
def Qc(s:Stmt):dS:=match s with
 |.FunctionDef _ _ _ _ _ _ j _ _ _=>j
 |_=>{ kind := .function,names:=[],isGenerator:=false,isCoroutine:=false }
abbrev CX0:CXT:=λ_ _ _ _ _ _=>False
abbrev E0:XK:=λ_ _ _=>False
def pass0:QgZ CX0 X E0:=λ_ _ _ _ _ _ _ h=>h.elim
structure Fun (K:ac) (x qual:Str) (st:Stmt) (f:Addr) (fd:cA):Prop where
 ex:∃(oc:Value)(od:Option Addr)(kV doc pm:Value)(an:Option Addr)(cdv ct:Value)(osl:Array (Option Value)),
  fd=cK x qual (QT st) (Qy st) (Qc st) .none kV doc pm an cdv ct/\K.lookup f=some ⟨oc,od,.func fd,osl⟩/\fE K cdv qual=true
 kp:bN K (.ref f)=true
section
variable{P:aN}{w:bg}{K:ac}{mg:Str->Option Value}{base:Heap}
def Fun.ok{st:Stmt}(F:Fun K x qual st f fd)(S:FnScope N ps (Qc st))(len:∀vs H Q E,sp vs H Q E->vs.length=ps.length)(J:∀G A outer s H vs Q E,Room k (A.deeper (cH qual (Qc st) s.heap.objs.size f G))->sp vs H Q E ->
   ∃t,PSs (cxOf CX0 P w K mg base N qual (Qc st) f G A outer s H E).nox (Qy st) t/\t { nx:=λ_ H'=>Q .non H',rt:=Q } (Xg N vs) H):FnOk P w K mg base CX0 (k+1) f fd ps sp:=by
 obtain⟨I,od,kV,doc,L,an,G,ct,B,rfl,lk,j⟩:=F.ex;refine Qpk lk j S len λA outer s H vs Q E D m=>?_;obtain⟨t,h,q⟩:=J G A outer s H vs Q E D m;exact⟨t,h.nox,q⟩
def Fun.binds{st:Stmt}(F:Fun K x qual st f fd)(h:∀kV doc J an G ct us,us.length=ps.length->fC (cK x qual (QT st) (Qy st) (Qc st) .none kV doc J an G ct) ⟨us,[]⟩=pure (ps.zip us)):YQ K fd ps []:=by
 obtain⟨B,od,kV,doc,J,an,G,ct,j,rfl,lk,m⟩:=F.ex;exact .all (h kV doc J an G ct)
def fun_mk{st:Stmt}{kV doc J G ct:Value}(l:K.lookup f=some ⟨U,od,.func (cK x qual (QT st) (Qy st) (Qc st) .none kV doc J an G ct),O⟩)(c:fE K G qual=true)(k:bN K (.ref f)=true):Fun K x qual st f (cK x qual (QT st) (Qy st) (Qc st) .none kV doc J an G ct):=⟨⟨U,od,kV,doc,J,an,G,ct,O,rfl,l,c⟩,k⟩
end
section
variable{X:Cx}
def pv i (J:X.N[i]?=some x:=by rfl) (O:Vis X.env.scope x:=by first | exact Or.inl rfl | exact Or.inr (Or.inl rfl) | exact Or.inr (Or.inr rfl)) (hd:(x=="__debug__")=false:=by decide)
  (G:(x=="__classdict__")=false:=by decide):PE X (.Name x pos) (tVar i):=pe_var J O hd G
end
def Same(H H':Hp):Prop:=∀b o,H b=some o->H' b=some o
theorem Same.refl H:Same H H:=λ_ _ h=>h
def Same.trans{H H1 H2:Hp}(a:Same H H1)(b:Same H1 H2):Same H H2:=λc o h=>b c o (a c o h)
def Same.free(e:Same H H')(h:H' l=Option.none):H l=Option.none:=by
 cases q:H l with
 |none=>rfl
 |some o =>
  rw[e l o q]at h;cases h
def Same.seq{K:ac}(e:Same H H')(h:SqL K H a xs):SqL K H' a xs:=by
 rcases h with(h|⟨o,h⟩) | h
 .exact .inl (.inl (e _ _ h))
 .exact .inl (.inr ⟨o,e _ _ h⟩)
 .exact .inr h
end L2
namespace L2.PM
open PySem PySem.Spec PyProof.Rows
def clos(env:Env):List (Str×iF)->List (Str×Addr)->List (Str×Addr)
 |[],j=>j
 | (n,k)::r,j=>if k==iF.free then clos env r ((n,(env.cells.lookup n).getD 0)::j) else clos env r j
theorem Qgt:∀l G,(∀x∈l,x.2=iF.free->∃c,env.cells.lookup x.1=some c) ->
  (forIn l G λx J=>if (x.2==iF.free)=true then (do let a <-cellOf env x.1;pure (bY ((x.1,a)::J))) else pure (bY J))=(pure (clos env l G):Sem _)
 |[],G,_=>rfl
 | (n,k)::r,G,h=>by
  have m :=λx D=>h x (aw _ D);by_cases B:k=iF.free
  .subst B;obtain⟨c,hc⟩:=h (n,iF.free) bp rfl;have j:cellOf env n=pure c:=by unfold cellOf;rw[hc]
   simp only[gG,  clos,j,hc];exact Qgt r ((n,c)::G) m
  .have E:(k==iF.free)=false:=by simpa using B
   simp only[gG,E,  clos];exact Qgt r G m
def QbT(h:∀x∈scope.names,x.2=iF.free->∃c,env.cells.lookup x.1=some c):closureFor scope env=pure (clos env scope.names []):=by
 have e:=Qgt scope.names [] h;have f:(λx j=>(match x with
   | (name,kind)=>if (kind==iF.free)=true then (do let a <-cellOf env name;pure (bY ((name,a)::j))) else pure (bY j))) =
   (λx j=>if (x.2==iF.free)=true then (do let a <-cellOf env x.1;pure (bY ((x.1,a)::j))) else pure (bY j)):=by
  funext x j;cases x;rfl
 unfold closureFor;dsimp only;rw[f,e];rfl
theorem Qdr:∀l G,(x,iF.free)∈l\/G.lookup x=env.cells.lookup x->(∀y∈l,y.2=iF.free->∃c,env.cells.lookup y.1=some c) ->
  (clos env l G).lookup x=env.cells.lookup x
 |[],G,h,_=>by
  rcases h with h | h
  .cases h
  .exact h
 | (n,k)::r,G,h,hc=>by
  have E :=λy H=>hc y (aw _ H);by_cases j:k=iF.free
  .subst j;obtain⟨c,m⟩:=hc (n,iF.free) bp rfl;refine Qdr r _ ?_ E;by_cases B:x=n
   .subst B;right;simp[m]
   .have D:(x==n)=false:=by simpa using B
    rcases h with h | h
    .rcases ao.mp h with h | h
     .injection h with h1 _
      exact absurd h1 B
     .exact .inl h
    .right;simp only[bn,D];exact h
  .have D:(k==iF.free)=false:=by simpa using j
   simp only[clos,D];refine Qdr r G ?_ E;rcases h with h | h
   .rcases ao.mp h with h | h
    .injection h with _ h2
     exact absurd h2.symm j
    .exact .inl h
   .exact .inr h
theorem QiJ:∀l G,(G.lookup x=some c->env.cells.lookup x=some c)->(∀y∈l,y.2=iF.free->∃c,env.cells.lookup y.1=some c) ->
  (clos env l G).lookup x=some c->env.cells.lookup x=some c
 |[],G,h,_,e=>h e
 | (n,k)::r,G,h,hc,e=>by
  have j:∀y∈r,y.2=iF.free->∃c,env.cells.lookup y.1=some c:=by grind
  by_cases m:k=iF.free
  .subst m;obtain⟨d,B⟩:=hc (n,iF.free) bp rfl;refine QiJ r _ (λq=>?_) j e;grind
  .have D:(k==iF.free)=false:=by grind
   simp only[clos,D]at e;exact QiJ r G h j e
def blkEnv(env:Env)(G:dS)(cl:List (Str×Addr))(C:Addr):Env :=
 {scope:=G,locals:=C,globals:=env.globals,cells:=cl,qual:=env.qual,func:=none,code:=env.code,frame:=env.frame,builtins:=env.builtins }
def QaR(X:Cx)(pins:List (Addr×Obj))(N':List Str)(G:dS)(cl:List (Str×Addr))(C:Addr)(s:ap)(H:Hp)(fp:List Addr):Cx where
 prog:=X.prog
 w:=X.w
 K:=X.K
 mg:=X.mg
 base:=X.base
 A:=X.A
 N:=N'
 s₀:=s
 H₀:=H
 env:=blkEnv X.env G cl C
 outer:=X.stack
 stack:=X.stack
 ex:=fp
 fn:=λ_=>false
 calm:=X.calm
 pn:=X.pn++pins
 xe:=λ_ _=>False
def Zf(osc scope:dS):dS :=
 {scope with names:=scope.names.map λ(n,k)=>if (k==.free&&osc.kind==.function&&osc.names.lookup n==some .cell) then (n,.cell) else (n,k) }
structure CompOk (N:List Str) (osc scope:dS) (N':List Str) (nt:Nat) (caps:List Nat):Prop where
 kind:scope.kind = .function
 nocell:∀x∈scope.names,x.2≠cg
 locs:∀x∈scope.names,x.2=iF.local->scope.names.lookup x.1=some .local
 free:∀x∈scope.names,x.2=iF.free->osc.names.lookup x.1=some .cell\/osc.names.lookup x.1=some .free
 len:N'.length=nt+caps.length
 cap:∀p∈caps.zip (N'.drop nt),N[p.1]?=some p.2/\scope.names.lookup p.2=some iF.free
def XI(nt:Nat)(caps:List Nat)(σ:St):St:=dB nt none++caps.map λj=>(σ[j]?).getD none
section
variable{X:Cx}{pins:List (Addr×Obj)}{σ:St}{H:Hp}{s:ap}{scope:dS}{N':List Str}{nt:Nat}{caps:List Nat}{fp:List Addr}
def QoF(I:Inv X pins σ H s)(G:CompOk X.N X.env.scope scope N' nt caps):∀x∈scope.names,x.2=iF.free->∃c,X.env.cells.lookup x.1=some c:=λx j hf =>
 I.ok.has x.1 (G.free x j hf)
theorem Qcn{osc:dS}:∀{names:List (Str×iF)},names.lookup x=some iF.free ->
  (names.map λp=>if (p.2==iF.free&&osc.kind==.function&&osc.names.lookup p.1==some .cell) then (p.1,cg) else (p.1,p.2)).lookup x=some k->k = .cell\/k = .free
 |[],h,_=>by cases h
 | (n,q)::r,h,e=>by
  by_cases m:x=n
  .subst m;simp at h;subst h;simp at e;split at e<;>simp at e<;>simp[e.symm]
  .have j:(x==n)=false:=by simpa using m
   simp only[bn,j]at h;simp only[aL]at e;split at e
   .simp only[bn,j]at e;exact Qcn h e
   .simp only[bn,j]at e;exact Qcn h e
end
def PIfs(X:Cx)(ifs:List Expr)(t:TT):Prop :=
 ∀pins s (σ:St) H Q,Inv X pins σ H s->t σ H Q ->
  av (model X.prog X.w) X.A (forIn ifs true λc r=>if r=true then do let ok <-isTrue c X.env (eval c X.env);pure (bY ok) else pure (bY r)) (TP X pins σ Q) X.xe s
def tYes:TT:=λ_ H Q=>Q true H
def pifs_nil:PIfs X [] tYes:=λ_ _ _ H _ I h=>wpAny_tests_nil ⟨H,I,h⟩
def pifs_one(h:PT X c t):PIfs X [c] t:=λpins s σ H Q I j=>wpAny_tests_one (h pins s σ H Q I j)
def QjO{prog:aN}{w:bg}{A:bG}{R:lG->ap->Prop}{s:ap}{elt target iter:Expr}{ifs:List Expr}{scope:dS}{pos:Pos}{it acc:Value}{env:Env}(I:Nat->ap->Prop)(turn:∀n s,I n s->av (model prog w) A (kd it) (λr G=>match r with
   |none=>R (.ok .next) G
   |some v=>av (model prog w) A (jJ target it v) (λ_ J=>av (model prog w) A (assign target env v) (λ_ U =>
     av (model prog w) A (forIn ifs true λc r=>if r=true then do let ok <-isTrue c env (eval c env);pure (bY ok) else pure (bY r)) (λok O =>
      if ok=true then av (model prog w) A (eval elt env) (λx Y =>
       av (model prog w) A (call (.builtin "list.append") [acc,x]) (λ_ s₅=>∃m,m<n/\I m s₅) (λ_ _=>False) Y) (λ_ _=>False) O
      else ∃m,m<n/\I m O) (λ_ _=>False) U) (λ_ _=>False) J) (λ_ _=>False) G) (λ_ _=>False) s)(n:Nat)(h:I n s) :
  fu (model prog w) A (.compLoop (.ListComp elt [⟨target,iter,ifs,0⟩] scope pos) 0 it acc env) R s:=by
 refine codeAny_loop rfl I (λn s M=>?_) n h;show av _ A ((compTurn (.ListComp elt [⟨target,iter,ifs,0⟩] scope pos) 0 it acc env).onRaise (λx=>do fh x env;theTreesLotGoes x)) _ _ s;refine wpAny_noted ?_;rw[compTurn_list];refine aa (gI (aa (b8 (turn n s M) (λr G j=>?_) λ_ _ h'=>h'.elim)));cases r with
 |none=>exact af j
 |some v =>
  refine aa (b8 j (λ_ J D=>?_) λ_ _ h'=>h'.elim);refine aa (b8 D (λ_ U E=>aa (b8 E (λok O B=>?_) λ_ _ h'=>h'.elim)) λ_ _ h'=>h'.elim);cases ok with
  |false=>exact af ⟨rfl,B⟩
  |true =>
   exact aa (aa (b8 B (λx Y H=>aa (b8 H (λ_ s₅ L=>af (af ⟨rfl,L⟩)) λ_ _ h'=>h'.elim)) λ_ _ h'=>h'.elim))
def StExt(σ σ':St):Prop:=σ'.length=σ.length/\∀(i:Nat) v,σ[i]?=some (some v)->σ'[i]?=some (some v)
def Qha(J:It)(nt:Nat)(caps:List Nat)(g:TG)(tc:TT)(te:TE)(σ:St)(H1:Hp)(O:Addr->Hp->Prop):Prop :=
 ∀D,H1 D=none->∃W:Nat->Nat->List V->Hp->Prop,(∃m,W 0 m [] (upd H1 D (.lst []))) /\
  ∀i m xs H2,W i m xs H2->(J.stop i H2/\O D H2)\/(J.go i H2/\∀x H,J.yld i H2 x H->g x (XI nt caps σ) H λj I=>StExt (XI nt caps σ) j /\
   tc j I λb E=>if b=true then te j E λv G=>G D=some (.lst xs)/\xs.length<ax/\∃B,B<m/\W (i+1) B (xs++[v]) (upd G D (.lst (xs++[v]))) else ∃B,B<m/\W (i+1) B xs E)
theorem Qmv:∀names n G,(x,cg)∉names->(cq n names G).lookup x=G.lookup x
 |[],_,_,_=>rfl
 | (y,k)::r,n,G,h=>by
  have j:(x,cg)∉r:=by grind
  unfold cq;split
  .rw[Qmv r _ _ j,bn];grind
  .exact Qmv r _ _ j
theorem Qmx:∀names (h:Heap) G,(cq h.objs.size names G).lookup x=some c->G.lookup x=some c\/(h.objs.size<=c/\(eh h names).IsCell c none)
 |[],_,_,e=>.inl e
 | (y,k)::r,h,G,e=>by
  unfold cq at e;unfold eh;split at e
  .rename_i j;rw[ak j];have e:(cq (h.push { cls := .type "cell",data := .cell none }).objs.size r ((y,h.objs.size)::G)).lookup x=some c:=by rw[a7];exact e
   rcases Qmx r _ _ e with z|⟨m,B⟩
   .rw[bn]at z;cases q:x==y with
    |true =>
     rw[q]at z;cases z;exact .inr ⟨am _,_,ie r _ _ _ (aB _ rfl),rfl⟩
    |false=>rw[q]at z;exact .inl z
   .rw[a7]at m;exact .inr ⟨by omega,B⟩
  .rename_i j;rw[ar j];exact Qmx r h G e
theorem Qmw:∀names (n:Nat) (G:List (Str×Addr)),(∀x c,G.lookup x=some c->c<n)->(∀x y c,G.lookup x=some c->G.lookup y=some c->x=y)->∀x y c,(cq n names G).lookup x=some c->(cq n names G).lookup y=some c->x=y
 |[],_,_,_,h2,x,y,c,e1,e2=>h2 x y c e1 e2
 | (z,k)::r,n,G,h1,h2,x,y,c,e1,e2=>by
  unfold cq at e1 e2;split at e1
  .rename_i B;rw[ak B]at e2;refine Qmw r (n+1) ((z,n)::G) (λx c e=>?_) (λx y c e1 e2=>?_) x y c e1 e2
   .rw[bn]at e;cases q:x==z with
    |true=>rw[q]at e;cases e;exact cW _
    |false=>rw[q]at e;exact bC (h1 x c e)
   .rw[bn]at e1 e2;cases m:x==z with
    |true =>
     cases j:y==z with
     |true=>rw[bM.mp m,bM.mp j]
     |false =>
      rw[m]at e1;rw[j]at e2;cases e1;exact absurd (h1 y _ e2) (bX _)
    |false =>
     cases j:y==z with
     |true =>
      rw[m]at e1;rw[j]at e2;cases e2;exact absurd (h1 x _ e1) (bX _)
     |false =>
      rw[m]at e1;rw[j]at e2;exact h2 x y c e1 e2
  .rename_i B;rw[ar B]at e2;exact Qmw r n G h1 h2 x y c e1 e2
def newEnvC{code:Value}(G:Q (newEnv scope s.heap.objs.size globals (cq (s.heap.objs.size+1) scope.names closure) qual func code (some outer) builtins) { s with heap:=eh (s.heap.push { cls := .type "dict",data := .dict #[] }) scope.names }) :
  av M A (kf scope globals closure [] qual func code (some outer) builtins) Q E s:=by
 refine aa (l7 ?_);refine aa (wpAny_layCells _ (by grind) _ _ _ _ ?_);rw[a7 ..];exact aa (af (af G))
def ownC(scope:dS):Str->Bool:=λx=>scope.names.lookup x==some cg
def Xq(X:Cx)(fn:Str->Bool)(pins:List (Addr×Obj))(N':List Str)(G:dS)(cl:List (Str×Addr))(C:Addr)(s:ap)(H:Hp)(fp:List Addr):Cx:={ QaR X pins N' G cl C s H fp with fn:=fn }
structure CompOkC (N:List Str) (osc scope:dS) (N':List Str) (nt:Nat) (caps:List Nat):Prop where
 kind:scope.kind = .function
 nd:∀x,(x,cg)∈scope.names->(x,iF.free)∉scope.names
 locs:∀x∈scope.names,x.2=iF.local->scope.names.lookup x.1=some .local
 free:∀x∈scope.names,x.2=iF.free->osc.names.lookup x.1=some .cell\/osc.names.lookup x.1=some .free
 len:N'.length=nt+caps.length
 cap:∀p∈caps.zip (N'.drop nt),N[p.1]?=some p.2/\scope.names.lookup p.2=some iF.free
section
variable{X:Cx}{pins:List (Addr×Obj)}{σ:St}{H:Hp}{s:ap}{scope:dS}{N':List Str}{nt:Nat}{caps:List Nat}{fp:List Addr}
def Qfr(I:Inv X pins σ H s)(G:CompOkC X.N X.env.scope scope N' nt caps):∀x∈scope.names,x.2=iF.free->∃c,X.env.cells.lookup x.1=some c:=λx j hf =>
 I.ok.has x.1 (G.free x j hf)
theorem Qgu:∀l G,(clos env l G).lookup x=some c->(x,iF.free)∈l\/G.lookup x=some c
 |[],_,e=>.inr e
 | (n,k)::r,G,e=>by
  by_cases j:k=iF.free
  .subst j;rcases Qgu r _ e with z | z
   .exact .inl (aw _ z)
   .rw[bn]at z;cases q:x==n with
    |true=>exact .inl (by rw[bM.mp q];exact bp)
    |false=>rw[q]at z;exact .inr z
  .have m:(k==iF.free)=false:=by simpa using j
   simp only[clos,m]at e;rcases Qgu r G e with z | z
   .exact .inl (aw _ z)
   .exact .inr z
theorem QdY{osc:dS}:∀(names:List (Str×iF)) k,(k=cg\/k=iF.free) ->
  (names.map λp=>if (p.2==iF.free&&osc.kind==.function&&osc.names.lookup p.1==some .cell) then (p.1,cg) else (p.1,p.2)).lookup x=some k->names.lookup x=some cg\/names.lookup x=some iF.free
 |[],_,_,e=>by cases e
 | (n,q)::r,k,m,e=>by
  by_cases B:x=n
  .subst B;simp only[aL]at e;split at e
   .rename_i j;simp at j;exact .inr (by simp[j.1.1])
   .simp at e;subst e;rcases m with m | m
    .exact .inl (by simp[m])
    .exact .inr (by simp[m])
  .have D:(x==n)=false:=by simpa using B
   simp only[bn,D];refine QdY (osc:=osc) r k m ?_;simp only[aL]at e;split at e<;>(simp only[bn,D]at e;exact e)
def blk_invC(I:Inv X pins σ H s)(hc:X.calm=true)(U:CompOkC X.N X.env.scope scope N' nt caps)(hf:∀b∈fp,FpOk X pins H b)(Y:∀b∈fp,b<s.heap.objs.size){tk:Nat} :
  Inv (Xq X (ownC scope) pins N' (Zf X.env.scope scope) (cq (s.heap.objs.size+1) scope.names (clos X.env scope.names [])) s.heap.objs.size s H fp) [] (XI nt caps σ) H { s with heap:=eh (s.heap.push { cls := .type "dict",data := .dict #[] }) scope.names,toks:=tk }:=by
 have fc:=Qfr I U;have D:∀x c,(clos X.env scope.names []).lookup x=some c->X.env.cells.lookup x=some c:=λx c e=>QiJ scope.names [] (λq=>by cases q) fc e;have E:∀b u,s.heap.get? b=some u->(eh (s.heap.push { cls := .type "dict",data := .dict #[] }) scope.names).get? b=some u:=λb u e=>ie _ _ b u (ag _ e);have hn:(eh (s.heap.push { cls := .type "dict",data := .dict #[] }) scope.names).Ns s.heap.objs.size (λ_=>none):=(Heap.Ns.new s.heap (.type "dict")).keeps (ie _ _);have clt:∀x c,(clos X.env scope.names []).lookup x=some c->c<s.heap.objs.size:=λx c e=>by
  obtain⟨v,hv⟩:=I.cell x c (D x c e);exact hv.lt
 have B:∀x c,(cq (s.heap.objs.size+1) scope.names (clos X.env scope.names [])).lookup x=some c->(clos X.env scope.names []).lookup x=some c\/(s.heap.objs.size+1<=c/\(eh (s.heap.push { cls := .type "dict",data := .dict #[] }) scope.names).IsCell c none):=λx c e=>by
  have:=Qmx (x:=x) (c:=c) scope.names (s.heap.push { cls := .type "dict",data := .dict #[] }) (clos X.env scope.names []);rw[a7]at this;exact this e
 have T:=Qmw scope.names (s.heap.objs.size+1) (clos X.env scope.names []) (λx c e=>bC (clt x c e)) (λx y c h1 h2=>I.ok.inj x y c (D x c h1) (D y c h2));have M:∀b∈frs X.stack,b∈X.env.locals::X.fs:=I.stkSub;refine⟨⟨I.ok.mod,U.kind,I.ok.glob,I.ok.blt,am _,T,λx G=>?_,λx c G e=>?_,λz=>I.ok.hd z,I.ok.frames,.inl rfl,λb Q=>?_,I.bs,aS I.ok.bsz I.sz,λb u e Q=>?_,λb Q z=>?_,I.stack,I.stkFree⟩,
  rfl,I.bare,Un.kept E,⟨_,hn,λi x v h1 h2 J=>?_⟩,λx c e=>?_,I.hok.fresh (am _),λx c e=>?_,λp hp=>?_,I.hok.kept E,?_⟩
 ·-- has
  have hm:scope.names.lookup x=some cg\/scope.names.lookup x=some iF.free:=by
   rcases G with G | G
   .exact QdY scope.names _ (.inl rfl) G
   .exact QdY scope.names _ (.inr rfl) G
  rcases hm with hm | hm
  .exact cN.mp (et scope.names _ _ (.inl hm))
  .have m:=b4 hm;obtain⟨c,hcx⟩:=fc _ m rfl;exact cN.mp (et scope.names _ _ (.inr (by rw[Qdr scope.names [] (.inl m) fc,hcx];rfl)))
 ·-- cab
  have G:=bM.mp G;rcases B x c e with z | z
  .exfalso;rcases Qgu scope.names [] z with q | q
   .exact U.nd _ (b4 G) q
   .cases q
  .exact iE z.1
 ·-- exf
  obtain⟨_,f1,f2,f3,f4,_⟩:=hf b Q;refine⟨aC (Y b Q),λx c e=>?_⟩;rcases B x c e with z | z
  .exact f4 x c (D x c z)
  .exact λq=>by
    have:=Y b Q;rw[<-q]at this;exact absurd (aG (cW _) z.1) (Nat.not_lt.mpr (bS this))
 ·-- noex
  obtain⟨_,f1,f2,f3,f4,_⟩:=hf b Q;rcases f3 with z | z
  .exact I.ok.noex b u e z
  .exact absurd (aG (ay e) (aS I.ok.bsz z)) (bX _)
 ·-- exfs
  obtain⟨_,f1,f2,_⟩:=hf b Q;rcases ao.mp (M b z) with q | q
  .exact f1 q
  .exact f2 q
 ·-- loc
  have h2:(XI nt caps σ)[i]?=some (some v):=h2;have h1:N'[i]?=some x:=h1;unfold XI at h2;by_cases hi:i<nt
  .rw[b0 (by simpa using hi),cP,ak hi]at h2;cases h2
  .rw[cs (by simpa using hi),cz,a0]at h2;cases ej:caps[i-nt]? with
   |none=>rw[ej]at h2;cases h2
   |some j =>
    rw[ej]at h2;have h2:(σ[j]?).getD none=some v:=aR h2;have h2':σ[j]?=some (some v):=by
     cases eq:σ[j]? with
     |none=>rw[eq]at h2;cases h2
     |some y=>rw[eq]at h2;exact congrArg some h2
    have hz:(j,x)∈caps.zip (N'.drop nt):=by
     refine dh (i:=i-nt) ?_;rw[List.getElem?_zip_eq_some];refine⟨ej,?_⟩;rw[iu,show nt+(i-nt)=i by omega];exact h1
    obtain⟨hN,L⟩:=U.cap _ hz;have L:scope.names.lookup x=some iF.free:=L;have m:=b4 L;have O:=U.free _ m rfl;have O:X.env.scope.names.lookup x=some .cell\/X.env.scope.names.lookup x=some .free:=O;have hnc:(x,cg)∉scope.names:=λq=>U.nd _ q m;obtain⟨m0,hn0,hl0⟩:=I.loc;obtain⟨u,ru,lk⟩:=hl0 j x v hN h2' (.inr O);refine⟨u,ru,?_⟩;rcases lk with⟨k0,_⟩|⟨_,c,ec,zc⟩
    .have k0:X.env.scope.names.lookup x=some .local:=k0;rcases O with O | O<;>(rw[k0]at O;cases O)
    .refine .inr ⟨?_,c,((Qmv scope.names _ _ hnc).trans (Qdr scope.names [] (.inl m) fc)).trans ec,?_⟩
     .have J:(Zf X.env.scope scope).names.lookup x=some .local\/(Zf X.env.scope scope).names.lookup x=some .cell\/(Zf X.env.scope scope).names.lookup x=some .free:=J;rcases J with J | J | J
      .rcases Qcn L J with z | z<;>cases z
      .exact .inl J
      .exact .inr J
     .obtain⟨ob,ho,hd⟩:=zc;exact⟨ob,E c ob ho,hd⟩
 ·-- cell
  rcases B x c e with z | z
  .obtain⟨v,ob,ho,hd⟩:=I.cell x c (D x c z);exact⟨v,ob,E c ob ho,hd⟩
  .exact⟨none,z.2⟩
 ·-- freeC
  rcases B x c e with z | z
  .exact I.freeC x c (D x c z)
  .exact I.hok.fresh (iE z.1)
 ·-- pin
  have hp':p∈X.pn++pins:=by
   rcases aO.mp hp with z | z
   .exact z
   .cases z
  obtain⟨e,n,ne,nf,d⟩:=I.pin p hp';refine⟨E _ _ e,n,aC (ay e),λz=>?_,d⟩;rcases ao.mp (M p.1 z) with q | q
  .exact ne q
  .exact nf q
 ·-- len
  show(XI nt caps σ).length=N'.length;unfold XI;rw[U.len];simp
end
section
variable{X:Cx}{pins:List (Addr×Obj)}{σ:St}{H:Hp}{s:ap}{scope:dS}{N':List Str}{nt:Nat}{caps:List Nat}{fp:List Addr}{tg iter elt:Expr}{ifs:List Expr}{pos:Pos}
def QhN{J:It}{it:Addr}{tn:Nat->Heap->Prop}{g:TG}{tc:TT}{te:TE}{Qd:Addr->Hp->Prop}{RR:Value->Addr->lG->ap->Prop}{E:Value->ap->Prop}(I:Inv X pins σ H s)(hc:X.calm=true)(ck:CompOkC X.N X.env.scope scope N' nt caps)(hrel:relabel scope X.env=Zf X.env.scope scope)(T:Turn X.prog X.w X.K tg J fp it tn)(h0:tn 0 s.heap)(hf:∀b∈fp,FpOk X pins H b)(hg:∀pins cl C s H fp,PG (Xq X (ownC scope) pins N' (Zf X.env.scope scope) cl C s H fp) tg g)(ht:∀pins cl C s H fp,PIfs (Xq X (ownC scope) pins N' (Zf X.env.scope scope) cl C s H fp) ifs tc)(he:∀pins cl C s H fp,PE (Xq X (ownC scope) pins N' (Zf X.env.scope scope) cl C s H fp) elt te)(rd:Qha J nt caps g tc te σ H Qd)(hRR:∀D C s' H',Inv X pins σ H' s'->(∃m,s'.heap.Ns C m)->FpOk X pins H' C->Qd D H'->RR (.ref D) C (.ok .next) s') :
  av (model X.prog X.w) X.A (newList []) (λacc G=>av (model X.prog X.w) X.A (kf scope X.env.globals (clos X.env scope.names []) [] X.env.qual none .none (some X.env)) (λO s₄ =>
   fu (model X.prog X.w) X.A (.compStart (.ListComp elt [⟨tg,iter,ifs,0⟩] scope pos) 0 (.ref it) acc { O with scope:=relabel scope X.env }) (RR acc O.locals) s₄) E G) E s:=by
 have hD:H s.heap.objs.size=none:=I.fresh;obtain⟨W,⟨m0,w0⟩,turn⟩:=rd s.heap.objs.size hD;refine a9 (newEnvC ?_);have I3:Inv X pins σ (upd H s.heap.objs.size (.lst [])) { s with heap:=s.heap.push { cls := .type "list",data := .seq ([]:List Value).toArray } }:=I.lnew (t':=s.toks) .nil (bz _);have hlt:∀b∈fp,b<s.heap.objs.size:=λb j=>by
  obtain⟨o,e,_⟩:=T.obj 0 _ h0 b j;exact ay e
 have hf3:∀b∈fp,FpOk X pins (upd H s.heap.objs.size (.lst [])) b:=λb j=>by
  obtain⟨f0,f⟩:=hf b j;exact⟨by rw[Qj (aC (hlt b j))];exact f0,f⟩
 have Q:∀b∈fp,b<(s.heap.push { cls := .type "list",data := .seq ([]:List Value).toArray }).objs.size:=λb j=>by
  rw[a7];exact bC (hlt b j)
 have IB:=blk_invC (tk:=s.toks) I3 hc ck hf3 Q;have U:∀b o,s.heap.get? b=some o->(eh ((s.heap.push { cls := .type "list",data := .seq ([]:List Value).toArray }).push { cls := .type "dict",data := .dict #[] }) scope.names).get? b=some o:=λb o e=>ie _ _ b o (ag _ (ag _ e));have st1:tn 0 (eh ((s.heap.push { cls := .type "list",data := .seq ([]:List Value).toArray }).push { cls := .type "dict",data := .dict #[] }) scope.names):=T.keep _ _ _ h0 λb _ o e=>U b o e;have hg':=hg pins (cq ((s.heap.push { cls := .type "list",data := .seq ([]:List Value).toArray }).objs.size+1) scope.names (clos X.env scope.names [])) (s.heap.push { cls := .type "list",data := .seq ([]:List Value).toArray }).objs.size { s with heap:=s.heap.push { cls := .type "list",data := .seq ([]:List Value).toArray } } (upd H s.heap.objs.size (.lst [])) fp;have ht':=ht pins (cq ((s.heap.push { cls := .type "list",data := .seq ([]:List Value).toArray }).objs.size+1) scope.names (clos X.env scope.names [])) (s.heap.push { cls := .type "list",data := .seq ([]:List Value).toArray }).objs.size { s with heap:=s.heap.push { cls := .type "list",data := .seq ([]:List Value).toArray } } (upd H s.heap.objs.size (.lst [])) fp;have he':=he pins (cq ((s.heap.push { cls := .type "list",data := .seq ([]:List Value).toArray }).objs.size+1) scope.names (clos X.env scope.names [])) (s.heap.push { cls := .type "list",data := .seq ([]:List Value).toArray }).objs.size { s with heap:=s.heap.push { cls := .type "list",data := .seq ([]:List Value).toArray } } (upd H s.heap.objs.size (.lst [])) fp;have hY:∃Y:Cx,Y=Xq X (ownC scope) pins N' (Zf X.env.scope scope) (cq ((s.heap.push { cls := .type "list",data := .seq ([]:List Value).toArray }).objs.size+1) scope.names (clos X.env scope.names [])) (s.heap.push { cls := .type "list",data := .seq ([]:List Value).toArray }).objs.size { s with heap:=s.heap.push { cls := .type "list",data := .seq ([]:List Value).toArray } } (upd H s.heap.objs.size (.lst [])) fp:=⟨_,rfl⟩
 obtain⟨Y,L⟩:=hY;have eP:Y.prog=X.prog:=by rw[L];rfl
 have eW:Y.w=X.w:=by rw[L];rfl
 have eK:Y.K=X.K:=by rw[L];rfl
 have eA:Y.A=X.A:=by rw[L];rfl
 have eC:Y.calm=true:=by rw[L];exact hc
 have eE:Y.xe=λ_ _=>False:=by rw[L];rfl
 have eEnv:Y.env=blkEnv X.env (Zf X.env.scope scope) (cq ((s.heap.push { cls := .type "list",data := .seq ([]:List Value).toArray }).objs.size+1) scope.names (clos X.env scope.names [])) (s.heap.push { cls := .type "list",data := .seq ([]:List Value).toArray }).objs.size:=by rw[L];rfl
 have back:∀{H':Hp}{s':ap},Inv Y [] (XI nt caps σ) H' s'->Inv X pins σ H' s'/\(∃m,s'.heap.Ns (s.heap.push { cls := .type "list",data := .seq ([]:List Value).toArray }).objs.size m)/\FpOk X pins H' (s.heap.push { cls := .type "list",data := .seq ([]:List Value).toArray }).objs.size:=by
  intro H' s' IY;subst L;refine⟨I3.call' (ch:=fp) IY.os IY.base IY.hok IY.bare λb j=>?_,?_,I3.fpOk (am _) IY.free⟩
  .obtain⟨_,f1,_,f3,f4,f5⟩:=hf b j;exact⟨f3,f1,f4,f5⟩
  .obtain⟨m,hn,_⟩:=IY.loc;exact⟨m,hn⟩
 have fpY:∀{H':Hp},(∀b∈fp,H' b=none)->∀b∈fp,FpOk Y [] H' b:=by
  intro H' hn b j;subst L;obtain⟨_,f1,f2,f3,f4,f5⟩:=hf b j;refine⟨hn b j,aC (Q b j),IB.ok.exfs b j,.inl j,(IB.ok.exf b j).2,λp hp=>?_⟩;rcases aO.mp hp with z | z
  .exact f5 p z
  .cases z
 have IB:Inv Y [] (XI nt caps σ) (upd H s.heap.objs.size (.lst [])) { s with heap:=(eh ((s.heap.push { cls := .type "list",data := .seq ([]:List Value).toArray }).push { cls := .type "dict",data := .dict #[] }) scope.names),toks:=s.toks }:=by rw[L];exact IB
 rw[<-L]at hg' ht' he';have M:∀G:ap,G={ s with heap:=(eh ((s.heap.push { cls := .type "list",data := .seq ([]:List Value).toArray }).push { cls := .type "dict",data := .dict #[] }) scope.names),toks:=s.toks } ->
   fu (model X.prog X.w) X.A (.compLoop (.ListComp elt [⟨tg,iter,ifs,0⟩] scope pos) 0 (.ref it) (.ref s.heap.objs.size) Y.env) (RR (.ref s.heap.objs.size) (s.heap.push { cls := .type "list",data := .seq ([]:List Value).toArray }).objs.size) G:=by
  rintro G rfl;refine QjO (λn s'=>∃i xs H',Inv Y [] (XI nt caps σ) H' s'/\tn i s'.heap/\(∀b∈fp,H' b=none)/\W i n xs H') ?_ m0 ⟨0,[],_,IB,st1,λb j=>(hf3 b j).1,w0⟩;rintro n s4 ⟨i,xs,H4,I4,st4,fr4,w4⟩;rcases turn i n xs H4 w4 with⟨stop,q⟩|⟨go,step⟩
  .have z:=T.done Y eP eW eK eC i [] s4 _ H4 (λ_ _=>False) I4 (fpY fr4) st4 stop;rw[eA]at z;refine thn z λr s5 ⟨hr,I5⟩=>?_;subst hr;obtain⟨a1,a2,a3⟩:=back I5;exact hRR _ _ s5 H4 a1 a2 a3 q
  .have z:=T.item Y eP eW eK eC i [] s4 _ H4 (λ_ _=>False) I4 (fpY fr4) st4 go;rw[eA]at z;refine thn z λr s5 ⟨u,hr,h5⟩=>?_;subst hr;refine thn h5 λ_ s6 ⟨x,H6,I6,r6,y6,st6,fr6⟩=>?_;have I6':=I6.pinned (fpY fr6) (T.obj _ _ st6);have again:∀{B:St}{H7:Hp}{s7:ap}{xs':List V},Inv Y ([]++QgO fp s6.heap) B H7 s7->StExt (XI nt caps σ) B->(∃m',m'<n/\W (i+1) m' xs' H7) ->
     ∃m,m<n/\∃i xs H',Inv Y [] (XI nt caps σ) H' s7/\tn i s7.heap/\(∀b∈fp,H' b=none)/\W i m xs H':=λ{B H7 s7 xs'} I7 ex ⟨m',hm,w7⟩=>by
    refine⟨m',hm,i+1,xs',H7,(I7.unpinned).weak ex.1.symm ex.2,T.keep _ _ _ st6 λb j o e=>(I7.pin (b,o) (bx _ (bx _ (QaI j e)))).1,λb j=>?_,w7⟩;obtain⟨o,e,d⟩:=T.obj _ _ st6 b j;exact(I7.pin (b,o) (bx _ (bx _ (QaI j e)))).2.1
   have z2:=hg' _ s6 _ H6 x u _ I6' r6 (step x H6 y6);rw[eP,eW,eA,eE]at z2;refine thn z2 λ_ s7 ⟨B,H7,I7,ex7,q7⟩=>?_;have z3:=ht' _ s7 B H7 _ I7 q7;rw[eP,eW,eA,eE]at z3;refine thn z3 λb s8 ⟨H8,I8,q8⟩=>?_;cases b with
   |false =>
    rw[ar cC]at q8 |-;exact again I8 ex7 q8
   |true =>
    rw[ak rfl]at q8 |-;have z4:=he' _ s8 B H8 _ I8 q8;rw[eP,eW,eA,eE]at z4;refine thn z4 λxv s9 ⟨v,H9,I9,r9,hD9,hl9,q9⟩=>?_;have z5:=YN (X:=Y) _ s9 B H9 (.ref s.heap.objs.size) [v] (.ref s.heap.objs.size) [xv] (λ_ H'=>∃m',m'<n/\W (i+1) m' (xs++[v]) H') I9 rfl (.cons r9 .nil) ⟨_,xs,v,rfl,rfl,hD9,hl9,q9⟩;rw[eP,eW,eA,eE]at z5;refine thn z5 λ_ s10 ⟨_,H10,I10,_,q10⟩=>?_;exact again I10 ex7 q10
 rw[eEnv]at M;refine codeAny_compStart_list (M _ rfl) (T.self _ 0 _ _ _ st1 (M _ rfl))
end
def CompOk.C(G:CompOk N osc scope N' nt caps):CompOkC N osc scope N' nt caps:=⟨G.kind,λx q=>absurd rfl (G.nocell _ q),G.locs,G.free,G.len,G.cap⟩
def CompOk.eqC(G:CompOk N osc scope N' nt caps) X:Xq X (ownC scope)=QaR X:=by
 have own:ownC scope=λ_=>false:=funext λx=>by
  show(scope.names.lookup x==some cg)=false;rw[cv];exact λq=>G.nocell _ (b4 q) rfl
 rw[own];rfl
section
variable{X:Cx}{pins:List (Addr×Obj)}{σ:St}{H:Hp}{s:ap}{scope:dS}{N':List Str}{nt:Nat}{caps:List Nat}{fp:List Addr}{tg iter elt:Expr}{ifs:List Expr}{pos:Pos}
def comp_run{RR:Value->Addr->lG->ap->Prop}(I:Inv X pins σ H s)(hc:X.calm=true)(ck:CompOk X.N X.env.scope scope N' nt caps)(O:relabel scope X.env=Zf X.env.scope scope)(T:Turn X.prog X.w X.K tg J fp it tn)(h0:tn 0 s.heap)(hf:∀b∈fp,FpOk X pins H b)(hg:∀pins cl C s H fp,PG (QaR X pins N' (Zf X.env.scope scope) cl C s H fp) tg g)(ht:∀pins cl C s H fp,PIfs (QaR X pins N' (Zf X.env.scope scope) cl C s H fp) ifs tc)(he:∀pins cl C s H fp,PE (QaR X pins N' (Zf X.env.scope scope) cl C s H fp) elt te)(rd:Qha J nt caps g tc te σ H Qd)(hRR:∀D C s' H',Inv X pins σ H' s'->(∃m,s'.heap.Ns C m)->FpOk X pins H' C->Qd D H'->RR (.ref D) C (.ok .next) s') :
  av (model X.prog X.w) X.A (newList []) (λU Y=>av (model X.prog X.w) X.A (kf scope X.env.globals (clos X.env scope.names []) [] X.env.qual none .none (some X.env)) (λG s₄ =>
   fu (model X.prog X.w) X.A (.compStart (.ListComp elt [⟨tg,iter,ifs,0⟩] scope pos) 0 (.ref it) U { G with scope:=relabel scope X.env }) (RR U G.locals) s₄) E Y) E s:=by
 have e:=ck.eqC X;exact QhN I hc ck.C O T h0 hf (by rw[e];exact hg) (by rw[e];exact ht) (by rw[e];exact he) rd hRR
def FpOk.turn(I:Inv X pins σ H' s')(f:FpOk X pins H' C)(hs:bF C s'.heap h'):Inv X pins σ H' { s' with heap:=h' }:=by
 obtain⟨f0,f1,f2,j,m,B⟩:=f;exact I.turned (λb o D e=>hs.extBut b o D e) f0 f1 j m B
def tComp(wi:TI)(nt:Nat)(caps:List Nat)(g:TG)(tc:TT)(te:TE):TE:=λσ H Q=>wi σ H λJ H1=>Qha J nt caps g tc te σ H1 λD H2=>Q (.ref D) H2
variable{wi:TI}{g:TG}{tc:TT}{te:TE}
def pe_comp(hc:X.calm=true)(O:CompOk X.N X.env.scope scope N' nt caps)(hi:PI X tg iter wi)(Y:∀pins cl C s H fp,PG (QaR X pins N' (Zf X.env.scope scope) cl C s H fp) tg g)(ht:∀pins cl C s H fp,PIfs (QaR X pins N' (Zf X.env.scope scope) cl C s H fp) ifs tc)(he:∀pins cl C s H fp,PE (QaR X pins N' (Zf X.env.scope scope) cl C s H fp) elt te)(hs:∀x,cb iter X.env x=pure x:=by intro _;rfl)(G:relabel scope X.env=Zf X.env.scope scope:=by rfl) :
  PE X (.ListComp elt [⟨tg,iter,ifs,0⟩] scope pos) (tComp wi nt caps g tc te):=by
 intro pins s σ H Q I h;refine kT rfl hs (QbT (QoF I O)) O.kind O.locs (thn (hi pins s σ H _ I h) λxv M j=>thn j λitv U B=>?_);obtain⟨it,fp,tn,J,H2,e,I2,T,E,f2,rd⟩:=B;subst e;refine comp_run I2 hc O G T E f2 Y ht he rd ?_;intro D C s' H' I' hm f q;obtain⟨m,hm⟩:=hm;exact⟨m,hm,λh' L=>⟨.ref D,H',FpOk.turn I' f L,rfl,q⟩⟩
def sSetComp(i:Nat)(wi:TI)(nt:Nat)(caps:List Nat)(g:TG)(tc:TT)(te:TE):TS:=λD σ H=>wi σ H λJ H1=>Qha J nt caps g tc te σ H1 λd H2=>D.nx (σ.set i (some (.ref d))) H2
def Qjx(hN:X.N.Nodup)(U:X.N[i]?=some y)(hy:X.env.scope.names.lookup y=some .local)(hc:X.calm=true)(O:CompOkC X.N X.env.scope scope N' nt caps)(hi:PI X tg iter wi)(hg:∀pins cl C s H fp,PG (Xq X (ownC scope) pins N' (Zf X.env.scope scope) cl C s H fp) tg g)(ht:∀pins cl C s H fp,PIfs (Xq X (ownC scope) pins N' (Zf X.env.scope scope) cl C s H fp) ifs tc)(he:∀pins cl C s H fp,PE (Xq X (ownC scope) pins N' (Zf X.env.scope scope) cl C s H fp) elt te)(Y:cp (.ListComp elt [⟨tg,iter,ifs,0⟩] scope pos) (some (.Name y py)) spos.line X.env=pure true:=by rfl)(hs:∀x,cb iter X.env x=pure x:=by intro _;rfl)(G:relabel scope X.env=Zf X.env.scope scope:=by rfl) :
  PS X (.Assign [.Name y py] (.ListComp elt [⟨tg,iter,ifs,0⟩] scope pos) spos) (sSetComp i wi nt caps g tc te):=by
 intro pins s σ H D I h;rw[exec_Assign_Name_used _ _ _ _ Y];refine aa (gI (aa ?_));refine aa (b8 (kT rfl hs (QbT (Qfr I O)) O.kind O.locs
  (thn (hi pins s σ H _ I h) λxv s₁ j=>thn j λitv s₂ B=>?_)) (λ_ s' hq=>af (af hq)) λ_ _ e=>e)
 obtain⟨it,fp,tn,J,H2,e,I2,T,M,f2,rd⟩:=B;subst e;refine QhN I2 hc O G T M f2 hg ht he rd ?_;intro d C s' H' I' hm f q;obtain⟨m,hm⟩:=hm;refine wpAny_assign_Name (Qhi I' hN U (.inl hy) (show RelV (.ref d) (.ref d) from rfl) (λs'' Q E=>?_) (.inr hy));obtain⟨a,sb,L⟩:=E;have hCa:C≠a:=by
  rcases L with L | L
  .rw[L];exact f.2.1
  .exact λz=>f.2.2.2.2.1 _ _ L z.symm
 exact⟨m,hm.sameBut sb hCa,λh' hs'=>⟨_,H',FpOk.turn Q f hs',q⟩⟩
end
def dvV:Bool ⊕ Int->V
 |.inl b=>.bl b
 |.inr i=>.int i
def dvK(kvs:List (Str×(Bool ⊕ Int))):List (Key×V):=kvs.map λp=>(du p.1,dvV p.2)
inductive PV where
 |non | bl (b:Bool) | int (i:Int) | str (x:Str) | tup (xs:List PV) | lst (xs:List PV) | obj (C:Addr) (ks:List Str) (ps:List PV) | opq (a:Addr) | dct (kvs:List (Str×(Bool ⊕ Int))) | dcw (kvs:List (Str×(Bool ⊕ Int)))
structure RdK (F:Hp) (a:Addr) (kvs:List (Str×(Bool ⊕ Int))):Prop where
 rd:Rd F a (.dK (dvK kvs))
def excO(a C dx:Addr):HO := .ext λh=>∃o vs,h.get? a=some o/\o.cls = .ref C/\o.dict=some dx/\o.data = .fields vs
inductive ObjAt (K:ac) (F:Hp) (a C dx:Addr) (fs:List (Str×V)):Prop
 |ins:F a=some (.ins C dx fs)->F dx=some (.own a)->ObjAt K F a C dx fs
 |exc:F a=some (excO a C dx)->F dx=some (.xd fs)->fT K C (.type "BaseException")=some true->ObjAt K F a C dx fs
theorem ObjAt.mono{K:ac}(e:Same F F'):ObjAt K F a C dx fs->ObjAt K F' a C dx fs
 |.ins h1 h2=>.ins (e _ _ h1) (e _ _ h2)
 |.exc h1 h2 j=>.exc (e _ _ h1) (e _ _ h2) j
mutual
def Rep(K:ac)(F:Hp):PV->V->Prop
 |.non,v=>v = .non
 |.bl b,v=>v = .bl b
 |.int i,v=>v = .int i
 |.str x,v=>v = .str x
 |.tup xs,v=>∃a vs,v = .ref a/\SqT K F a vs/\RepL K F xs vs
 |.lst xs,v=>∃a vs,v = .ref a/\SqL K F a vs/\RepL K F xs vs
 |.obj C ks ps,v=>∃a dx vs,v = .ref a/\ObjAt K F a C dx (ks.zip vs)/\ks.length=vs.length/\RepL K F ps vs
 |.opq a,v=>v = .ref a
 |.dct kvs,v=>∃a o,v = .ref a/\F a=some (.frz o (.dK (dvK kvs)))
 |.dcw kvs,v=>∃(a:Addr)(_:Unit),v = .ref a/\RdK F a kvs
def RepL(K:ac)(F:Hp):List PV->List V->Prop
 |[],vs=>vs=[]
 |x::xs,vs=>∃v r,vs=v::r/\Rep K F x v/\RepL K F xs r
end
def _root_.L2.Same.seqT{K:ac}(e:Same H H')(h:SqT K H a xs):SqT K H' a xs:=by
 rcases h with(h|⟨o,h⟩) | h
 .exact .inl (.inl (e _ _ h))
 .exact .inl (.inr ⟨o,e _ _ h⟩)
 .exact .inr h
section
variable{K:ac}{F F':Hp}
mutual
theorem Rep.mono(e:Same F F'):∀{p:PV}{v:V},Rep K F p v->Rep K F' p v
 |.non,_,h=>h
 |.bl _,_,h=>h
 |.int _,_,h=>h
 |.str _,_,h=>h
 |.tup xs,_,h=>by
  unfold Rep at h |-;obtain⟨a,vs,h1,h2,j⟩:=h;exact⟨a,vs,h1,e.seqT h2,RepL.mono e j⟩
 |.lst xs,_,h=>by
  unfold Rep at h |-;obtain⟨a,vs,h1,h2,j⟩:=h;exact⟨a,vs,h1,e.seq h2,RepL.mono e j⟩
 |.obj C ks ps,_,h=>by
  unfold Rep at h |-;obtain⟨a,dx,vs,h1,h2,m,B⟩:=h;exact⟨a,dx,vs,h1,h2.mono e,m,RepL.mono e B⟩
 |.opq _,_,h=>h
 |.dct _,_,h=>by
  unfold Rep at h |-;obtain⟨a,o,h1,h2⟩:=h;exact⟨a,o,h1,e _ _ h2⟩
 |.dcw _,_,h=>by
  unfold Rep at h |-;obtain⟨a,u,h1,h2⟩:=h;exact⟨a,u,h1,⟨h2.rd.imp (λz=>e _ _ z) λ⟨o,z⟩=>⟨o,e _ _ z⟩⟩⟩
theorem RepL.mono(e:Same F F'):∀{ps:List PV}{vs:List V},RepL K F ps vs->RepL K F' ps vs
 |[],_,h=>h
 |x::xs,_,h=>by
  unfold RepL at h |-;obtain⟨v,r,h1,h2,j⟩:=h;exact⟨v,r,h1,Rep.mono e h2,RepL.mono e j⟩
end
def RepL.nil:RepL K F [] []:=by rfl
def RepL.cons(h:Rep K F p v)(t:RepL K F ps vs):RepL K F (p::ps) (v::vs):=by
 exact⟨v,vs,rfl,h,t⟩
theorem RepL.length:∀{ps:List PV}{vs:List V},RepL K F ps vs->vs.length=ps.length
 |[],_,h=>by grind[RepL]
 |x::xs,_,h=>by
  obtain⟨v,r,rfl,_,j⟩:=h;simp[RepL.length j]
theorem RepL.get:∀{ps:List PV}{vs:List V}{i:Nat}{p:PV},RepL K F ps vs->ps[i]?=some p->∃v,vs[i]?=some v/\Rep K F p v
 |[],_,_,_,_,e=>by simp at e
 |x::xs,_,i,p,h,e=>by
  obtain⟨v,r,rfl,h2,j⟩:=h;cases i with
  |zero=>simp at e;subst e;exact⟨v,rfl,h2⟩
  |succ i =>
   obtain⟨u,e1,e2⟩:=RepL.get j (by simpa using e);exact⟨u,by simpa using e1,e2⟩
def RepL.back{i:Nat}(h:RepL K F ps vs)(e:vs[i]?=some v):∃p,ps[i]?=some p/\Rep K F p v:=by
 cases q:ps[i]? with
 |none =>
  have h1 :=jm.mp q;have h2 :=(al.mp e).1;rw[h.length]at h2;omega
 |some p =>
  obtain⟨u,e1,e2⟩:=h.get q;rw[e]at e1;cases e1;exact⟨p,rfl,e2⟩
theorem RepL.append:∀{ps G:List PV}{vs us:List V},RepL K F ps vs->RepL K F G us->RepL K F (ps++G) (vs++us)
 |[],_,_,_,h,t=>by subst h;exact t
 |x::xs,_,_,_,h,t=>by
  obtain⟨v,r,rfl,h2,j⟩:=h;exact .cons h2 (RepL.append j t)
def RepL.snoc(h:RepL K F ps vs)(t:Rep K F p v):RepL K F (ps++[p]) (vs++[v]):=h.append (.cons t .nil)
theorem RepL.take:∀{ps:List PV}{vs:List V} n,RepL K F ps vs->RepL K F (ps.take n) (vs.take n)
 |_,_,0,_=>by simpa using RepL.nil
 |[],_,n+1,h=>by grind[RepL]
 |x::xs,_,n+1,h=>by
  obtain⟨v,r,rfl,h2,j⟩:=h;exact .cons h2 (RepL.take n j)
theorem RepL.drop:∀{ps:List PV}{vs:List V} n,RepL K F ps vs->RepL K F (ps.drop n) (vs.drop n)
 |_,_,0,h=>by simpa using h
 |[],_,n+1,h=>by subst h;exact .nil
 |x::xs,_,n+1,h=>by
  obtain⟨v,r,rfl,h2,j⟩:=h;simpa using RepL.drop n j
theorem RepL.set:∀{ps:List PV}{vs:List V} i {p:PV} {v:V},RepL K F ps vs->Rep K F p v->RepL K F (ps.set i p) (vs.set i v)
 |[],_,_,_,_,h,_=>by subst h;exact .nil
 |x::xs,_,0,_,_,h,q=>by
  obtain⟨v,r,rfl,h2,j⟩:=h;exact .cons q j
 |x::xs,_,i+1,_,_,h,q=>by
  obtain⟨v,r,rfl,h2,j⟩:=h;exact .cons h2 (RepL.set i j q)
def RepL.reverse(h:RepL K F ps vs):RepL K F ps.reverse vs.reverse:=by
 induction ps generalizing vs with
 |nil=>subst h;exact .nil
 |cons x xs j =>
  obtain⟨v,r,rfl,h2,m⟩:=h;rw[dO,dO];exact(j m).append (.cons h2 .nil)
end
structure Grow (F H F' H':Hp):Prop where
 ext:Same F F'
 sub:Same F' H'
 same:Same H H'
 new:∀a o,F' a=some o->F a=some o\/H a=none
theorem Grow.refl(h:Same F H):Grow F H F H:=⟨Same.refl _,h,Same.refl _,λ_ _ e=>.inl e⟩
def Grow.trans{F H G H1 F2 H2:Hp}(a:Grow F H G H1)(b:Grow G H1 F2 H2):Grow F H F2 H2 :=
 ⟨a.ext.trans b.ext,b.sub,a.same.trans b.same,λc o e=>by
  rcases b.new c o e with z | z
  .exact a.new c o z
  .exact .inr (a.same.free z)⟩
def Grow.laid(h:Same F H)(n:H p=none):Grow F H (upd F p o) (upd H p o):=by
 have j:F p=none:=by
  cases q:F p with
  |none=>rfl
  |some u=>rw[h p u q]at n;cases n
 refine⟨λa u e=>?_,λa u e=>?_,λa u e=>?_,λa u e=>?_⟩
 .rw[Qj (Ql e j)];exact e
 .by_cases z:a=p
  .subst z;rw[Qk]at e |-;exact e
  .rw[Qj z]at e |-;exact h a u e
 .rw[Qj (Ql e n)];exact e
 .by_cases z:a=p
  .subst z;exact .inr n
  .rw[Qj z]at e;exact .inl e
def Grow.side(h:Same F H)(n:H p=none):Grow F H F (upd H p o):=by
 refine⟨Same.refl _,λa u e=>?_,λa u e=>?_,λa u e=>.inl e⟩
 .rw[Qj (Ql (h a u e) n)];exact h a u e
 .rw[Qj (Ql e n)];exact e
inductive Slot where
 |un | fz (p:PV) | ow (xs:List PV) | od (kvs:List (Str×(Bool ⊕ Int)))
abbrev PEnv:=List Slot
def Slot.val:Slot->Option PV
 |.un=>none
 |.fz p=>some p
 |.ow xs=>some (.lst xs)
 |.od kvs=>some (.dcw kvs)
noncomputable def getV(γ:PEnv)(i:Nat):Option PV:=(γ[i]?).bind Slot.val
def ERep(K:ac)(F:Hp)(σ:St)(γ:PEnv)(ms:List Nat):Prop:=∀i∈ms,∀p,getV γ i=some p->∃v,σ[i]?=some (some v)/\Rep K F p v
def ERep.mono{K:ac}(h:ERep K F σ γ ms)(e:Same F F'):ERep K F' σ γ ms:=λi hi p j=>by
 obtain⟨v,h1,h2⟩:=h i hi p j;exact⟨v,h1,h2.mono e⟩
def ERep.left{K:ac}(h:ERep K F σ γ (ms++ns)):ERep K F σ γ ms:=λi hi=>h i (by grind)
def ERep.right{K:ac}(h:ERep K F σ γ (ms++ns)):ERep K F σ γ ns:=λi hi=>h i (by grind)
def Wv(K:ac)(F H:Hp)(r:PV)(Q:VK):Prop:=∀v H' F',Grow F H F' H'->Rep K F' r v->Q v H'
def Wo(K:ac)(F H:Hp)(xs:List PV)(Q:VK):Prop:=∀a vs H' F',Grow F H F' H'->H a=none->F' a=none->H' a=some (.lst vs)->RepL K F' xs vs->Q (.ref a) H'
def Wv.go{K:ac}(w:Wv K F H r Q)(g:Grow F H F' H'):Wv K F' H' r Q:=λv H2 F2 j=>w v H2 F2 (g.trans j)
def Wo.go{K:ac}(w:Wo K F H r Q)(g:Grow F H F' H'):Wo K F' H' r Q:=λa vs H2 F2 j n=>w a vs H2 F2 (g.trans j) (g.same.free n)
def Wv.of_lst{K:ac}(w:Wv K F H (.lst xs) Q):Wo K F H xs Q:=by
 intro a vs H' F' g n m e r;have j:Same F' (upd F' a (.lst vs)):=λb u q=>by rw[Qj (Ql q m)];exact q
 refine w (.ref a) H' (upd F' a (.lst vs)) ⟨g.ext.trans j,λb u q=>?_,g.same,λb u q=>?_⟩ ?_
 .by_cases z:b=a
  .grind[Qk]
  .rw[Qj z]at q;exact g.sub b u q
 .by_cases z:b=a
  .grind
  .rw[Qj z]at q;exact g.new b u q
 .exact⟨a,vs,rfl,.of Qk,r.mono j⟩
def Wv.here{K:ac}(w:Wv K F H r Q)(h:Same F H)(q:Rep K F r v):Q v H:=w v H F (.refl h) q
abbrev MEx:=PEnv->Option PV
inductive tM (K:ac) (ms:List Nat) (m:MEx) (σ:St) (H:Hp) (Q:VK):Prop
 |mk F γ r:Same F H->ERep K F σ γ ms->m γ=some r->Wv K F H r Q->tM K ms m σ H Q
inductive tMO (K:ac) (ms:List Nat) (m:PEnv->Option (List PV)) (σ:St) (H:Hp) (Q:VK):Prop
 |mk F γ r:Same F H->ERep K F σ γ ms->m γ=some r->Wo K F H r Q->tMO K ms m σ H Q
inductive tMT (K:ac) (ms:List Nat) (m:PEnv->Option Bool) (σ:St) (H:Hp) (Q:Bool->Hp->Prop):Prop
 |mk F γ r:Same F H->ERep K F σ γ ms->m γ=some r->(∀H' F',Grow F H F' H'->Q r H')->tMT K ms m σ H Q
inductive tMA (K:ac) (ms:List Nat) (m:PEnv->Option (List PV)) (σ:St) (H:Hp) (Q:List V->Hp->Prop):Prop
 |mk F γ r:Same F H->ERep K F σ γ ms->m γ=some r->(∀vs H' F',Grow F H F' H'->RepL K F' r vs->Q vs H')->tMA K ms m σ H Q
def EM(X:Cx)(ms:List Nat)(e:Expr)(m:MEx):Prop:=PE X e (tM X.K ms m)
def EO(X:Cx)(ms:List Nat)(e:Expr)(m:PEnv->Option (List PV)):Prop:=PE X e (tMO X.K ms m)
def TM(X:Cx)(ms:List Nat)(e:Expr)(m:PEnv->Option Bool):Prop:=PT X e (tMT X.K ms m)
def AM(X:Cx)(ms:List Nat)(es:List Expr)(m:PEnv->Option (List PV)):Prop:=PA X es (tMA X.K ms m)
section
variable{X:Cx}{e a b:Expr}{es:List Expr}{ms ns:List Nat}{m m1 m2:MEx}{pos:Pos}
def _root_.L2.PE.imp(h:PE X e t)(i:∀σ H Q,t' σ H Q->t σ H Q):PE X e t':=λpins s σ H Q I q=>h pins s σ H Q I (i σ H Q q)
def _root_.L2.PT.imp(h:PT X e t)(i:∀σ H Q,t' σ H Q->t σ H Q):PT X e t':=λpins s σ H Q I q=>h pins s σ H Q I (i σ H Q q)
def _root_.L2.PA.imp(h:PA X es t)(i:∀σ H Q,t' σ H Q->t σ H Q):PA X es t':=λpos pins s σ H Q I q=>h pos pins s σ H Q I (i σ H Q q)
def _root_.L2.PS.imp{st:Stmt}(h:PS X st t)(i:∀D σ H,t' D σ H->t D σ H):PS X st t':=λpins s σ H D I q=>h pins s σ H D I (i D σ H q)
noncomputable def mLst(m:PEnv->Option (List PV)):MEx:=λγ=>(m γ).map PV.lst
def EO.em{m:PEnv->Option (List PV)}(h:EO X ms e m):EM X ms e (mLst m):=PE.imp h λσ H Q ⟨F,γ,r,h1,h2,j,w⟩=>by
 unfold mLst at j;cases q:m γ with
 |none=>grind
 |some xs =>
  rw[q]at j;cases j;exact⟨F,γ,xs,h1,h2,q,w.of_lst⟩
noncomputable def mVar(i:Nat):MEx:=λγ=>getV γ i
noncomputable def mC(p:PV):MEx:=λ_=>some p
def Qu i (h:PE X (.Name x pos) (tVar i)):EM X [i] (.Name x pos) (mVar i):=PE.imp h λσ H Q ⟨F,γ,r,h1,h2,j,w⟩=>by
 obtain⟨v,e1,e2⟩:=h2 i (by simp) r j;exact⟨v,e1,w.here h1 e2⟩
def Qb:EM X [] (.Constant (.int i) j pos) (mC (.int i)):=PE.imp pe_int λσ H Q ⟨F,γ,r,h1,h2,m,w⟩=>by
 cases m;exact w.here h1 (by rfl)
def Qbo:EM X [] (.Constant (.bool i) j pos) (mC (.bl i)):=PE.imp pe_bl λσ H Q ⟨F,γ,r,h1,h2,m,w⟩=>by
 cases m;exact w.here h1 (by rfl)
def em_non:EM X [] (.Constant .none j pos) (mC .non):=PE.imp pe_non λσ H Q ⟨F,γ,r,h1,h2,m,w⟩=>by
 cases m;exact w.here h1 (by rfl)
def Qr:EM X [] (.Constant (.str i) j pos) (mC (.str i)):=PE.imp pe_str λσ H Q ⟨F,γ,r,h1,h2,m,w⟩=>by
 cases m;exact w.here h1 (by rfl)
def rM2(K:ac)(f:PV->PV->Option PV):R2:=λx y H Q=>∃F p q r,Same F H/\Rep K F p x/\Rep K F q y/\f p q=some r/\Wv K F H r Q
def rM2O(K:ac)(f:PV->PV->Option (List PV)):R2:=λx y H Q=>∃F p q r,Same F H/\Rep K F p x/\Rep K F q y/\f p q=some r/\Wo K F H r Q
noncomputable def bin2(f:PV->PV->Option α)(m1 m2:MEx):PEnv->Option α:=λγ=>(m1 γ).bind λx=>(m2 γ).bind λy=>f x y
def QiO{K:ac}(h:tM K (ms++ns) (bin2 f m1 m2) σ H Q):tOp (rM2 K f) (tM K ms m1) (tM K ns m2) σ H Q:=by
 obtain⟨F,γ,r,h1,h2,j,w⟩:=h;unfold bin2 at j;cases e1:m1 γ with
 |none=>grind
 |some x =>
  cases e2:m2 γ with
  |none=>grind
  |some y =>
   rw[e1,e2]at j;refine⟨F,γ,x,h1,h2.left,e1,λI H1 D m E=>⟨D,γ,y,m.sub,h2.right.mono m.ext,e2,λJ H2 F2 B G=>?_⟩⟩;exact⟨F2,x,y,r,B.sub,E.mono B.ext,G,j,w.go (m.trans B)⟩
def tOpO_of{K:ac}(h:tMO K (ms++ns) (bin2 f m1 m2) σ H Q):tOp (rM2O K f) (tM K ms m1) (tM K ns m2) σ H Q:=by
 obtain⟨F,γ,r,h1,h2,j,w⟩:=h;unfold bin2 at j;cases e1:m1 γ with
 |none=>grind
 |some x =>
  cases e2:m2 γ with
  |none=>grind
  |some y =>
   rw[e1,e2]at j;refine⟨F,γ,x,h1,h2.left,e1,λI H1 D m E=>⟨D,γ,y,m.sub,h2.right.mono m.ext,e2,λJ H2 F2 B G=>?_⟩⟩;exact⟨F2,x,y,r,B.sub,E.mono B.ext,G,j,w.go (m.trans B)⟩
def OpM(X:Cx)(g:Value->Value->Sem Value)(f:PV->PV->Option PV):Prop:=OpR X g (rM2 X.K f)
def OpO(X:Cx)(g:Value->Value->Sem Value)(f:PV->PV->Option (List PV)):Prop:=OpR X g (rM2O X.K f)
def Zd(ho:OpM X (bV G) f)(J:EM X ms a m1)(O:EM X ns b m2):EM X (ms++ns) (.BinOp a G b pos) (bin2 f m1 m2) :=
 PE.imp (pe_op ho J O) λ_ _ _ h=>QiO h
def Qib(ho:OpO X (bV G) f)(J:EM X ms a m1)(O:EM X ns b m2):EO X (ms++ns) (.BinOp a G b pos) (bin2 f m1 m2) :=
 PE.imp (pe_op ho J O) λ_ _ _ h=>tOpO_of h
def Qcl(ho:OpM X (bE G) f)(J:EM X ms a m1)(O:EM X ns b m2)(hm:fw G b=false):EM X (ms++ns) (.Compare a [G] [b] pos) (bin2 f m1 m2) :=
 PE.imp (pe_cmpR ho J O hm) λ_ _ _ h=>QiO h
def QaP(ho:IxR X (rM2 X.K f))(G:EM X ms a m1)(J:EM X ns b m2)(hs:QiN b):EM X (ms++ns) (.Subscript a b pos) (bin2 f m1 m2) :=
 PE.imp (pe_ix ho G J hs) λ_ _ _ h=>QiO h
def isB:PV->Option Bool
 |.bl b=>some b
 |_=>none
noncomputable def truB(m:MEx):PEnv->Option Bool:=λγ=>(m γ).bind isB
def Qka{K:ac}(G:∀Q,tM K ms m σ H Q->t σ H Q)(h:tMT K ms (truB m) σ H Q):tTest t σ H Q:=by
 obtain⟨F,γ,r,h1,h2,j,w⟩:=h;unfold truB at j;cases e1:m γ with
 |none=>rw[e1]at j;cases j
 |some x =>
  rw[e1]at j;cases x with
  |bl b =>
   obtain rfl:b=r:=aR j;refine G _ ⟨F,γ,.bl b,h1,h2,e1,λv H' F' g q=>?_⟩;exact⟨b,q,w H' F' g⟩
  |_=>cases j
def XE(ho:OpM X (bE G) f)(J:EM X ms a m1)(O:EM X ns b m2)(hm:fw G b=false):TM X (ms++ns) (.Compare a [G] [b] pos) (truB (bin2 f m1 m2)) :=
 PT.imp (pt_cmpR ho J O hm) λ_ _ _ h=>Qka (λ_=>QiO) h
end
abbrev LIM:Nat:=1000000
theorem QU:LIM<=ax:=by decide
def Qt[Decidable c](h:(if c then some a else none)=some r):c/\a=r:=by
 grind
section
variable{X:Cx}
def iop(C:Int->Int->Bool)(g:Int->Int->PV):PV->PV->Option PV
 |.int i,.int j=>if C i j=true then some (g i j) else none
 |_,_=>none
def Qnp(h:iop C g p q=some r):∃i j,p = .int i/\q = .int j/\C i j=true/\r=g i j:=by
  cases p<;>cases q<;>first
    | (exfalso;cases h;done)
    | (rename_i i j
       obtain⟨c,e⟩:=Qt h;exact⟨i,j,rfl,rfl,c,e.symm⟩)
def QlZ(ho:OpR X f (rI G J))(hc:∀i j,C i j=true->G i j)(O:∀i j K F,Rep K F (g i j) (J i j)):OpM X f (iop C g):=by
 intro pins s σ H x y v u Q I m B h;obtain⟨F,p,q,r,h1,h2,D,E,w⟩:=h;obtain⟨i,j,rfl,rfl,c,rfl⟩:=Qnp E;exact ho pins s σ H x y v u Q I m B ⟨i,j,h2,D,hc i j c,w.here h1 (O i j _ _)⟩
def QgS(ho:OpR X f (rI0 G))(J:∀i j K F,Rep K F (g i j) (G i j)):OpM X f (iop (λ_ _=>true) g):=by
 intro pins s σ H x y v u Q I m B h;obtain⟨F,p,q,r,h1,h2,D,E,w⟩:=h;obtain⟨i,j,rfl,rfl,c,rfl⟩:=Qnp E;exact ho pins s σ H x y v u Q I m B ⟨i,j,h2,D,w.here h1 (J i j _ _)⟩
def QL{K:ac} i:Rep K F (.int i) (.int i):=by rfl
def Ya{K:ac} i:Rep K F (.bl i) (.bl i):=by rfl
def Xa{K:ac} i:Rep K F (.str i) (.str i):=by rfl
def QmN{K:ac}:Rep K F .non .non:=by rfl
def pSub:=iop (λ_ _=>true) λi j=>.int (i-j)
def cls(p:Prop):Bool := @decide p (gm p)
def Qcc(h:cls p=true):p := @c8 p (gm p) h
theorem Qdd(h:p):cls p=true := @aE p (gm p) h
def cMul(i j:Int):Bool:=cls (-(2^64)<i/\i<2^64)||cls (-(2^64)<j/\j<2^64)
def cDiv(_ j:Int):Bool:=cls (0<j/\j<2^200)
def cPos(_ j:Int):Bool:=decide (0<j)
def cPow(i j:Int):Bool:=cls (0<=j/\j<=1000000/\i.natAbs<2^64)
def pMul:=iop cMul λi j=>.int (i*j)
def pDiv:=iop cDiv λi j=>.int (i/j)
def pMod:=iop cPos λi j=>.int (i%j)
def pPow:=iop cPow λi j=>.int (i^j.toNat)
def pLt:=iop (λ_ _=>true) λi j=>.bl (decide (i<j))
def pLe:=iop (λ_ _=>true) λi j=>.bl (decide (i<=j))
def pGt:=iop (λ_ _=>true) λi j=>.bl (decide (j<i))
def pGe:=iop (λ_ _=>true) λi j=>.bl (decide (j<=i))
def QiV:OpM X (bV .Sub) pSub:=QgS op_sub λ_ _ _ _=>QL _
def cMul_ok(h:cMul i j=true):CMul i j:=by
 unfold cMul at h;rw[ef]at h;exact h.imp Qcc Qcc
def Qbg:OpM X (bV .Mult) pMul:=QlZ op_mul (λ_ _ h=>cMul_ok h) λ_ _ _ _=>QL _
def div_log{j:Int}(h0:0<j)(h:j<2^200):j.natAbs.log2<9000:=by
 have h1:j.natAbs<2^200:=by lia
 have h2 :=(Nat.log2_lt (by lia)).mpr h1;lia
def op_fdivL:OpR X (bV .FloorDiv) (rI (λ_ j=>0<j/\j<2^200) λi j=>.int (i/j)):=opI λi j _ _ _ _ _ hc q=>by
 have h1 :=hc.1;exact floordiv_int (by omega) (by rw[Int.fdiv_eq_ediv_of_nonneg i (by omega)];exact q) (.inl (PyProof.noPylong_of_log2 (div_log h1 hc.2)))
def Qav:OpM X (bV .FloorDiv) pDiv:=QlZ op_fdivL (λ_ _ h=>Qcc h) λ_ _ _ _=>QL _
def QiW:OpM X (bV .Mod) pMod:=QlZ op_mod (λ_ _ h=>c8 h) λ_ _ _ _=>QL _
def om_pow:OpM X (bV .Pow) pPow:=QlZ op_pow (λi j h=>Qcc h) λ_ _ _ _=>QL _
def QbX:OpM X (bE .Lt) pLt:=QgS op_lt λ_ _ _ _=>Ya _
def om_le:OpM X (bE .LtE) pLe:=QgS op_le λ_ _ _ _=>Ya _
def QdR:OpM X (bE .Gt) pGt:=QgS op_gt λ_ _ _ _=>Ya _
def om_ge:OpM X (bE .GtE) pGe:=QgS op_ge λ_ _ _ _=>Ya _
def op_catS:OpR X (bV .Add) (λx y H Q=>∃l b xs zs,x = .ref l/\y = .ref b/\SqL X.K H l xs/\SqL X.K H b zs/\xs.length+zs.length<=ax/\∀p,H p=none->Q (.ref p) (upd H p (.lst (xs++zs)))):=by
 intro pins s σ H x y v u Q I L M h;obtain⟨l,b,xs,zs,rfl,rfl,O,T,hz,q⟩:=h;cases L;cases M;obtain⟨m,r,⟨⟨cls,dd,data,U⟩,n,e,c,_,d⟩,_⟩:=I.list O;obtain⟨j,G,⟨⟨J,B,data2,D⟩,n2,e2,Y,_,d2⟩,_⟩:=I.list T;subst c d Y d2;have E:m.toArray.size+j.toArray.size<=ax:=by rw[aF,aF,<-r.length,<-G.length];exact hz
 have ea:m.toArray++j.toArray=(m++j).toArray:=by simp
 refine i9 ⟨_,e,rfl⟩ ⟨_,e2,rfl⟩ noFill_list_add seq_list_add PySem.F.slot_list_add PySem.F.entry_list_add (PySem.F.args_list_add_2 _ _)
  (list_addW l b m.toArray j.toArray n n2 dd B U D E) ⟨e,e2,?_⟩
 rw[ea];exact⟨.ref _,_,I.lnew (r.append G) (by rw[aJ];omega),rfl,q _ I.fresh⟩
def pCat:PV->PV->Option (List PV)
 |.lst a,.lst b=>if a.length+b.length<=LIM then some (a++b) else none
 |_,_=>none
def QcW:OpO X (bV .Add) pCat:=by
 intro pins s σ H x y v u Q I D E h;obtain⟨F,p,q,r,h1,h2,G,m,w⟩:=h;cases p<;>cases q<;>first
  | (exfalso;cases m;done)
  |skip
 obtain⟨c,rfl⟩:=Qt m;obtain⟨a,vs,rfl,sa,B⟩:=h2;obtain⟨b,us,rfl,sb,rb⟩:=G;refine op_catS pins s σ H _ _ v u Q I D E ⟨a,b,vs,us,rfl,rfl,h1.seq sa,h1.seq sb,by rw[B.length,rb.length];grind[QU],λp j=>?_⟩;have J :=h1.free j;exact w p _ _ F (.side h1 j) j J Qk (B.append rb)
def pAdd:PV->PV->Option PV
 |.int i,.int j=>some (.int (i+j))
 |.str a,.str b=>if a.length+b.length<=LIM then some (.str (a++b)) else none
 |_,_=>none
def QiX:OpM X (bV .Add) pAdd:=by
 intro pins s σ H x y v u Q I m B h;obtain⟨F,p,q,r,h1,h2,D,j,w⟩:=h;cases p<;>cases q<;>first
  | (exfalso;cases j;done)
  |skip
 .cases j;exact op_add pins s σ H x y v u Q I m B ⟨_,_,h2,D,w.here h1 (QL _)⟩
 .obtain⟨c,rfl⟩:=Qt j;exact Qln pins s σ H x y v u Q I m B ⟨_,_,h2,D,aS c QU,w.here h1 (Xa _)⟩
end
mutual
def peq:PV->PV->Bool
 |.non,.non=>true
 |.bl a,.bl b=>a==b
 |.bl a,.int b=>(if a then 1 else 0)==b
 |.int a,.bl b=>a==(if b then 1 else 0)
 |.int a,.int b=>a==b
 |.str a,.str b=>a==b
 |.tup xs,.tup ys=>peqL xs ys
 |.lst xs,.lst ys=>peqL xs ys
 |.obj C ks ps,.obj D ls j=>(C==D&&ks==ls)&&peqL ps j
 |.opq a,.opq b=>a==b
 |.dct a,.dct b=>decide (a=b)
 |.dcw a,.dcw b=>decide (a=b)
 |_,_=>false
def peqL:List PV->List PV->Bool
 |[],[]=>true
 |x::xs,y::ys=>peq x y&&peqL xs ys
 |_,_=>false
end
mutual
def dep:PV->Nat
 |.tup xs=>depL xs+1
 |.lst xs=>depL xs+1
 |.obj _ _ _=>1000
 |.opq _=>1000
 |.dct _=>1000
 |.dcw _=>1000
 |_=>0
def depL:List PV->Nat
 |[]=>0
 |x::xs=>max (dep x) (depL xs)
end
theorem QbC:∀{xs:List PV}{j:Nat}{p:PV},xs[j]?=some p->dep p<=depL xs
 |[],_,_,e=>by simp at e
 |x::xs,0,p,e=>by
  simp at e;subst e;exact Nat.le_max_left _ _
 |x::xs,j+1,p,e=>by
  have:=QbC (by simpa using e);exact aS this (Nat.le_max_right _ _)
mutual
theorem Qkk:∀p:PV,peq p p=true
 |.non=>rfl
 |.bl a=>by show(a==a)=true;simp
 |.int a=>by show(a==a)=true;simp
 |.str a=>by show(a==a)=true;simp
 |.tup xs=>YM xs
 |.lst xs=>YM xs
 |.obj C ks ps=>by show((C==C&&ks==ks)&&peqL ps ps)=true;rw[YM ps];simp
 |.opq a=>by show(a==a)=true;simp
 |.dct a=>aE rfl
 |.dcw a=>aE rfl
theorem YM:∀xs:List PV,peqL xs xs=true
 |[]=>by first | rfl | simp[peqL]
 |x::xs=>by
  first | rw[show peqL (x::xs) (y::ys)=(peq x y&&peqL xs ys) from rfl] | rw[show peqL (x::xs) (x::xs)=(peq x x&&peqL xs xs) from rfl]
  rw[Qkk x,YM xs];rfl
end
def eAt(xs ys:List PV)(j:Nat):Bool:=match xs[j]?,ys[j]? with
 |some p,some q=>peq p q
 |_,_=>true
def Qfa n e:(az (n+1)).all e=(e 0&&(az n).all λj=>e (j+1)):=by
 rw[gx,fY,eD];rfl
theorem QaH:∀xs ys,((az (min xs.length ys.length)).all (eAt xs ys)&&(xs.length==ys.length))=peqL xs ys
 |[],[]=>by first | rfl | simp[peqL]
 |[],y::ys=>by first | rfl | simp[peqL]
 |x::xs,[]=>by first | rfl | simp[peqL]
 |x::xs,y::ys=>by
  have m:=QaH xs ys;first | rw[show peqL (x::xs) (y::ys)=(peq x y&&peqL xs ys) from rfl] | rw[rfl]
  rw[<-m];have e1:min (x::xs).length (y::ys).length=min xs.length ys.length+1:=by
   simp only[aK];omega
  rw[e1,Qfa];have e2:eAt (x::xs) (y::ys) 0=peq x y:=by simp[eAt]
  have e3:(λj=>eAt (x::xs) (y::ys) (j+1))=eAt xs ys:=by
   funext j;simp[eAt]
  have B:((x::xs).length==(y::ys).length)=(xs.length==ys.length):=by
   simp
  rw[e2,e3,B,Bool.and_assoc]
section
variable{X:Cx}{pins:List (Addr×Obj)}{σ:St}{H F:Hp}{s:ap}
mutual
theorem Rep.inj(I:Inv X pins σ H s)(G:Same F H):∀{p q:PV}{v:V},dep p<1000->dep q<1000->Rep X.K F p v->Rep X.K F q v->p=q
 |.non,q,v,_,dq,h,k=>by
  unfold Rep at h;subst h;cases q<;>unfold Rep at k<;>first | rfl | (cases k;done) | (obtain⟨_,_,k,_⟩:=k;cases k;done) | (obtain⟨_,_,_,k,_⟩:=k;cases k;done)
 |.bl b,q,v,_,dq,h,k=>by
  unfold Rep at h;subst h;cases q<;>unfold Rep at k<;>first | (cases k;done) | (cases k;rfl) | (obtain⟨_,_,k,_⟩:=k;cases k;done) | (obtain⟨_,_,_,k,_⟩:=k;cases k;done)
 |.int b,q,v,_,dq,h,k=>by
  unfold Rep at h;subst h;cases q<;>unfold Rep at k<;>first | (cases k;done) | (cases k;rfl) | (obtain⟨_,_,k,_⟩:=k;cases k;done) | (obtain⟨_,_,_,k,_⟩:=k;cases k;done)
 |.str b,q,v,_,dq,h,k=>by
  unfold Rep at h;subst h;cases q<;>unfold Rep at k<;>first | (cases k;done) | (cases k;rfl) | (obtain⟨_,_,k,_⟩:=k;cases k;done) | (obtain⟨_,_,_,k,_⟩:=k;cases k;done)
 |.tup xs,q,v,dp,dq,h,k=>by
  unfold Rep at h;obtain⟨a,vs,rfl,h2,m⟩:=h;cases q with
  |tup ys =>
   unfold Rep at k;obtain⟨b,us,e,k2,k3⟩:=k;cases e;have e:=I.tuple_inj (G.seqT h2) (G.seqT k2);subst e;unfold dep at dp dq;rw[RepL.inj I G (by omega) (by omega) m k3]
  |lst ys =>
   unfold Rep at k;obtain⟨b,us,e,k2,k3⟩:=k;cases e;obtain⟨B,_,p1,_⟩:=I.tuple (G.seqT h2);obtain⟨j,_,p2,_⟩:=I.list (G.seq k2);exact absurd rfl (iY p2.isList p1)
  |obj C ks ps=>unfold dep at dq;omega
  |opq b=>unfold dep at dq;omega
  |dct b=>unfold dep at dq;omega
  |dcw b=>unfold dep at dq;omega
  |_=>unfold Rep at k;cases k
 |.lst xs,q,v,dp,dq,h,k=>by
  unfold Rep at h;obtain⟨a,vs,rfl,h2,m⟩:=h;cases q with
  |lst ys =>
   unfold Rep at k;obtain⟨b,us,e,k2,k3⟩:=k;cases e;have e:=I.list_inj (G.seq h2) (G.seq k2);subst e;unfold dep at dp dq;rw[RepL.inj I G (by omega) (by omega) m k3]
  |tup ys =>
   unfold Rep at k;obtain⟨b,us,e,k2,k3⟩:=k;cases e;obtain⟨B,_,p1,_⟩:=I.list (G.seq h2);obtain⟨j,_,p2,_⟩:=I.tuple (G.seqT k2);exact absurd rfl (iY p1.isList p2)
  |obj C ks ps=>unfold dep at dq;omega
  |opq b=>unfold dep at dq;omega
  |dct b=>unfold dep at dq;omega
  |dcw b=>unfold dep at dq;omega
  |_=>unfold Rep at k;cases k
 |.obj C ks ps,q,v,dp,dq,h,k=>by unfold dep at dp;omega
 |.opq a,q,v,dp,dq,h,k=>by unfold dep at dp;omega
 |.dct a,q,v,dp,dq,h,k=>by unfold dep at dp;omega
 |.dcw a,q,v,dp,dq,h,k=>by unfold dep at dp;omega
theorem RepL.inj(I:Inv X pins σ H s)(J:Same F H):∀{ps G:List PV}{vs:List V},depL ps<1000->depL G<1000->RepL X.K F ps vs->RepL X.K F G vs->ps=G
 |[],G,vs,dp,dq,h,k=>by
  unfold RepL at h;subst h;cases G with
  |nil=>rfl
  |cons q G=>unfold RepL at k;obtain⟨_,_,k,_⟩:=k;cases k
 |p::ps,G,vs,dp,dq,h,k=>by
  unfold RepL at h;obtain⟨v,r,rfl,h2,j⟩:=h;cases G with
  |nil=>unfold RepL at k;cases k
  |cons q G =>
   unfold RepL at k;obtain⟨m,B,e,k2,k3⟩:=k;cases e;unfold depL at dp dq;rw[Rep.inj I J (by omega) (by omega) h2 k2,RepL.inj I J (by omega) (by omega) j k3]
end
def eqAt_rep(I:Inv X pins σ H s)(O:Same F H):∀(n:Nat)(A:bG)(p q:PV)(v u:V)(x y:Value),dep p<=n->n<=900->dep q<1000->A.units+n<gd->Rep X.K F p v->Rep X.K F q u->RelV v x->RelV u y->ki A s x y (peq p q):=by
 intro n;induction n with
 |zero =>
  intro A p q v u x y hd hn B hu L m T E;cases p with
  |tup xs=>unfold dep at hd;omega
  |lst xs=>unfold dep at hd;omega
  |obj C ks ps=>unfold dep at hd;omega
  |opq b=>unfold dep at hd;omega
  |dct b=>unfold dep at hd;omega
  |dcw b=>unfold dep at hd;omega
  |non =>
   unfold Rep at L;subst L;cases T;cases q with
   |obj D ls qs=>unfold dep at B;omega
   |opq b=>unfold dep at B;omega
   |dct b=>unfold dep at B;omega
   |dcw b=>unfold dep at B;omega
   |non=>unfold Rep at m;subst m;cases E;exact jL _
   |bl b=>unfold Rep at m;subst m;cases E;exact ki.none_bool b
   |int b=>unfold Rep at m;subst m;obtain⟨t,rfl⟩:=E;exact ki.none_int b t
   |str b=>unfold Rep at m;subst m;obtain⟨t,rfl⟩:=E;exact ki.none_str b t
   |tup ys =>
    unfold Rep at m;obtain⟨b,us,rfl,k2,k3⟩:=m;cases E;obtain⟨G,_,p1,_⟩:=I.tuple (O.seqT k2);exact ki.none_tuple p1 (by omega)
   |lst ys =>
    unfold Rep at m;obtain⟨b,us,rfl,k2,k3⟩:=m;cases E;obtain⟨G,_,p1,_⟩:=I.list (O.seq k2);exact ki.none_list p1.isList (by omega)
  |bl a =>
   unfold Rep at L;subst L;cases T;cases q with
   |obj D ls qs=>unfold dep at B;omega
   |opq b=>unfold dep at B;omega
   |dct b=>unfold dep at B;omega
   |dcw b=>unfold dep at B;omega
   |non=>unfold Rep at m;subst m;cases E;exact ki.bool_none a
   |bl b=>unfold Rep at m;subst m;cases E;exact ki.bool_bool a b
   |int b=>unfold Rep at m;subst m;obtain⟨t,rfl⟩:=E;exact ki.bool_int a b t
   |str b=>unfold Rep at m;subst m;obtain⟨t,rfl⟩:=E;exact ki.bool_str a b t
   |tup ys =>
    unfold Rep at m;obtain⟨b,us,rfl,k2,k3⟩:=m;cases E;obtain⟨G,_,p1,_⟩:=I.tuple (O.seqT k2);exact ki.bool_tuple a p1 (by omega)
   |lst ys =>
    unfold Rep at m;obtain⟨b,us,rfl,k2,k3⟩:=m;cases E;obtain⟨G,_,p1,_⟩:=I.list (O.seq k2);exact ki.bool_list a p1.isList (by omega)
  |int a =>
   unfold Rep at L;subst L;obtain⟨t',rfl⟩:=T;cases q with
   |obj D ls qs=>unfold dep at B;omega
   |opq b=>unfold dep at B;omega
   |dct b=>unfold dep at B;omega
   |dcw b=>unfold dep at B;omega
   |non=>unfold Rep at m;subst m;cases E;exact ki.int_none a t'
   |bl b=>unfold Rep at m;subst m;cases E;exact ki.int_bool a t' b
   |int b=>unfold Rep at m;subst m;obtain⟨t,rfl⟩:=E;exact ki.int_int a t' b t
   |str b=>unfold Rep at m;subst m;obtain⟨t,rfl⟩:=E;exact ki.int_str a t' b t
   |tup ys =>
    unfold Rep at m;obtain⟨b,us,rfl,k2,k3⟩:=m;cases E;obtain⟨G,_,p1,_⟩:=I.tuple (O.seqT k2);exact ki.int_tuple a t' p1 (by omega)
   |lst ys =>
    unfold Rep at m;obtain⟨b,us,rfl,k2,k3⟩:=m;cases E;obtain⟨G,_,p1,_⟩:=I.list (O.seq k2);exact ki.int_list a t' p1.isList (by omega)
  |str a =>
   unfold Rep at L;subst L;obtain⟨t',rfl⟩:=T;cases q with
   |obj D ls qs=>unfold dep at B;omega
   |opq b=>unfold dep at B;omega
   |dct b=>unfold dep at B;omega
   |dcw b=>unfold dep at B;omega
   |non=>unfold Rep at m;subst m;cases E;exact ki.str_none a t'
   |bl b=>unfold Rep at m;subst m;cases E;exact ki.str_bool a t' b
   |int b=>unfold Rep at m;subst m;obtain⟨t,rfl⟩:=E;exact ki.str_int a t' b t
   |str b=>unfold Rep at m;subst m;obtain⟨t,rfl⟩:=E;exact ki.str_str a t' b t
   |tup ys =>
    unfold Rep at m;obtain⟨b,us,rfl,k2,k3⟩:=m;cases E;obtain⟨G,_,p1,_⟩:=I.tuple (O.seqT k2);exact ki.str_tuple a t' p1 (by omega)
   |lst ys =>
    unfold Rep at m;obtain⟨b,us,rfl,k2,k3⟩:=m;cases E;obtain⟨G,_,p1,_⟩:=I.list (O.seq k2);exact ki.str_list a t' p1.isList (by omega)
 |succ n ih =>
  intro A p q v u x y hd hn B hu L m T E;by_cases hd0:dep p<=n
  .exact ih A p q v u x y hd0 (by omega) B (by omega) L m T E
  .have M:A.units<gd:=by omega
   cases p with
   |tup xs =>
    unfold Rep at L;obtain⟨a,vs,rfl,h2,U⟩:=L;cases T;have Y:depL xs<=n:=by unfold dep at hd;omega
    obtain⟨G,rv,p1,z1⟩:=I.tuple (O.seqT h2);cases q with
    |obj D ls qs=>unfold dep at B;omega
    |opq b=>unfold dep at B;omega
    |dct b=>unfold dep at B;omega
    |dcw b=>unfold dep at B;omega
    |non=>unfold Rep at m;subst m;cases E;exact ki.tuple_none p1 M
    |bl b=>unfold Rep at m;subst m;cases E;exact ki.tuple_bool b p1 M
    |int b=>unfold Rep at m;subst m;obtain⟨t,rfl⟩:=E;exact ki.tuple_int b t p1 M
    |str b=>unfold Rep at m;subst m;obtain⟨t,rfl⟩:=E;exact ki.tuple_str b t p1 M
    |lst ys =>
     unfold Rep at m;obtain⟨b,us,rfl,k2,k3⟩:=m;cases E;obtain⟨J,_,p2,_⟩:=I.list (O.seq k2);exact ki.tuple_list p1 p2.isList M
    |tup ys =>
     unfold Rep at m;obtain⟨b,us,rfl,k2,k3⟩:=m;cases E;obtain⟨J,ru,p2,z2⟩:=I.tuple (O.seqT k2);change ki _ _ _ _ (peqL xs ys);by_cases Q:a=b
     .subst Q;have e:=I.tuple_inj (O.seqT h2) (O.seqT k2);subst e;rw[RepL.inj I O (by omega) (by unfold dep at B;omega) U k3,YM];exact jL _
     .have l1:G.toArray.size=xs.length:=by rw[aF,<-rv.length,U.length]
      have l2:J.toArray.size=ys.length:=by rw[aF,<-ru.length,k3.length]
      have key:=SeqAt.RcAt.tuples (A:=A) (s:=s) (e:=eAt xs ys) p1 p2 M λj j1 j2=>?_
      .rw[l1,l2,QaH]at key;exact iV Q key
      .have j1':j<xs.length:=by rw[<-l1];exact j1
       have j2':j<ys.length:=by rw[<-l2];exact j2
       have e1:xs[j]?=some xs[j]:=by simp[j1']
       have e2:ys[j]?=some ys[j]:=by simp[j2']
       obtain⟨v1,ev1,rp1⟩:=U.get e1;obtain⟨v2,ev2,rp2⟩:=k3.get e2;obtain⟨w1,ew1,rw1⟩:=rv.get ev1;obtain⟨w2,ew2,rw2⟩:=ru.get ev2;have q1:G.toArray[j]=w1:=by simpa using (al.mp ew1).2
       have q2:J.toArray[j]=w2:=by simpa using (al.mp ew2).2
       have e3:eAt xs ys j=peq xs[j] ys[j]:=by unfold eAt;rw[e1,e2]
       rw[q1,q2,e3];exact ih A.in1 _ _ v1 v2 w1 w2 (aS (QbC e1) Y) (by omega) (by have:=QbC e2;unfold dep at B;omega) (by show A.units+1+n<gd;omega) rp1 rp2 rw1 rw2
   |lst xs =>
    unfold Rep at L;obtain⟨a,vs,rfl,h2,U⟩:=L;cases T;have Y:depL xs<=n:=by unfold dep at hd;omega
    obtain⟨G,rv,p1,z1⟩:=I.list (O.seq h2);cases q with
    |obj D ls qs=>unfold dep at B;omega
    |opq b=>unfold dep at B;omega
    |dct b=>unfold dep at B;omega
    |dcw b=>unfold dep at B;omega
    |non=>unfold Rep at m;subst m;cases E;exact ki.list_none p1.isList M
    |bl b=>unfold Rep at m;subst m;cases E;exact ki.list_bool b p1.isList M
    |int b=>unfold Rep at m;subst m;obtain⟨t,rfl⟩:=E;exact ki.list_int b t p1.isList M
    |str b=>unfold Rep at m;subst m;obtain⟨t,rfl⟩:=E;exact ki.list_str b t p1.isList M
    |tup ys =>
     unfold Rep at m;obtain⟨b,us,rfl,k2,k3⟩:=m;cases E;obtain⟨J,_,p2,_⟩:=I.tuple (O.seqT k2);exact ki.list_tuple p1.isList p2 M
    |lst ys =>
     unfold Rep at m;obtain⟨b,us,rfl,k2,k3⟩:=m;cases E;obtain⟨J,ru,p2,z2⟩:=I.list (O.seq k2);change ki _ _ _ _ (peqL xs ys);by_cases Q:a=b
     .subst Q;have e:=I.list_inj (O.seq h2) (O.seq k2);subst e;rw[RepL.inj I O (by omega) (by unfold dep at B;omega) U k3,YM];exact jL _
     .have l1:G.toArray.size=xs.length:=by rw[aF,<-rv.length,U.length]
      have l2:J.toArray.size=ys.length:=by rw[aF,<-ru.length,k3.length]
      by_cases hl:xs.length=ys.length
      .have key:=SeqAt.RcAt.lists (A:=A) (s:=s) (e:=eAt xs ys) p1.isList p2.isList (by rw[l1,l2,hl]) M λj j1 j2=>?_
       .have e5:=QaH xs ys;rw[<-hl,Nat.min_self,iL,Bool.and_true]at e5;rw[l1,e5]at key;exact iV Q key
       .have j1':j<xs.length:=by rw[<-l1];exact j1
        have j2':j<ys.length:=by rw[<-l2];exact j2
        have e1:xs[j]?=some xs[j]:=by simp[j1']
        have e2:ys[j]?=some ys[j]:=by simp[j2']
        obtain⟨v1,ev1,rp1⟩:=U.get e1;obtain⟨v2,ev2,rp2⟩:=k3.get e2;obtain⟨w1,ew1,rw1⟩:=rv.get ev1;obtain⟨w2,ew2,rw2⟩:=ru.get ev2;have q1:G.toArray[j]=w1:=by simpa using (al.mp ew1).2
        have q2:J.toArray[j]=w2:=by simpa using (al.mp ew2).2
        have e3:eAt xs ys j=peq xs[j] ys[j]:=by unfold eAt;rw[e1,e2]
        rw[q1,q2,e3];exact ih A.in1 _ _ v1 v2 w1 w2 (aS (QbC e1) Y) (by omega) (by have:=QbC e2;unfold dep at B;omega) (by show A.units+1+n<gd;omega) rp1 rp2 rw1 rw2
      .have e5:=QaH xs ys;rw[(cv (a:=xs.length) (b:=ys.length)).mpr hl,gY]at e5;rw[<-e5];exact iV Q (SeqAt.RcAt.lists_lengths p1.isList p2.isList (by rw[l1,l2];simpa using hl) M)
   |obj C ks ps=>unfold dep at hd;omega
   |opq b=>unfold dep at hd;omega
   |dct b=>unfold dep at hd;omega
   |dcw b=>unfold dep at hd;omega
   |_=>unfold dep at hd0;omega
mutual
def toD:PV->PyData
 |.non=>.none
 |.bl b=>.bool b
 |.int i=>.int i
 |.str x=>.str x
 |.tup xs=>.tuple (toDL xs)
 |.lst xs=>.list (toDL xs)
 |.obj _ _ _=>.none
 |.opq _=>.none
 |.dct _=>.none
 |.dcw _=>.none
def toDL:List PV->List PyData
 |[]=>[]
 |x::xs=>toD x::toDL xs
end
mutual
def okS:PV->Bool
 |.str x=>aW x
 |.tup xs=>okSL xs
 |.lst xs=>okSL xs
 |_=>true
def okSL:List PV->Bool
 |[]=>true
 |x::xs=>okS x&&okSL xs
end
def okv(p:PV):Bool:=decide (dep p<=50)&&okS p
mutual
theorem Qfy:∀p:PV,okS p=true->(toD p).canLay0=true
 |.non,_=>by simp[toD,cT]
 |.bl _,_=>by simp[toD,cT]
 |.int _,_=>by simp[toD,cT]
 |.str x,h=>by simpa[toD,cT,okS] using h
 |.tup xs,h=>by
  unfold toD cT;exact Qbq xs (by simpa[okS] using h)
 |.lst xs,h=>by
  unfold toD cT;exact Qbq xs (by simpa[okS] using h)
 |.obj _ _ _,_=>by simp[toD,cT]
 |.opq _,_=>by simp[toD,cT]
 |.dct _,_=>by simp[toD,cT]
 |.dcw _,_=>by simp[toD,cT]
theorem Qbq:∀xs:List PV,okSL xs=true->jc (toDL xs)=true
 |[],_=>by simp[toDL,jc]
 |x::xs,h=>by
  unfold okSL at h;rw[aD]at h;unfold toDL jc;rw[Qfy x h.1,Qbq xs h.2];rfl
end
mutual
theorem QhJ:∀p:PV,(toD p).depth<=dep p+1
 |.non=>by simp[toD,dA]
 |.bl _=>by simp[toD,dA]
 |.int _=>by simp[toD,dA]
 |.str x=>by simp[toD,dA]
 |.tup xs=>by
  have:=Qcq xs;simp only[toD,dA,dep];omega
 |.lst xs=>by
  have:=Qcq xs;simp only[toD,dA,dep];omega
 |.obj _ _ _=>by simp[toD,dA]
 |.opq _=>by simp[toD,dA]
 |.dct _=>by simp[toD,dA]
 |.dcw _=>by simp[toD,dA]
theorem Qcq:∀xs:List PV,jO (toDL xs)<=depL xs+1
 |[]=>by simp[toDL,jO]
 |x::xs=>by
  have h1:=QhJ x;have h2:=Qcq xs;simp only[toDL,jO,depL];omega
end
def QaF(h:okv p=true):SeqAt.shaped (toD p)=true:=by
 unfold okv at h;rw[aD,ce]at h;have h1:=QhJ p;unfold SeqAt.shaped;rw[Qfy p h.2,ij,ce];lia
mutual
theorem QiE:∀p q:PV,dep p<1000->dep q<1000->PyData.eqv (toD p) (toD q)=peq p q
 |.non,q,_,j=>by cases q<;>first | (rfl;done) | (exfalso;unfold dep at j;omega)
 |.bl _,q,_,j=>by cases q<;>first | (rfl;done) | (exfalso;unfold dep at j;omega)
 |.int _,q,_,j=>by cases q<;>first | (rfl;done) | (exfalso;unfold dep at j;omega)
 |.str _,q,_,j=>by cases q<;>first | (rfl;done) | (exfalso;unfold dep at j;omega)
 |.tup xs,q,m,j=>by
  cases q with
  |tup ys=>exact Qgq xs ys (by unfold dep at m;omega) (by unfold dep at j;omega)
  |obj=>exfalso;unfold dep at j;omega
  |opq=>exfalso;unfold dep at j;omega
  |dct=>exfalso;unfold dep at j;omega
  |dcw=>exfalso;unfold dep at j;omega
  |_=>rfl
 |.lst xs,q,m,j=>by
  cases q with
  |lst ys=>exact Qgq xs ys (by unfold dep at m;omega) (by unfold dep at j;omega)
  |obj=>exfalso;unfold dep at j;omega
  |opq=>exfalso;unfold dep at j;omega
  |dct=>exfalso;unfold dep at j;omega
  |dcw=>exfalso;unfold dep at j;omega
  |_=>rfl
 |.obj _ _ _,q,m,_=>by exfalso;unfold dep at m;omega
 |.opq _,q,m,_=>by exfalso;unfold dep at m;omega
 |.dct _,q,m,_=>by exfalso;unfold dep at m;omega
 |.dcw _,q,m,_=>by exfalso;unfold dep at m;omega
theorem Qgq:∀xs ys:List PV,depL xs<1000->depL ys<1000->PyData.eqvAll (toDL xs) (toDL ys)=peqL xs ys
 |[],[],_,_=>rfl
 |[],_::_,_,_=>rfl
 |_::_,[],_,_=>rfl
 |x::xs,y::ys,h1,h2=>by
  show(PyData.eqv (toD x) (toD y)&&PyData.eqvAll (toDL xs) (toDL ys))=(peq x y&&peqL xs ys);unfold depL at h1 h2;rw[QiE x y (by omega) (by omega),Qgq xs ys (by omega) (by omega)]
end
mutual
theorem Rep.reads(I:Inv X pins σ H s)(G:Same F H):∀{p:PV}{v:V}{u:Value},dep p<1000->Rep X.K F p v->RelV v u->∃as,Reads s.heap u (toD p) as
 |.non,v,u,_,h,r=>by unfold Rep at h;subst h;cases r;exact⟨_,by unfold toD;exact .none⟩
 |.bl b,v,u,_,h,r=>by unfold Rep at h;subst h;cases r;exact⟨_,by unfold toD;exact .bool b⟩
 |.int b,v,u,_,h,r=>by unfold Rep at h;subst h;obtain⟨t,rfl⟩:=r;exact⟨_,by unfold toD;exact .int b t⟩
 |.str b,v,u,_,h,r=>by unfold Rep at h;subst h;obtain⟨t,rfl⟩:=r;exact⟨_,by unfold toD;exact .str b t⟩
 |.tup xs,v,u,j,h,r=>by
  unfold Rep at h;obtain⟨a,vs,rfl,h2,m⟩:=h;cases r;obtain⟨B,D,⟨o,ho,hc,n,hd⟩,_⟩:=I.tuple (G.seqT h2);obtain⟨as,E⟩:=RepL.reads I G (by unfold dep at j;omega) m D;unfold toD;exact⟨_,.tuple ho hc hd (by simpa using E)⟩
 |.lst xs,v,u,j,h,r=>by
  unfold Rep at h;obtain⟨a,vs,rfl,h2,m⟩:=h;cases r;obtain⟨B,D,⟨o,n,ho,hc,_,hd⟩,_⟩:=I.list (G.seq h2);obtain⟨as,E⟩:=RepL.reads I G (by unfold dep at j;omega) m D;unfold toD;exact⟨_,.list ho hc hd (by simpa using E)⟩
 |.obj _ _ _,v,u,j,_,_=>by exfalso;unfold dep at j;omega
 |.opq _,v,u,j,_,_=>by exfalso;unfold dep at j;omega
 |.dct _,v,u,j,_,_=>by exfalso;unfold dep at j;omega
 |.dcw _,v,u,j,_,_=>by exfalso;unfold dep at j;omega
theorem RepL.reads(I:Inv X pins σ H s)(G:Same F H):∀{ps:List PV}{vs:List V}{us:List Value},depL ps<1000->RepL X.K F ps vs->Vals vs us->∃as,ReadsAll s.heap us (toDL ps) as
 |[],vs,us,_,h,r=>by
  unfold RepL at h;subst h;cases r;exact⟨[],by unfold toDL;exact .nil⟩
 |p::ps,vs,us,j,h,r=>by
  unfold depL at j;unfold RepL at h;obtain⟨v,t,rfl,h2,m⟩:=h;cases r with
  |cons B D =>
   obtain⟨L,E⟩:=Rep.reads I G (by omega) h2 B;obtain⟨M,J⟩:=RepL.reads I G (by omega) m D;unfold toDL;exact⟨_,.cons E J⟩
end
def Qbh(h:okv p=true):dep p<1000:=by
 grind[okv]
def pEq(p q:PV):Option PV:=if okv p=true/\okv q=true then some (.bl (peq p q)) else none
def pNe(p q:PV):Option PV:=if okv p=true/\okv q=true then some (.bl (!peq p q)) else none
def QF(G:X.A.units+64<gd):OpM X (bE .Eq) pEq:=by
 intro pins s σ H x y v u Q I B D h;obtain⟨F,p,q,r,h1,h2,E,J,w⟩:=h;obtain⟨⟨j,m⟩,rfl⟩:=Qt J;obtain⟨as,L⟩:=Rep.reads I h1 (Qbh j) h2 B;obtain⟨bs,rb⟩:=Rep.reads I h1 (Qbh m) E D;refine eq_dataH L rb (QaF j) (QaF m) G ?_;rw[QiE _ _ (Qbh j) (Qbh m)];exact⟨.bl _,H,I,rfl,w.here h1 (Ya _)⟩
def Qia(G:X.A.units+64<gd):OpM X (bE .NotEq) pNe:=by
 intro pins s σ H x y v u Q I B D h;obtain⟨F,p,q,r,h1,h2,E,J,w⟩:=h;obtain⟨⟨j,m⟩,rfl⟩:=Qt J;obtain⟨as,L⟩:=Rep.reads I h1 (Qbh j) h2 B;obtain⟨bs,rb⟩:=Rep.reads I h1 (Qbh m) E D;refine ne_dataH L rb (QaF j) (QaF m) G ?_;rw[QiE _ _ (Qbh j) (Qbh m)];exact⟨.bl _,H,I,rfl,w.here h1 (Ya _)⟩
end
section
variable{X:Cx}{e a b c:Expr}{es:List Expr}{ms ns ls:List Nat}{m m1 m2 m3:MEx}{pos:Pos}
theorem QnM:∀{G:List Value}{xs:List PV} f,G.length=xs.length->∀g ,(∀(j:Nat) u p,G[j]?=some u->xs[j]?=some p->g u=f p)->G.any g=xs.any f
 |[],[],_,_,_,_=>rfl
 |[],_::_,_,h,_,_=>by simp at h
 |_::_,[],_,h,_,_=>by simp at h
 |u::us,p::ps,f,h,g,k=>by
  rw[fX,fX,k 0 u p rfl rfl,QnM f (by simpa using h) g λj u p h1 h2=>k (j+1) u p (by simpa using h1) (by simpa using h2)]
open Classical in
def gOf(G:List Value)(xs:List PV)(x:PV)(u:Value):Bool:=if h:∃(j:Nat)(p:PV),G[j]?=some u/\xs[j]?=some p then peq (lQ (eO h)) x else false
def pIn:PV->PV->Option PV
 |x,.lst xs=>if okv x=true/\xs.all okv=true then some (.bl (xs.any λy=>peq y x)) else none
 |x,.tup xs=>if okv x=true/\xs.all okv=true then some (.bl (xs.any λy=>peq y x)) else none
 |_,_=>none
def Qat(x y:PV):Option PV:=(pIn x y).bind λr=>match r with
 |.bl b=>some (.bl (!b))
 |_=>none
def okv_dep(h:okv p=true):dep p<=50:=by
 unfold okv at h;rw[aD,ce]at h;exact h.1
def QiZ(I:Inv X pins σ H s)(Y:Same F H)(hu:A.units+60<gd)(ok:xs.all okv=true)(U:okv x=true)(hx:Rep X.K F x xv)(rx:RelV xv xu)(J:RepL X.K F xs vs)(O:Vals vs G) :
  (∀u∈G,ki A s u xu (gOf G xs x u))/\G.any (gOf G xs x)=xs.any λy=>peq y x:=by
 have len:G.length=xs.length:=by rw[<-O.length,J.length]
 have inj:∀j k u p q,G[j]?=some u->xs[j]?=some p->G[k]?=some u->xs[k]?=some q->p=q:=λj k u p q h1 h2 h3 M=>by
  obtain⟨Q,e1,B⟩:=J.get h2;obtain⟨v2,e2,r2⟩:=J.get M;obtain⟨w1,f1,t1⟩:=O.get e1;obtain⟨w2,f2,t2⟩:=O.get e2;rw[h1]at f1;rw[h3]at f2;cases f1;cases f2;have ev:=t1.inj t2;subst ev;have hd:∀j p,xs[j]?=some p->dep p<1000:=λj p h=>by
   have z:=aV.mp ok p (dh h);unfold okv at z;rw[aD,ce]at z;omega
  exact Rep.inj I Y (hd _ _ h2) (hd _ _ M) B r2
 have val:∀j u p,G[j]?=some u->xs[j]?=some p->gOf G xs x u=peq p x:=λj u p h1 h2=>by
  have h:∃(j:Nat)(p:PV),G[j]?=some u/\xs[j]?=some p:=⟨j,p,h1,h2⟩
  unfold gOf;rw[dif_pos h];have hs:=eO (eO h);rw[inj _ _ u _ _ hs.1 hs.2 h1 h2]
 refine⟨λu D=>?_,QnM (λy=>peq y x) len _ λj u p h1 h2=>val j u p h1 h2⟩;obtain⟨j,E⟩:=j4.mp D;have m:j<xs.length:=by rw[<-len];exact(al.mp E).1
 have e1:xs[j]?=some xs[j]:=by simp[m]
 rw[val j u _ E e1];obtain⟨Q,f1,B⟩:=J.get e1;obtain⟨w1,T,t1⟩:=O.get f1;rw[E]at T;cases T;have L :=aV.mp ok _ (bZ m);exact eqAt_rep I Y 50 A _ _ Q xv _ _ (okv_dep L) (by omega) (Qbh U) (by omega) B hx t1 rx
def Qnc(h:pIn x y=some r):∃xs,(y = .lst xs\/y = .tup xs)/\okv x=true/\xs.all okv=true/\r = .bl (xs.any λy=>peq y x):=by
 cases y with
 |lst xs =>
  obtain⟨⟨j,m⟩,rfl⟩:=Qt h;exact⟨xs,.inl rfl,j,m,rfl⟩
 |tup xs =>
  obtain⟨⟨j,m⟩,rfl⟩:=Qt h;exact⟨xs,.inr rfl,j,m,rfl⟩
 |_=>cases h
def Qma(hu:X.A.units+64<gd):OpM X (bE .In) pIn:=by
 intro pins s σ H x y v u Q I J L h;obtain⟨F,p,q,r,h1,h2,M,U,w⟩:=h;obtain⟨xs,Y,O,T,rfl⟩:=Qnc U;have B:X.A.in1.units+60<gd:=by show X.A.units+1+60<gd;omega
 rcases Y with rfl | rfl
 .obtain⟨a,vs,rfl,k2,k3⟩:=M;cases L;obtain⟨j,D,E,_⟩:=I.list (h1.seq k2);obtain⟨he,m⟩:=QiZ I h1 B T O h2 J k3 D;refine SeqAt.in_listAt (gOf j xs p) E.isList (λy G=>he y (by simpa using G)) ⟨.bl _,H,I,rfl,?_⟩;rw[show j.toArray.any (gOf j xs p)=j.any (gOf j xs p) by simp,m];exact w.here h1 (Ya _)
 .obtain⟨a,vs,rfl,k2,k3⟩:=M;cases L;obtain⟨j,D,E,_⟩:=I.tuple (h1.seqT k2);obtain⟨he,m⟩:=QiZ I h1 B T O h2 J k3 D;refine SeqAt.in_tupleAt (gOf j xs p) E (λy G=>he y (by simpa using G)) ⟨.bl _,H,I,rfl,?_⟩;rw[show j.toArray.any (gOf j xs p)=j.any (gOf j xs p) by simp,m];exact w.here h1 (Ya _)
def Qkp(Y:X.A.units+64<gd):OpM X (bE .NotIn) Qat:=by
 intro pins s σ H x y v u Q I J L h;obtain⟨F,p,q,r,h1,h2,M,D,w⟩:=h;unfold Qat at D;cases e:pIn p q with
 |none=>grind
 |some r0 =>
  rw[e]at D;obtain⟨xs,U,O,T,rfl⟩:=Qnc e;cases D;have B:X.A.in1.units+60<gd:=by grind
  rcases U with rfl | rfl
  .obtain⟨a,vs,rfl,k2,k3⟩:=M;cases L;obtain⟨j,E,G,_⟩:=I.list (h1.seq k2);obtain⟨he,m⟩:=QiZ I h1 B T O h2 J k3 E;refine SeqAt.notIn_listAt (gOf j xs p) G.isList (by grind) ⟨.bl _,H,I,rfl,?_⟩;rw[show j.toArray.any (gOf j xs p)=j.any (gOf j xs p) by simp,m];exact w.here h1 (Ya _)
  .obtain⟨a,vs,rfl,k2,k3⟩:=M;cases L;obtain⟨j,E,G,_⟩:=I.tuple (h1.seqT k2);obtain⟨he,m⟩:=QiZ I h1 B T O h2 J k3 E;refine SeqAt.notIn_tupleAt (gOf j xs p) G (by grind) ⟨.bl _,H,I,rfl,?_⟩;rw[show j.toArray.any (gOf j xs p)=j.any (gOf j xs p) by simp,m];exact w.here h1 (Ya _)
def isN:PV->Bool
 |.non=>true
 |_=>false
def pIx:PV->PV->Option PV
 |.lst xs,.int i=>atI xs i
 |.tup xs,.int i=>atI xs i
 |.str z,.int i=>if z.length<=LIM then (atI z.cps.toList i).map λc=>.str ⟨#[c]⟩ else none
 |_,_=>none
def QnK{K:ac}(h:RepL K F xs vs)(e:atI xs i=some r):∃v,atI vs i=some v/\Rep K F r v:=by
 unfold atI at e |-;rw[h.length];cases q:ixN xs.length i with
 |none=>grind
 |some j =>
  rw[q]at e;exact h.get e
def QaO:IxR X (rM2 X.K pIx):=by
 intro value slice pins s σ H x y v u Q I m B h hs;obtain⟨F,p,q,r,h1,h2,D,j,w⟩:=h;cases p<;>cases q<;>first
  | (exfalso;cases j;done)
  |skip
 .rename_i z i;have j:(if z.length<=LIM then (atI z.cps.toList i).map λc=>PV.str ⟨#[c]⟩ else none)=some r:=j;by_cases c:z.length<=LIM
  .rw[ak c]at j;cases e:atI z.cps.toList i with
   |none=>rw[e]at j;cases j
   |some k =>
    rw[e]at j;cases j;exact ix_str value slice pins s σ H x y v u Q I m B ⟨z,i,k,h2,D,aS c QU,e,w.here h1 (Xa _)⟩ hs
  .rw[ar c]at j;cases j
 .rename_i xs i;obtain⟨a,vs,rfl,k2,k3⟩:=h2;obtain⟨E,e1,e2⟩:=QnK k3 j;exact ix_tup value slice pins s σ H _ y v u Q I m B ⟨a,vs,i,E,rfl,D,h1.seqT k2,e1,w.here h1 e2⟩ hs
 .rename_i xs i;obtain⟨a,vs,rfl,k2,k3⟩:=h2;obtain⟨E,e1,e2⟩:=QnK k3 j;exact ix_list value slice pins s σ H _ y v u Q I m B ⟨a,vs,i,E,rfl,D,h1.seq k2,e1,w.here h1 e2⟩ hs
end
section
variable{X:Cx}{e a b c:Expr}{es:List Expr}{ms ns ls:List Nat}{m m1 m2 m3:MEx}{pos p2:Pos}
def Qe{α G:Type}{x:Option α}{f:α->Option G}{r:G}(h:x.bind f=some r):∃y,x=some y/\f y=some r:=by
 cases x with
 |none=>cases h
 |some y=>exact⟨y,rfl,h⟩
def QN(h:x.map f=some r):∃y,x=some y/\f y=r:=by
 simp_all
def OM(X:Cx)(ms:List Nat)(e:Option Expr)(m:PEnv->Option (Option Int)):Prop :=
 PO X e λσ H Q=>∃F γ r,Same F H/\ERep X.K F σ γ ms/\m γ=some r/\∀H' F',Grow F H F' H'->Q r H'
def mNo:PEnv->Option (Option Int):=λ_=>some none
def pInt:PV->Option (Option Int)
 |.int i=>some (some i)
 |_=>none
def mSo(m:MEx):PEnv->Option (Option Int):=λγ=>(m γ).bind pInt
def Yl:OM X [] none mNo:=λpins s σ H Q I ⟨F,γ,r,h1,h2,j,w⟩=>po_none pins s σ H Q I (by
 cases j;exact w H F (.refl h1))
def ZG(h:EM X ms e m):OM X ms (some e) (mSo m):=λpins s σ H Q I ⟨F,γ,r,h1,h2,j,w⟩=>po_some h pins s σ H Q I (by
 obtain⟨p,e1,e2⟩:=Qe j;refine⟨F,γ,p,h1,h2,e1,λv H' F' g q=>?_⟩;cases p with
 |int i =>
  cases e2;exact⟨i,q,w H' F' g⟩
 |_=>cases e2)
def cutP(xs:List α)(lo hi:Option Int):List α:=(xs.drop (HT.sIx xs.length 0 lo)).take (HT.sIx xs.length xs.length hi-HT.sIx xs.length 0 lo)
def pCut:PV->Option Int->Option Int->Option (List PV)
 |.lst xs,lo,hi=>some (cutP xs lo hi)
 |_,_,_=>none
def sl3(f:PV->Option Int->Option Int->Option α)(m:MEx)(ml mh:PEnv->Option (Option Int)):PEnv->Option α:=λγ=>(m γ).bind λx=>(ml γ).bind λl=>(mh γ).bind λh=>f x l h
variable{lo hi:Option Expr}{ml mh:PEnv->Option (Option Int)}
def Qda(he:EM X ms e m)(J:OM X ns lo ml)(O:OM X ls hi mh):EO X (ms++(ns++ls)) (.Subscript e (.Slice lo hi none p2) pos) (sl3 pCut m ml mh):=by
 refine PE.imp (Qgf sl_list he J O) λσ H Q ⟨F,γ,r,h1,h2,j,w⟩=>?_;obtain⟨x,e1,j⟩:=Qe j;obtain⟨l,e2,j⟩:=Qe j;obtain⟨h,e3,j⟩:=Qe j;refine⟨F,γ,x,h1,h2.left,e1,λU H1 I D L=>⟨I,γ,l,D.sub,h2.right.left.mono D.ext,e2,λH2 F2 E=>⟨F2,γ,h,E.sub,h2.right.right.mono (D.ext.trans E.ext),e3,λY M B=>?_⟩⟩⟩;have g:=D.trans (E.trans B);cases x with
 |lst xs =>
  cases j;obtain⟨a,vs,rfl,k2,k3⟩:=L;have gg:=E.ext.trans B.ext;refine⟨a,vs,rfl,B.sub.seq (gg.seq k2),λp G=>?_⟩;have T :=B.sub.free G;refine w p _ _ M (g.trans (.side B.sub G)) (g.same.free G) T Qk ?_;unfold cutV cutP;rw[k3.length];exact((k3.drop _).take _).mono gg
 |_=>cases j
variable{t1 t2:PEnv->Option Bool}{rest:List Expr}
def WM(X:Cx)(ms:List Nat)(e:Expr)(m:PEnv->Option Bool):Prop:=PW X e (tMT X.K ms m)
def WM.tm(h:WM X ms e t1):TM X ms e t1:=PW.pt h
def _root_.L2.PW.imp(h:PW X e t)(i:∀σ H Q,t' σ H Q->t σ H Q):PW X e t':=λwhole pins s σ H Q I q=>h whole pins s σ H Q I (i σ H Q q)
def YA(h:TM X ms a t1):WM X ms (.BoolOp .And [a] pos) t1:=pw_and1 h
def QcU(h:TM X ms a t1):WM X ms (.BoolOp .Or [a] pos) t1:=pw_or1 h
def bAnd(t1 t2:PEnv->Option Bool):PEnv->Option Bool:=λγ=>(t1 γ).bind λx=>if x=true then t2 γ else some false
def bOr(t1 t2:PEnv->Option Bool):PEnv->Option Bool:=λγ=>(t1 γ).bind λx=>if x=true then some true else t2 γ
def bNot(t1:PEnv->Option Bool):PEnv->Option Bool:=λγ=>(t1 γ).map not
def XD(h1:TM X ms a t1)(h2:WM X ns (.BoolOp .And (b::rest) pos) t2):WM X (ms++ns) (.BoolOp .And (a::b::rest) pos) (bAnd t1 t2) :=
 PW.imp (pw_and h1 h2) λσ H Q ⟨F,γ,r,k1,k2,k3,w⟩=>by
  obtain⟨x,e1,k3⟩:=Qe k3;refine⟨F,γ,x,k1,k2.left,e1,λH1 m j=>?_⟩;cases x with
  |true =>
   exact⟨m,γ,r,j.sub,k2.right.mono j.ext,k3,λH2 F2 B=>w H2 F2 (j.trans B)⟩
  |false =>
   grind
def QeM(h1:TM X ms a t1)(h2:WM X ns (.BoolOp .Or (b::rest) pos) t2):WM X (ms++ns) (.BoolOp .Or (a::b::rest) pos) (bOr t1 t2) :=
 PW.imp (pw_or h1 h2) λσ H Q ⟨F,γ,r,k1,k2,k3,w⟩=>by
  obtain⟨x,e1,k3⟩:=Qe k3;refine⟨F,γ,x,k1,k2.left,e1,λH1 m j=>?_⟩;cases x with
  |false =>
   exact⟨m,γ,r,j.sub,k2.right.mono j.ext,k3,λH2 F2 B=>w H2 F2 (j.trans B)⟩
  |true =>
   grind
def Qmi(h:TM X ms a t1):TM X ms (.UnaryOp .Not a pos) (bNot t1) :=
 PT.imp (pt_not h) λσ H Q ⟨F,γ,r,k1,k2,k3,w⟩=>by
  obtain⟨x,e1,k3⟩:=QN k3;subst k3;exact⟨F,γ,x,k1,k2,e1,w⟩
def tru:PV->Option Bool
 |.non=>some false
 |.bl b=>some b
 |.int i=>some (i != 0)
 |.str y=>if y.length<=LIM then some ((y.length:Int) != 0) else none
 |.tup xs=>some (!xs.isEmpty)
 |.lst xs=>some (!xs.isEmpty)
 |.obj _ _ _=>none
 |.opq _=>none
 |.dct _=>none
 |.dcw _=>none
def mTru(m:MEx):PEnv->Option Bool:=λγ=>(m γ).bind tru
def Qeq{K:ac}(h:RepL K F xs vs):vs.isEmpty=xs.isEmpty:=by
 have:=h.length;cases vs<;>cases xs<;>simp_all
def tru_rep{K:ac}(hs:Same F H)(h:Rep K F p v)(e:tru p=some k):TruV K v H k:=by
 cases p<;>unfold Rep at h
 .subst h;cases e;rfl
 .subst h;cases e;rfl
 .subst h;cases e;rfl
 .subst h;obtain⟨c,rfl⟩:=Qt e;exact⟨aS c QU,rfl⟩
 .obtain⟨a,vs,rfl,k2,k3⟩:=h;cases e;exact .inr (.inl ⟨vs,hs.seqT k2,by rw[Qeq k3]⟩)
 .obtain⟨a,vs,rfl,k2,k3⟩:=h;cases e;exact .inl ⟨vs,hs.seq k2,by rw[Qeq k3]⟩
 .cases e
 .cases e
 .cases e
 .cases e
def Xt(h:EM X ms e m)(he:∀whole,isTrue e X.env whole=(do let v <-whole;standAt e.pos;holding [v] (truthy v)):=by intro _;rfl):TM X ms e (mTru m) :=
 PT.imp (pt_truth h he) λσ H Q ⟨F,γ,r,k1,k2,k3,w⟩=>by
  obtain⟨p,e1,e2⟩:=Qe k3;exact⟨F,γ,p,k1,k2,e1,λv H' F' g q=>⟨r,tru_rep g.sub q e2,w H' F' g⟩⟩
def vAnd(m1 m2:MEx):MEx:=λγ=>(m1 γ).bind λx=>(isB x).bind λk=>if k=true then m2 γ else some (.bl false)
def vOr(m1 m2:MEx):MEx:=λγ=>(m1 γ).bind λx=>(isB x).bind λk=>if k=true then some (.bl true) else m2 γ
def vNot(m1:MEx):MEx:=λγ=>(m1 γ).bind λx=>(isB x).map λk=>.bl (!k)
def QfN{K:ac}(h:Rep K F p v)(e:isB p=some k):v = .bl k:=by
 cases p with
 |bl b=>cases e;exact h
 |_=>cases e
def Qjf(h:EM X ms a m):EM X ms (.BoolOp G [a] pos) m:=pe_one h
def QgW(h1:EM X ms a m1)(h2:EM X ns (.BoolOp .And (b::rest) pos) m2):EM X (ms++ns) (.BoolOp .And (a::b::rest) pos) (vAnd m1 m2) :=
 PE.imp (pe_and h1 h2) λσ H Q ⟨F,γ,r,k1,k2,k3,w⟩=>by
  obtain⟨x,e1,k3⟩:=Qe k3;obtain⟨k,e2,k3⟩:=Qe k3;refine⟨F,γ,x,k1,k2.left,e1,λv H1 m j q=>⟨k,QfN q e2,?_⟩⟩;cases k with
  |true =>
   exact⟨m,γ,r,j.sub,k2.right.mono j.ext,k3,w.go j⟩
  |false =>
   cases k3;exact(w.go j).here j.sub (Ya _)
def em_or(h1:EM X ms a m1)(h2:EM X ns (.BoolOp .Or (b::rest) pos) m2):EM X (ms++ns) (.BoolOp .Or (a::b::rest) pos) (vOr m1 m2) :=
 PE.imp (pe_or h1 h2) λσ H Q ⟨F,γ,r,k1,k2,k3,w⟩=>by
  obtain⟨x,e1,k3⟩:=Qe k3;obtain⟨k,e2,k3⟩:=Qe k3;refine⟨F,γ,x,k1,k2.left,e1,λv H1 m j q=>⟨k,QfN q e2,?_⟩⟩;cases k with
  |false =>
   exact⟨m,γ,r,j.sub,k2.right.mono j.ext,k3,w.go j⟩
  |true =>
   cases k3;exact(w.go j).here j.sub (Ya _)
def em_not(h1:EM X ms a m1):EM X ms (.UnaryOp .Not a pos) (vNot m1) :=
 PE.imp (pe_not h1) λσ H Q ⟨F,γ,r,k1,k2,k3,w⟩=>by
  obtain⟨x,e1,k3⟩:=Qe k3;obtain⟨k,e2,k3⟩:=QN k3;subst k3;exact⟨F,γ,x,k1,k2,e1,λv H1 m j q=>⟨k,QfN q e2,(w.go j).here j.sub (Ya _)⟩⟩
def mIfE(t:PEnv->Option Bool)(m1 m2:MEx):MEx:=λγ=>(t γ).bind λk=>if k=true then m1 γ else m2 γ
def Qpm(hc:TM X ls c t1)(G:EM X ms a m1)(J:EM X ns b m2):EM X (ls++(ms++ns)) (.IfExp c a b pos) (mIfE t1 m1 m2) :=
 PE.imp (pe_ifExp hc G J) λσ H Q ⟨F,γ,r,k1,k2,k3,w⟩=>by
  obtain⟨k,e1,k3⟩:=Qe k3;refine⟨F,γ,k,k1,k2.left,e1,λH1 m j=>?_⟩;cases k with
  |true =>
   exact⟨m,γ,r,j.sub,k2.right.left.mono j.ext,k3,w.go j⟩
  |false =>
   exact⟨m,γ,r,j.sub,k2.right.right.mono j.ext,k3,w.go j⟩
def ch3(f g:PV->PV->Option PV)(m1 m2 m3:MEx):MEx:=λγ=>(m1 γ).bind λx=>(m2 γ).bind λy=>(f x y).bind λz=>(isB z).bind λk=>if k=true then (m3 γ).bind λw=>g y w else some (.bl false)
def Qhh{K:ac}(h:tM K (ms++(ns++ls)) (ch3 f g m1 m2 m3) σ H Q):Qmj (rM2 K f) (rM2 K g) (tM K ms m1) (tM K ns m2) (tM K ls m3) σ H Q:=by
 obtain⟨F,γ,r,h1,h2,j,w⟩:=h;obtain⟨x,e1,j⟩:=Qe j;obtain⟨y,e2,j⟩:=Qe j;obtain⟨z,e3,j⟩:=Qe j;obtain⟨k,I,j⟩:=Qe j;refine⟨F,γ,x,h1,h2.left,e1,λvx H1 J m L=>⟨J,γ,y,m.sub,h2.right.left.mono m.ext,e2,λvy H2 F2 B G=>⟨F2,x,y,z,B.sub,L.mono B.ext,G,e3,λvz H3 M D O=>⟨k,QfN O I,?_⟩⟩⟩⟩;have gg:=m.trans (B.trans D);cases k with
 |true =>
  obtain⟨u,T,j⟩:=Qe j;exact⟨M,γ,u,D.sub,h2.right.right.mono gg.ext,T,λvw H4 U E Y=>⟨U,y,u,r,E.sub,G.mono (D.ext.trans E.ext),Y,j,w.go (gg.trans E)⟩⟩
 |false =>
  cases j;exact(w.go gg).here gg.sub (Ya _)
def em_chain(ho:OpM X (bE O) f)(J:OpM X (bE G) g)(U:EM X ms a m1)(Y:EM X ns b m2)(hc:EM X ls c m3)(hm:lu [O,G] [b,c]=false:=by with_unfolding_all rfl):EM X (ms++(ns++ls)) (.Compare a [O,G] [b,c] pos) (ch3 f g m1 m2 m3) :=
 PE.imp (pe_chain ho J U Y hc hm) λ_ _ _ h=>Qhh h
def tm_chain(ho:OpM X (bE O) f)(J:OpM X (bE G) g)(U:EM X ms a m1)(Y:EM X ns b m2)(hc:EM X ls c m3)(hm:lu [O,G] [b,c]=false:=by with_unfolding_all rfl):TM X (ms++(ns++ls)) (.Compare a [O,G] [b,c] pos) (truB (ch3 f g m1 m2 m3)) :=
 PT.imp (pt_chain ho J U Y hc hm) λ_ _ _ h=>Qka (λ_=>Qhh) h
def un1(f:PV->Option PV)(m:MEx):MEx:=λγ=>(m γ).bind f
def pNeg:PV->Option PV
 |.int i=>some (.int (-i))
 |_=>none
def QgU(h:EM X ms a m):EM X ms (.UnaryOp .USub a pos) (un1 pNeg m) :=
 PE.imp (pe_un un_neg h) λσ H Q ⟨F,γ,r,k1,k2,k3,w⟩=>by
  obtain⟨x,e1,k3⟩:=Qe k3;refine⟨F,γ,x,k1,k2,e1,λv H1 B j q=>?_⟩;cases x with
  |int i=>cases k3;exact⟨i,q,(w.go j).here j.sub (QL _)⟩
  |_=>cases k3
variable{ma:PEnv->Option (List PV)}
noncomputable def aNil:PEnv->Option (List PV):=λ_=>some []
def Qa(m:MEx)(ma:PEnv->Option (List PV)):PEnv->Option (List PV):=λγ=>(m γ).bind λx=>(ma γ).map (x :: ·)
def Qm:AM X [] [] aNil:=PA.imp Qbf λσ H Q ⟨F,γ,r,k1,k2,k3,w⟩=>by
 cases k3;exact w [] H F (.refl k1) .nil
def Qh(h:EM X ms e m)(G:AM X ns es ma)(hs:ai (e::es) X.env=(false,eval e X.env)::ai es X.env:=by rfl):AM X (ms++ns) (e::es) (Qa m ma) :=
 PA.imp (ZF h G hs) λσ H Q ⟨F,γ,r,k1,k2,k3,w⟩=>by
  obtain⟨x,e1,k3⟩:=Qe k3;obtain⟨xs,e2,k3⟩:=QN k3;subst k3;refine⟨F,γ,x,k1,k2.left,e1,λv H1 D j E=>⟨D,γ,xs,j.sub,k2.right.mono j.ext,e2,λvs H2 F2 B I=>?_⟩⟩;exact w (v::vs) H2 F2 (j.trans B) (.cons (E.mono B.ext) I)
def mLim(m:PEnv->Option (List PV)):PEnv->Option (List PV):=λγ=>(m γ).bind λxs=>if xs.length<=LIM then some xs else none
def mTup(m:PEnv->Option (List PV)):MEx:=λγ=>(m γ).bind λxs=>if xs.length<=LIM then some (.tup xs) else none
def Zw(h:AM X ms es ma):EM X ms (.Tuple es G pos) (mTup ma) :=
 PE.imp (pe_tup h) λσ H Q ⟨F,γ,r,k1,k2,k3,w⟩=>by
  obtain⟨xs,e1,k3⟩:=Qe k3;obtain⟨c,rfl⟩:=Qt k3;refine⟨F,γ,xs,k1,k2,e1,λvs H1 D j m=>⟨by rw[m.length];exact aS c QU,λp B=>?_⟩⟩;refine w _ _ _ (j.trans (.laid j.sub B)) ?_;exact⟨p,vs,rfl,.of Qk,m.mono (Grow.laid j.sub B).ext⟩
def QO(h:AM X ms es ma):EO X ms (.List es pos) (mLim ma) :=
 PE.imp (pe_lst h) λσ H Q ⟨F,γ,r,k1,k2,k3,w⟩=>by
  obtain⟨xs,e1,k3⟩:=Qe k3;obtain⟨c,rfl⟩:=Qt k3;refine⟨F,γ,xs,k1,k2,e1,λvs H1 D j B=>⟨by rw[B.length];grind[QU],λp m=>?_⟩⟩;exact w p vs _ D (j.trans (.side j.sub m)) (j.same.free m) (j.sub.free m) Qk B
def rMA(K:ac)(g:List PV->Option PV):List V->Hp->VK->Prop:=λvs H Q=>∃F ps r,Same F H/\RepL K F ps vs/\g ps=some r/\Wv K F H r Q
def rMAO(K:ac)(g:List PV->Option (List PV)):List V->Hp->VK->Prop:=λvs H Q=>∃F ps r,Same F H/\RepL K F ps vs/\g ps=some r/\Wo K F H r Q
def QgB(X:Cx)(f:Value)(g:List PV->Option PV):Prop:=Qah X f (rMA X.K g)
def Qic(X:Cx)(f:Value)(g:List PV->Option (List PV)):Prop:=Qah X f (rMAO X.K g)
def Qg(g:List PV->Option α)(ma:PEnv->Option (List PV)):PEnv->Option α:=λγ=>(ma γ).bind g
def tCB_of{K:ac}(h:tM K ms (Qg g ma) σ H Q):tCB (rMA K g) (tMA K ms ma) σ H Q:=by
 obtain⟨F,γ,r,k1,k2,k3,w⟩:=h;obtain⟨xs,e1,k3⟩:=Qe k3;exact⟨F,γ,xs,k1,k2,e1,λvs H1 m j B=>⟨m,xs,r,j.sub,B,k3,w.go j⟩⟩
def QmG{K:ac}(h:tMO K ms (Qg g ma) σ H Q):tCB (rMAO K g) (tMA K ms ma) σ H Q:=by
 obtain⟨F,γ,r,k1,k2,k3,w⟩:=h;obtain⟨xs,e1,k3⟩:=Qe k3;exact⟨F,γ,xs,k1,k2,e1,λvs H1 m j B=>⟨m,xs,r,j.sub,B,k3,w.go j⟩⟩
variable{x:Str}{p:Pos}{id T:String}
def Qam(hc:QgB X (.builtin id) g)(O:Gl X x)(hm:X.mg x=none)(U:cy x=some (.builtin id))(Y:AM X ms (e::es) ma)(hn:x≠"__name__":=by decide)(G:(x=="__debug__")=false:=by decide)(he:ai (e::es) X.env=(false,eval e X.env)::ai es X.env:=by rfl)(J:(bB pos (ai es X.env)).any (·.1)=false:=by rfl):EM X ms (.Call (.Name x p) (e::es) [] pos) (Qg g ma) :=
 PE.imp (YX hc O hm U Y hn G he J) λ_ _ _ h=>tCB_of h
def Qal(hc:Qic X (.builtin id) g)(O:Gl X x)(hm:X.mg x=none)(U:cy x=some (.builtin id))(Y:AM X ms (e::es) ma)(hn:x≠"__name__":=by decide)(G:(x=="__debug__")=false:=by decide)(he:ai (e::es) X.env=(false,eval e X.env)::ai es X.env:=by rfl)(J:(bB pos (ai es X.env)).any (·.1)=false:=by rfl):EO X ms (.Call (.Name x p) (e::es) [] pos) (Qg g ma) :=
 PE.imp (YX hc O hm U Y hn G he J) λ_ _ _ h=>QmG h
def Zk(hc:QgB X (.type T) g)(O:Gl X x)(hm:X.mg x=none)(U:cy x=some (.type T))(Y:AM X ms (e::es) ma)(hn:x≠"__name__":=by decide)(G:(x=="__debug__")=false:=by decide)(he:ai (e::es) X.env=(false,eval e X.env)::ai es X.env:=by rfl)(J:(bB pos (ai es X.env)).any (·.1)=false:=by rfl):EM X ms (.Call (.Name x p) (e::es) [] pos) (Qg g ma) :=
 PE.imp (Xk hc O hm U Y hn G he J) λ_ _ _ h=>tCB_of h
def Qeg(hc:Qic X (.type T) g)(O:Gl X x)(hm:X.mg x=none)(U:cy x=some (.type T))(Y:AM X ms (e::es) ma)(hn:x≠"__name__":=by decide)(G:(x=="__debug__")=false:=by decide)(he:ai (e::es) X.env=(false,eval e X.env)::ai es X.env:=by rfl)(J:(bB pos (ai es X.env)).any (·.1)=false:=by rfl):EO X ms (.Call (.Name x p) (e::es) [] pos) (Qg g ma) :=
 PE.imp (Xk hc O hm U Y hn G he J) λ_ _ _ h=>QmG h
def spM(K:ac)(n:Nat)(g:List PV->Option PV):Sp:=λvs H Q _=>vs.length=n/\rMA K g vs H Q
def spO(K:ac)(n:Nat)(g:List PV->Option (List PV)):Sp:=λvs H Q _=>vs.length=n/\rMAO K g vs H Q
def tCall_of{K:ac}(hn:∀ps r,g ps=some r->ps.length=n)(h:tM K ms (Qg g ma) σ H Q):QoX (spM K n g) [] E (tMA K ms ma) σ H Q:=by
 obtain⟨F,γ,r,k1,k2,k3,w⟩:=h;obtain⟨xs,e1,k3⟩:=Qe k3;refine⟨F,γ,xs,k1,k2,e1,λvs H1 B j m=>?_⟩
 skip
 rw[bQ];exact⟨by rw[m.length];grind,B,xs,r,j.sub,m,k3,w.go j⟩
def QnR{K:ac}(hn:∀ps r,g ps=some r->ps.length=n)(h:tMO K ms (Qg g ma) σ H Q):QoX (spO K n g) [] E (tMA K ms ma) σ H Q:=by
 obtain⟨F,γ,r,k1,k2,k3,w⟩:=h;obtain⟨xs,e1,k3⟩:=Qe k3;refine⟨F,γ,xs,k1,k2,e1,λvs H1 B j m=>?_⟩
 skip
 rw[bQ];exact⟨by rw[m.length];grind,B,xs,r,j.sub,m,k3,w.go j⟩
variable{CX:CXT}{k n:Nat}{f:Addr}{fd:cA}{ps:List Str}
def em_call(F:FnOk X.prog X.w X.K X.mg X.base CX0 k f fd ps (spM X.K n g))(hn:∀ps r,g ps=some r->ps.length=n)(O:Room k X.A)(U:Gl X x)(hm:X.mg x=some (.ref f))(Y:bN X.K (.ref f)=true)(hb:YQ X.K fd ps [])(ha:AM X ms (e::es) ma)(G:(x=="__debug__")=false:=by decide)(he:ai (e::es) X.env=(false,eval e X.env)::ai es X.env:=by rfl)(J:(bB pos (ai es X.env)).any (·.1)=false:=by rfl) :
  EM X ms (.Call (.Name x p) (e::es) [] pos) (Qg g ma) :=
 PE.imp (QfJ F O U hm Y hb .nil pass0 ha G he J) λ_ _ _ h=>tCall_of hn h
def eo_call(F:FnOk X.prog X.w X.K X.mg X.base CX0 k f fd ps (spO X.K n g))(hn:∀ps r,g ps=some r->ps.length=n)(O:Room k X.A)(U:Gl X x)(hm:X.mg x=some (.ref f))(Y:bN X.K (.ref f)=true)(hb:YQ X.K fd ps [])(ha:AM X ms (e::es) ma)(G:(x=="__debug__")=false:=by decide)(he:ai (e::es) X.env=(false,eval e X.env)::ai es X.env:=by rfl)(J:(bB pos (ai es X.env)).any (·.1)=false:=by rfl) :
  EO X ms (.Call (.Name x p) (e::es) [] pos) (Qg g ma) :=
 PE.imp (QfJ F O U hm Y hb .nil pass0 ha G he J) λ_ _ _ h=>QnR hn h
end
inductive Out where
 |nx (γ:PEnv) | rt (p:PV) | ro (xs:List PV) | bk (γ:PEnv) | ct (γ:PEnv)
abbrev MSt:=PEnv->Option Out
def flat:PV->Bool
 |.tup _=>false
 |.lst _=>false
 |.obj _ _ _=>false
 |.dct _=>false
 |.dcw _=>false
 |_=>true
theorem Rep.flat{K:ac}(f:flat p=true)(h:Rep K F p v):Rep K F' p v:=by
 cases p<;>unfold Rep at h |- <;> first | exact h | (cases f;done)
theorem RepL.flat{K:ac}:∀{ps:List PV}{vs:List V},ps.all PM.flat=true->RepL K F ps vs->RepL K F' ps vs
 |[],_,_,h=>by grind[RepL]
 |p::ps,_,f,h=>by
  rw[fY,aD]at f;obtain⟨v,r,rfl,h2,j⟩:=h;exact .cons (h2.flat f.1) (RepL.flat f.2 j)
structure OD (B F:Hp) (σ:St) (H:Hp) (γ:PEnv):Prop where
 at_:∀(i:Nat) kvs,γ[i]?=some (.od kvs)->∃a,σ[i]?=some (some (.ref a))/\H a=some (.dK (dvK kvs))/\F a=none/\B a=none
 dj:∀(i j:Nat) kvs lvs a,i≠j->γ[i]?=some (.od kvs)->γ[j]?=some (.od lvs)->σ[i]?=some (some (.ref a))->σ[j]?≠some (some (.ref a))
def OD.mv{B F J F':Hp}{σ σ':St}{H H':Hp}{γ γ':PEnv}(x:OD B F σ H γ)(G:∀(j:Nat) kvs,γ'[j]?=some (.od kvs)->γ[j]?=some (.od kvs)/\σ'[j]?=σ[j]?)(O:∀a kvs,H a=some (.dK kvs)->F a=none->B a=none->H' a=H a/\F' a=none/\J a=none):OD J F' σ' H' γ':=by
 refine⟨λi kvs e=>?_,λi j kvs lvs a n e1 e2 e3=>?_⟩
 .obtain⟨e1,e2⟩:=G i kvs e;obtain⟨a,k1,k2,k3,m⟩:=x.at_ i kvs e1;obtain⟨m1,m2,m3⟩:=O a _ k2 k3 m;exact⟨a,by rw[e2];exact k1,by rw[m1];exact k2,m2,m3⟩
 .obtain⟨k1,k2⟩:=G i kvs e1;obtain⟨k3,m⟩:=G j lvs e2;rw[k2]at e3;rw[m];exact x.dj i j kvs lvs a n k1 k3 e3
def OD.set{B F:Hp}{σ:St}{H:Hp}{γ:PEnv}(x:OD B F σ H γ)(i:Nat){t:Slot}{v:Option V}(G:∀kvs,t≠.od kvs):OD B F (σ.set i v) H (γ.set i t) :=
 x.mv (λj kvs e=>by
  by_cases q:i=j
  .subst q;by_cases hi:i<γ.length
   .rw[au hi]at e;exact absurd (aR e) (G kvs)
   .rw[aY (by simpa using hi)]at e;cases e
  .rw[ah q]at e;exact⟨e,ah q⟩) λa kvs h1 h2 m=>⟨rfl,h2,m⟩
def OD.setG(x:OD B F σ H γ) i (G:∀kvs,t≠.od kvs):OD B F σ H (γ.set i t) :=
 x.mv (by grind) λa kvs h1 h2 j=>⟨rfl,h2,j⟩
structure SR (K:ac) (B F₀ F:Hp) (σ:St) (H:Hp) (γ:PEnv):Prop where
 sub:Same F H
 base:Same B H
 f0:Same F₀ F
 fb:∀a o,F a=some o->F₀ a=some o\/B a=none
 len:σ.length=γ.length
 fz:∀(i:Nat) p,γ[i]?=some (.fz p)->∃v,σ[i]?=some (some v)/\Rep K F p v
 ow:∀(i:Nat) xs,γ[i]?=some (.ow xs)->∃a vs,σ[i]?=some (some (.ref a))/\H a=some (.lst vs)/\RepL K F xs vs/\F a=none/\B a=none
 dj:∀(i j:Nat) xs ys a,i≠j->γ[i]?=some (.ow xs)->γ[j]?=some (.ow ys)->σ[i]?=some (some (.ref a))->σ[j]?≠some (some (.ref a))
 dq:OD B F σ H γ
def frz1(γ:PEnv)(i:Nat):PEnv:=match γ[i]? with
 |some (.ow xs)=>γ.set i (.fz (.lst xs))
 |some (.od kvs)=>γ.set i (.fz (.dcw kvs))
 |_=>γ
def frz(ms:List Nat)(γ:PEnv):PEnv:=ms.foldl frz1 γ
def QoC(γ:PEnv)(i j:Nat):getV (frz1 γ i) j=getV γ j:=by
 unfold frz1;split
 .rename_i xs h;unfold getV;by_cases e:i=j
  .subst e;have hi:i<γ.length:=(al.mp h).1;rw[au hi,h];rfl
  .rw[ah e]
 .rename_i xs h;unfold getV;by_cases e:i=j
  .subst e;have hi:i<γ.length:=(al.mp h).1;rw[au hi,h];rfl
  .rw[ah e]
 .rfl
theorem Qgn:∀ms γ j,getV (frz ms γ) j=getV γ j
 |[],_,_=>rfl
 |i::ms,γ,j=>by
  show getV (frz ms (frz1 γ i)) j=_;rw[Qgn ms,QoC]
section
variable{K:ac}{B F₀ F F' H H':Hp}{σ:St}{γ:PEnv}
def SR.frz1(S:SR K B F₀ F σ H γ)(i:Nat):∃O,SR K B F₀ O σ H (frz1 γ i)/\Same F O:=by
 unfold PM.frz1;split
 .rename_i xs h;obtain⟨a,vs,h1,h2,M,J,L⟩:=S.ow i xs h;have hi:i<γ.length:=(al.mp h).1;have E:Same F (upd F a (.lst vs)):=λb u q=>by rw[Qj (Ql q J)];exact q
  refine⟨upd F a (.lst vs),⟨λb u q=>?_,S.base,S.f0.trans E,λb u q=>?_,by simpa using S.len,λj p e=>?_,λj ys e=>?_,λj k ys zs c D e1 e2 e3=>?_,(S.dq.setG i (t := .fz (.lst xs)) (λkvs z=>nomatch z)).mv (λj kvs e=>⟨e,rfl⟩) λb kvs k1 k2 k3=>⟨rfl,by rw[Qj (Qmb k1 h2 (λz=>nomatch z))];exact k2,k3⟩⟩,E⟩
  .by_cases z:b=a
   .subst z;rw[Qk]at q;rw[h2];exact q
   .rw[Qj z]at q;exact S.sub b u q
  .by_cases z:b=a
   .subst z;exact .inr L
   .rw[Qj z]at q;exact S.fb b u q
  .by_cases m:i=j
   .subst m;rw[au hi]at e;cases e;refine⟨.ref a,h1,?_⟩;unfold Rep;exact⟨a,vs,rfl,.of Qk,M.mono E⟩
   .rw[ah m]at e;obtain⟨v,k1,k2⟩:=S.fz j p e;exact⟨v,k1,k2.mono E⟩
  .by_cases m:i=j
   .subst m;rw[au hi]at e;cases e
   .rw[ah m]at e;obtain⟨c,us,k1,k2,k3,I,k5⟩:=S.ow j ys e;have G:c≠a:=λz=>by
     subst z;exact S.dj i j xs ys c m h e h1 k1
    exact⟨c,us,k1,k2,k3.mono E,by rw[Qj G];exact I,k5⟩
  .have f:∀(n:Nat)(zs:List PV),(γ.set i (.fz (.lst xs)))[n]?=some (.ow zs)->γ[n]?=some (.ow zs):=λn zs q=>by
    by_cases m:i=n
    .subst m;rw[au hi]at q;cases q
    .rw[ah m]at q;exact q
   exact S.dj j k ys zs c D (f j ys e1) (f k zs e2) e3
 .rename_i kvs h;obtain⟨a,h1,h2,J,L⟩:=S.dq.at_ i kvs h;have hi:i<γ.length:=(al.mp h).1;have E:Same F (upd F a (.dK (dvK kvs))):=λb u q=>by rw[Qj (Ql q J)];exact q
  have f:∀(n:Nat)(t:Slot),(γ.set i (.fz (.dcw kvs)))[n]?=some t->(∀p,t≠.fz p)->i≠n/\γ[n]?=some t:=λn t q z=>by
   by_cases m:i=n
   .subst m;rw[au hi]at q;exact absurd (aR q).symm (z _)
   .rw[ah m]at q;exact⟨m,q⟩
  refine⟨upd F a (.dK (dvK kvs)),⟨λb u q=>?_,S.base,S.f0.trans E,λb u q=>?_,by simpa using S.len,λj p e=>?_,λj ys e=>?_,λj k ys zs c D e1 e2 e3=>?_,⟨λj ls e=>?_,λj k ks ls c D e1 e2 e3=>?_⟩⟩,E⟩
  .by_cases z:b=a
   .subst z;rw[Qk]at q;rw[h2];exact q
   .rw[Qj z]at q;exact S.sub b u q
  .by_cases z:b=a
   .subst z;exact .inr L
   .rw[Qj z]at q;exact S.fb b u q
  .by_cases m:i=j
   .subst m;rw[au hi]at e;cases e;refine⟨.ref a,h1,?_⟩;unfold Rep;exact⟨a,(),rfl,⟨.inl Qk⟩⟩
   .rw[ah m]at e;obtain⟨v,k1,k2⟩:=S.fz j p e;exact⟨v,k1,k2.mono E⟩
  .obtain⟨m,e⟩:=f j _ e (λp z=>nomatch z);obtain⟨c,us,k1,k2,k3,I,k5⟩:=S.ow j ys e;exact⟨c,us,k1,k2,k3.mono E,by rw[Qj (Qmb k2 h2 (λz=>nomatch z))];exact I,k5⟩
  .exact S.dj j k ys zs c D (f j _ e1 (λp z=>nomatch z)).2 (f k _ e2 (λp z=>nomatch z)).2 e3
  .obtain⟨m,e⟩:=f j _ e (λp z=>nomatch z);obtain⟨c,k1,k2,I,k5⟩:=S.dq.at_ j ls e;have G:c≠a:=λz=>by
    subst z;exact S.dq.dj i j kvs ls c m h e h1 k1
   exact⟨c,k1,k2,by rw[Qj G];exact I,k5⟩
  .exact S.dq.dj j k ks ls c D (f j _ e1 (λp z=>nomatch z)).2 (f k _ e2 (λp z=>nomatch z)).2 e3
 .exact⟨F,S,Same.refl _⟩
theorem SR.frz:∀ms {F:Hp} {γ:PEnv},SR K B F₀ F σ H γ->∃G,SR K B F₀ G σ H (frz ms γ)/\Same F G
 |[],F,_,S=>⟨F,S,Same.refl _⟩
 |i::ms,F,γ,S=>by
  obtain⟨G,S1,e1⟩:=S.frz1 i;obtain⟨F2,S2,e2⟩:=SR.frz ms S1;exact⟨F2,S2,e1.trans e2⟩
def Xr(γ:PEnv)(j:Nat):Prop:=(∀xs,γ[j]?≠some (.ow xs))/\∀kvs,γ[j]?≠some (.od kvs)
def QoE(h:Xr γ j):Xr (PM.frz1 γ i) j:=by
 unfold PM.frz1;split
 .rename_i ys e;by_cases m:i=j
  .subst m;exact absurd e (h.1 ys)
  .exact⟨λxs=>by rw[ah m];exact h.1 xs,λxs=>by rw[ah m];exact h.2 xs⟩
 .rename_i ys e;by_cases m:i=j
  .subst m;exact absurd e (h.2 ys)
  .exact⟨λxs=>by rw[ah m];exact h.1 xs,λxs=>by rw[ah m];exact h.2 xs⟩
 .exact h
def QoD{γ:PEnv}{i:Nat}:Xr (PM.frz1 γ i) i:=by
 unfold PM.frz1;split
 .rename_i ys e;have hi:i<γ.length:=(al.mp e).1;exact⟨(λxs z=>by rw[au hi]at z;cases z),(λxs z=>by rw[au hi]at z;cases z)⟩
 .rename_i ys e;have hi:i<γ.length:=(al.mp e).1;exact⟨(λxs z=>by rw[au hi]at z;cases z),(λxs z=>by rw[au hi]at z;cases z)⟩
 .rename_i h1 h2;exact⟨h1,h2⟩
theorem QkD:∀ms {γ:PEnv} {j:Nat},Xr γ j->Xr (PM.frz ms γ) j
 |[],_,_,h=>h
 |i::ms,γ,j,h=>QkD ms (QoE h)
theorem Qnt:∀ms {γ:PEnv} {j:Nat},j∈ms->Xr (PM.frz ms γ) j
 |[],_,_,h=>by cases h
 |i::ms,γ,j,h=>by
  rcases ao.mp h with rfl | h
  .exact QkD ms QoD
  .exact Qnt ms h
def SR.erep(S:SR K B F₀ F σ H γ)(h:∀i∈ms,Xr γ i):ERep K F σ γ ms:=λi hi p e=>by
 unfold getV at e;cases q:γ[i]? with
 |none=>grind
 |some t =>
  cases t with
  |un=>rw[q]at e;cases e
  |fz j =>
   rw[q]at e;cases e;exact S.fz i p q
  |ow xs=>exact absurd q ((h i hi).1 xs)
  |od xs=>exact absurd q ((h i hi).2 xs)
def SR.see(S:SR K B F₀ F σ H γ)(ms:List Nat):∃G,SR K B F₀ G σ H (PM.frz ms γ)/\Same F G/\ERep K G σ γ ms:=by
 obtain⟨G,S1,e1⟩:=SR.frz ms S;refine⟨G,S1,e1,λi hi p e=>?_⟩;exact S1.erep (ms:=ms) (λj m=>Qnt ms m) i hi p (by rw[Qgn];exact e)
def SR.same(S:SR K B F₀ F σ H γ)(e:Same H H'):SR K B F₀ F σ H' γ :=
 ⟨S.sub.trans e,S.base.trans e,S.f0,S.fb,S.len,S.fz,λi xs h=>by
  obtain⟨a,vs,h1,h2,j⟩:=S.ow i xs h;exact⟨a,vs,h1,e _ _ h2,j⟩,S.dj,S.dq.mv (by grind) λa kvs h1 h2 j=>⟨by rw[h1];exact e _ _ h1,h2,j⟩⟩
def SR.grow(S:SR K B F₀ F σ H γ)(g:Grow F H F' H'):SR K B F₀ F' σ H' γ:=by
 refine⟨g.sub,S.base.trans g.same,S.f0.trans g.ext,λa o e=>?_,S.len,λi p h=>?_,λi xs h=>?_,S.dj,S.dq.mv (by grind) λa kvs h1 h2 j=>⟨by rw[h1];exact g.same _ _ h1,?_,j⟩⟩
 .rcases g.new a o e with z | z
  .exact S.fb a o z
  .exact .inr (S.base.free z)
 .obtain⟨v,h1,h2⟩:=S.fz i p h;exact⟨v,h1,h2.mono g.ext⟩
 .obtain⟨a,vs,h1,h2,j,D,m⟩:=S.ow i xs h;refine⟨a,vs,h1,g.same _ _ h2,j.mono g.ext,?_,m⟩;cases q:F' a with
  |none=>rfl
  |some o =>
   rcases g.new a o q with z | z
   all_goals grind
 .cases q:F' a with
  |none=>rfl
  |some u =>
   rcases g.new a u q with z | z
   all_goals grind
def SR.setFz(S:SR K B F₀ F σ H γ)(i:Nat){p:PV}{v:V}(r:Rep K F p v):SR K B F₀ F (σ.set i (some v)) H (γ.set i (.fz p)):=by
 have f:∀(n:Nat)(zs:List PV),(γ.set i (.fz p))[n]?=some (.ow zs)->i≠n/\γ[n]?=some (.ow zs):=λn zs q=>by
  by_cases m:i=n
  .subst m;by_cases hi:i<γ.length
   .rw[au hi]at q;cases q
   .rw[aY (by simpa using hi)]at q;cases q
  .rw[ah m]at q;exact⟨m,q⟩
 refine⟨S.sub,S.base,S.f0,S.fb,by simpa using S.len,λj q e=>?_,λj ys e=>?_,λj k ys zs c D e1 e2 e3=>?_,S.dq.set i (λkvs z=>nomatch z)⟩
 .by_cases m:i=j
  .subst m;by_cases hi:i<γ.length
   .rw[au hi]at e;cases e;exact⟨v,by rw[au (by rw[S.len];exact hi)],r⟩
   .rw[aY (by simpa using hi)]at e;cases e
  .rw[ah m]at e;obtain⟨u,h1,h2⟩:=S.fz j q e;exact⟨u,by rw[ah m];exact h1,h2⟩
 .obtain⟨ne,e⟩:=f j ys e;obtain⟨a,vs,h1,h2⟩:=S.ow j ys e;exact⟨a,vs,by rw[ah ne];exact h1,h2⟩
 .obtain⟨n1,e1⟩:=f j ys e1;obtain⟨n2,e2⟩:=f k zs e2;rw[ah n1]at e3;rw[ah n2];exact S.dj j k ys zs c D e1 e2 e3
def SR.setOw(S:SR K B F₀ F σ H γ)(i:Nat){xs:List PV}{a:Addr}{vs:List V}(J:H a=some (.lst vs))(r:RepL K F xs vs)(O:F a=none)(U:B a=none)(nd:∀(j:Nat) ys,i≠j->γ[j]?=some (.ow ys)->σ[j]?≠some (some (.ref a))):SR K B F₀ F (σ.set i (some (.ref a))) H (γ.set i (.ow xs)):=by
 refine⟨S.sub,S.base,S.f0,S.fb,by simpa using S.len,λj q e=>?_,λj ys e=>?_,λj k ys zs c m e1 e2 e3 E=>?_,S.dq.set i (λkvs z=>nomatch z)⟩
 .by_cases D:i=j
  .subst D;by_cases hi:i<γ.length
   .rw[au hi]at e;cases e
   .rw[aY (by simpa using hi)]at e;cases e
  .rw[ah D]at e;obtain⟨u,h1,h2⟩:=S.fz j q e;exact⟨u,by rw[ah D];exact h1,h2⟩
 .by_cases D:i=j
  .subst D;by_cases hi:i<γ.length
   .rw[au hi]at e;cases e;exact⟨a,vs,by rw[au (by rw[S.len];exact hi)],J,r,O,U⟩
   .rw[aY (by simpa using hi)]at e;cases e
  .rw[ah D]at e;obtain⟨b,us,h1,h2⟩:=S.ow j ys e;exact⟨b,us,by rw[ah D];exact h1,h2⟩
 .by_cases G:i=j
  .subst G;by_cases hi:i<γ.length
   .rw[au (by rw[S.len];exact hi)]at e3;cases e3;rw[ah m]at e2 E;exact nd k zs m e2 E
   .rw[aY (by simpa using hi)]at e1;cases e1
  .rw[ah G]at e1 e3;by_cases I:i=k
   .subst I;by_cases hi:i<γ.length
    .rw[au (by rw[S.len];exact hi)]at E;cases E;exact nd j ys G e1 e3
    .rw[aY (by simpa using hi)]at e2;cases e2
   .rw[ah I]at e2 E;exact S.dj j k ys zs c m e1 e2 e3 E
def SR.write(S:SR K B F₀ F σ H γ){i:Nat}{xs ys:List PV}{a:Addr}{us:List V}(hi:γ[i]?=some (.ow xs))(G:σ[i]?=some (some (.ref a)))(r:RepL K F ys us) :
  SR K B F₀ F σ (upd H a (.lst us)) (γ.set i (.ow ys)):=by
 obtain⟨T,vs,h1,h2,U,J,L⟩:=S.ow i xs hi;rw[G]at h1;cases h1;have D:i<γ.length:=(al.mp hi).1;have stay:∀b o,H b=some o->b≠a->upd H a (.lst us) b=some o:=λb o e n=>by rw[Qj n];exact e
 refine⟨λb o e=>stay b o (S.sub b o e) (Ql e J),λb o e=>stay b o (S.base b o e) (Ql e L),S.f0,S.fb,by simpa using S.len,λj q e=>?_,λj zs e=>?_,λj k ws zs c I e1 e2 e3 M=>?_,(S.dq.setG i (t := .ow ys) (λkvs z=>nomatch z)).mv (λ_ _ q=>⟨q,rfl⟩) λb kvs k1 k2 k3=>⟨Qj (Qmb k1 h2 (λz=>nomatch z)),k2,k3⟩⟩
 .by_cases m:i=j
  .subst m;rw[au D]at e;cases e
  .rw[ah m]at e;exact S.fz j q e
 .by_cases m:i=j
  .subst m;rw[au D]at e;cases e;exact⟨a,us,G,Qk,r,J,L⟩
  .rw[ah m]at e;obtain⟨b,ts,k1,k2,k3⟩:=S.ow j zs e;have O:b≠a:=λz=>by
    subst z;exact S.dj i j xs zs b m hi e G k1
   exact⟨b,ts,k1,stay _ _ k2 O,k3⟩
 .have f:∀(n:Nat)(ws:List PV),(γ.set i (.ow ys))[n]?=some (.ow ws)->∃E,γ[n]?=some (.ow E):=λn ws q=>by
   by_cases m:i=n
   .subst m;exact⟨xs,hi⟩
   .rw[ah m]at q;exact⟨ws,q⟩
  obtain⟨E,e1⟩:=f j ws e1;obtain⟨Q,e2⟩:=f k zs e2;exact S.dj j k _ _ c I e1 e2 e3 M
def SR.up(S:SR K B F₀ F σ H γ)(e1:Same F₀ G)(e:Same G F):SR K B G F σ H γ :=
 ⟨S.sub,S.base,e,λa o q=>(S.fb a o q).imp (λz=>e1 a o z) id,S.len,S.fz,S.ow,S.dj,S.dq⟩
def SR.down{G:Hp}(S:SR K B G F σ H γ)(e1:Same F₀ G)(J:∀a o,G a=some o->F₀ a=some o\/B a=none):SR K B F₀ F σ H γ :=
 ⟨S.sub,S.base,e1.trans S.f0,λa o q=>(S.fb a o q).elim (λz=>J a o z) .inr,S.len,S.fz,S.ow,S.dj,S.dq⟩
def Grow.down(g:Grow J B F' H')(e1:Same F₀ J)(G:∀a o,J a=some o->F₀ a=some o\/B a=none):Grow F₀ B F' H' :=
 ⟨e1.trans g.ext,g.sub,g.same,λa o q=>(g.new a o q).elim (λz=>G a o z) .inr⟩
def SR.gr(S:SR K B F₀ F σ H γ):Grow F₀ B F H:=⟨S.f0,S.sub,S.base,S.fb⟩
end
def Qpr(K:ac)(B F₀:Hp)(D:Ends):Out->Prop
 |.nx γ=>∀σ H F,SR K B F₀ F σ H γ->D.nx σ H
 |.rt p=>∀v H F,Grow F₀ B F H->Rep K F p v->D.rt v H
 |.ro xs=>∀a vs H F,Grow F₀ B F H->B a=none->F a=none->H a=some (.lst vs)->RepL K F xs vs->D.rt (.ref a) H
 |.bk γ=>∀σ H F,SR K B F₀ F σ H γ->D.bk σ H
 |.ct γ=>∀σ H F,SR K B F₀ F σ H γ->D.ct σ H
inductive tMS (K:ac) (m:MSt) (D:Ends) (σ:St) (H:Hp):Prop
 |mk B F₀ F γ o:SR K B F₀ F σ H γ->m γ=some o->Qpr K B F₀ D o->tMS K m D σ H
def SM(X:Cx)(st:Stmt)(m:MSt):Prop:=PS X st (tMS X.K m)
def SMs(X:Cx)(sts:List Stmt)(m:MSt):Prop:=PSs X sts (tMS X.K m)
section
variable{X:Cx}{e a b c:Expr}{st:Stmt}{sts:List Stmt}{ms ns ls:List Nat}{m m1 m2 m3:MEx}{s1 s2:MSt}{pos p2:Pos}
def _root_.L2.PSs.imp(h:PSs X sts t)(i:∀D σ H,t' D σ H->t D σ H):PSs X sts t':=λpins s σ H D I q=>h pins s σ H D I (i D σ H q)
noncomputable def sNx:MSt:=λγ=>some (.nx γ)
noncomputable def sSeq(s1 s2:MSt):MSt:=λγ=>(s1 γ).bind λo=>match o with
 |.nx γ'=>s2 γ'
 |o=>some o
def Qq:SMs X [] sNx:=PSs.imp QmW λD σ H ⟨B,F₀,F,γ,o,S,e,ok⟩=>by
 cases e;exact ok σ H F S
def Qi(h:SM X st s1):SMs X [st] s1:=QdI h
def Qf(h:SM X st s1)(G:SMs X sts s2):SMs X (st::sts) (sSeq s1 s2):=PSs.imp (Qbz h G) λD σ H ⟨B,F₀,F,γ,o,S,e,ok⟩=>by
 obtain⟨j,e1,e2⟩:=Qe e;refine⟨B,F₀,F,γ,j,S,e1,?_⟩;cases j with
 |nx γ'=>exact λσ' H' F' m=>⟨B,F₀,F',γ',o,m,e2,ok⟩
 |rt p=>cases e2;exact ok
 |ro xs=>cases e2;exact ok
 |bk γ'=>cases e2;exact ok
 |ct γ'=>cases e2;exact ok
def sBk:MSt:=λγ=>some (.bk γ)
def sCt:MSt:=λγ=>some (.ct γ)
def sRet(m:MEx):MSt:=λγ=>(m γ).map .rt
def QhX(m:PEnv->Option (List PV)):MSt:=λγ=>(m γ).map .ro
def Qbl(i:Nat):MSt:=λγ=>match γ[i]? with
 |some (.ow xs)=>some (.ro xs)
 |some (.fz p)=>some (.rt p)
 |_=>none
def Qo(h:EM X ms e m):SM X (.Return (some e) pos) (sRet m):=PS.imp (QiS h) λD σ H ⟨B,F₀,F,γ,o,S,e,ok⟩=>by
 obtain⟨r,e1,e2⟩:=QN e;subst e2;obtain⟨j,S1,G,E⟩:=S.see ms;exact⟨j,γ,r,S1.sub,E,e1,λv H' F' g q=>ok v H' F' (S1.grow g).gr q⟩
def QdH{m:PEnv->Option (List PV)}(h:EO X ms e m):SM X (.Return (some e) pos) (QhX m):=PS.imp (QiS h) λD σ H ⟨B,F₀,F,γ,o,S,e,ok⟩=>by
 obtain⟨r,e1,e2⟩:=QN e;subst e2;obtain⟨j,S1,J,E⟩:=S.see ms;exact⟨j,γ,r,S1.sub,E,e1,λa vs H' F' g n G I q=>ok a vs H' F' (S1.grow g).gr (S1.base.free n) G I q⟩
def QaS i (h:PE X (.Name x p2) (tVar i)):SM X (.Return (some (.Name x p2)) pos) (Qbl i):=PS.imp (QiS h) λD σ H ⟨B,F₀,F,γ,o,S,e,ok⟩=>by
 unfold Qbl at e;split at e
 .rename_i xs h;cases e;obtain⟨a,vs,h1,h2,j,m,E⟩:=S.ow i xs h;exact⟨.ref a,h1,ok a vs H F S.gr E m h2 j⟩
 .rename_i p h;cases e;obtain⟨v,h1,h2⟩:=S.fz i p h;exact⟨v,h1,ok v H F S.gr h2⟩
 .cases e
def sIf(t:PEnv->Option Bool)(s1 s2:MSt):MSt:=λγ=>(t γ).bind λk=>if k=true then s1 γ else s2 γ
def QA(hc:TM X ms c t)(G:SMs X xs s1)(J:SMs X ys s2):SM X (.If c xs ys pos) (sIf t s1 s2):=PS.imp (ps_if hc G J) λD σ H ⟨B,F₀,F,γ,o,S,e,ok⟩=>by
 obtain⟨k,e1,e2⟩:=Qe e;obtain⟨j,S1,E,m⟩:=S.see ms;refine⟨j,γ,k,S1.sub,m,e1,λH' F' g=>?_⟩;cases k with
 |true=>exact⟨B,F₀,F,γ,o,S.same g.same,e2,ok⟩
 |false=>exact⟨B,F₀,F,γ,o,S.same g.same,e2,ok⟩
def Qw(k:Bool)(ms:List Nat)(γ:PEnv):PEnv:=if k=true then γ else frz ms γ
def sSet(ms:List Nat)(i:Nat)(m:MEx):MSt:=λγ=>(m γ).map λr=>.nx ((Qw (flat r) ms γ).set i (.fz r))
def QE(ms:List Nat)(i:Nat)(m:PEnv->Option (List PV)):MSt:=λγ=>(m γ).map λxs=>.nx ((Qw (xs.all flat) ms γ).set i (.ow xs))
def SR.val{K:ac}{B F₀ F G F' H H':Hp}{σ:St}{γ:PEnv}{r:PV}{v:V}(S:SR K B F₀ F σ H γ)(S1:SR K B F₀ G σ H (PM.frz ms γ))(g:Grow G H F' H')(q:Rep K F' r v) :
  ∃F2,SR K B F₀ F2 σ H' (Qw (flat r) ms γ)/\Rep K F2 r v:=by
 unfold Qw;cases f:flat r with
 |true=>rw[ak rfl];exact⟨F,S.same g.same,q.flat f⟩
 |false=>rw[ar cC];exact⟨F',S1.grow g,q⟩
def SR.valO{K:ac}(S:SR K B F₀ F σ H γ)(J:Same F G)(S1:SR K B F₀ G σ H (PM.frz ms γ))(g:Grow G H F' H')(q:RepL K F' r vs) :
  ∃F2,SR K B F₀ F2 σ H' (Qw (r.all flat) ms γ)/\RepL K F2 r vs/\Same F2 F':=by
 cases f:r.all flat with
 |true=>exact⟨F,S.same g.same,q.flat f,J.trans g.ext⟩
 |false=>exact⟨F',S1.grow g,q,Same.refl _⟩
def QiP(G:X.N.Nodup)(hi:X.N[i]?=some x)(J:Loc X.env.scope x)(h:EM X ms e m)(hs:cp e (some (.Name x p2)) pos.line X.env=pure false:=by rfl)(hf:X.fn x=true\/X.env.scope.names.lookup x=some .local:=by first | exact .inl rfl | exact .inr rfl | assumption) :
  SM X (.Assign [.Name x p2] e pos) (sSet ms i m):=PS.imp (QeT G hi J h hs hf) λD σ H ⟨B,F₀,F,γ,o,S,e,ok⟩=>by
 obtain⟨r,e1,e2⟩:=QN e;subst e2;obtain⟨j,S1,L,E⟩:=S.see ms;refine⟨j,γ,r,S1.sub,E,e1,λv H' F' g q=>?_⟩;obtain⟨F2,S2,I⟩:=S.val S1 g q;exact ok _ _ F2 (S2.setFz i I)
def SR.setNew{K:ac}{a:Addr}(S:SR K B F₀ F σ H γ)(J:Same F G)(S1:SR K B F₀ G σ H (PM.frz ms γ))(g:Grow G H F' H')(n:H a=none)(O:F' a=none)(U:H' a=some (.lst vs))(q:RepL K F' r vs) i :
  ∃F2,SR K B F₀ F2 (σ.set i (some (.ref a))) H' ((Qw (r.all flat) ms γ).set i (.ow r)):=by
 obtain⟨F2,S2,m,D⟩:=S.valO J S1 g q;have own:∀(j:Nat) ys,(Qw (r.all flat) ms γ)[j]?=some (.ow ys)->σ[j]?≠some (some (.ref a)):=λj ys e1 e2=>by
  have key:∀{F:Hp}{γ:PEnv},SR K B F₀ F σ H γ->γ[j]?=some (.ow ys)->False:=λ{F γ} T e1=>by
   obtain⟨b,us,h1,h2,_⟩:=T.ow j ys e1;rw[e2]at h1;cases h1;rw[n]at h2;cases h2
  unfold Qw at e1;split at e1
  .exact key S e1
  .exact key S1 e1
 exact⟨F2,S2.setOw i U m (D.free O) (S.base.free n) λj ys _ e1=>own j ys e1⟩
def QdG{m:PEnv->Option (List PV)}(G:X.N.Nodup)(hi:X.N[i]?=some x)(J:Loc X.env.scope x)(h:EO X ms e m)(hs:cp e (some (.Name x p2)) pos.line X.env=pure false:=by rfl)(hf:X.fn x=true\/X.env.scope.names.lookup x=some .local:=by first | exact .inl rfl | exact .inr rfl | assumption) :
  SM X (.Assign [.Name x p2] e pos) (QE ms i m):=PS.imp (QeT G hi J h hs hf) λD σ H ⟨B,F₀,F,γ,o,S,e,ok⟩=>by
 obtain⟨r,e1,e2⟩:=QN e;subst e2;obtain⟨j,S1,E,I⟩:=S.see ms;refine⟨j,γ,r,S1.sub,I,e1,λa vs H' F' g n L M q=>?_⟩;obtain⟨F2,S2⟩:=S.setNew E S1 g n L M q i;exact ok _ _ F2 S2
end
def _root_.L2.PG.imp(h:PG X e t)(i:∀v σ H Q,t' v σ H Q->t v σ H Q):PG X e t':=λpins s σ H v u Q I r q=>h pins s σ H v u Q I r (i v σ H Q q)
def QlB k ms γ j:getV (Qw k ms γ) j=getV γ j:=by
 grind[Qw,Qgn]
def ERep.of_getV{K:ac}(h:ERep K F σ γ ms)(e:∀j,getV γ j=getV γ' j):ERep K F σ γ' ms:=λi hi p m=>h i hi p (by grind)
theorem QhE:∀ms {γ:PEnv} {j:Nat},j∉ms->(frz ms γ)[j]?=γ[j]?
 |[],_,_,_=>rfl
 |i::ms,γ,j,h=>by
  show(frz ms (frz1 γ i))[j]?=_;rw[QhE ms (λz=>h (aw _ z))];unfold frz1;split
  .rw[ah (λz=>h (by simp[z]))]
  .rw[ah (λz=>h (by simp[z]))]
  .rfl
def Qaa(h:γ[i]?=some (.ow xs))(c:(k || !ms.contains i)=true):(Qw k ms γ)[i]?=some (.ow xs):=by
 unfold Qw;cases k with
 |true=>exact h
 |false =>
  rw[ar cC];have :=by simpa using c
  rw[QhE ms this];exact h
section
variable{X:Cx}{e a b c:Expr}{st:Stmt}{sts:List Stmt}{ms ns ls:List Nat}{m m1 m2 m3 mi mv:MEx}{s1 s2:MSt}{pos p2 p3:Pos}
def tMG(K:ac)(ts:List Nat)(g:PV->PEnv->Option PEnv):TG:=λv σ H Q=>∃B F₀ F γ p γ',SR K B F₀ F σ H γ/\Rep K F p v/\g p γ=some γ' /\
 ∀σ',SR K B F₀ F σ' H γ'->σ'.length=σ.length->(∀n,n∉ts->σ'[n]?=σ[n]?)->Q σ' H
def GM(X:Cx)(ts:List Nat)(tg:Expr)(g:PV->PEnv->Option PEnv):Prop:=PG X tg (tMG X.K ts g)
noncomputable def gSet(i:Nat):PV->PEnv->Option PEnv:=λp γ=>some (γ.set i (.fz p))
def QbY(i j:Nat):PV->PEnv->Option PEnv:=λp γ=>match p with
 |.tup [x,y]=>some ((γ.set i (.fz x)).set j (.fz y))
 |_=>none
def gSet3(i j k:Nat):PV->PEnv->Option PEnv:=λp γ=>match p with
 |.tup [x,y,z]=>some (((γ.set i (.fz x)).set j (.fz y)).set k (.fz z))
 |_=>none
def Zu(h:PG X (.Name x pos) (QjH i)):GM X [i] (.Name x pos) (gSet i):=PG.imp h λv σ H Q ⟨B,F₀,F,γ,p,γ',S,r,e,w⟩=>by
 cases e;refine w _ (S.setFz i r) (by simp) λn hn=>?_;rw[ah (λz=>hn (by simp[z]))]
def Qnr(h:PG X (.Tuple [x,y] kt pos) (gTup X.K 2 (gCons (QjH i) (gCons (QjH j) gNil)))):GM X [i,j] (.Tuple [x,y] kt pos) (QbY i j) :=
 PG.imp h λv σ H Q ⟨B,F₀,F,γ,p,γ',S,r,e,w⟩=>by
  unfold QbY at e;split at e
  .cases e;obtain⟨a,vs,rfl,k2,k3⟩:=r;obtain⟨m,I,rfl,D,k3⟩:=k3;obtain⟨E,J,rfl,G,k3⟩:=k3;subst k3;refine⟨a,_,rfl,S.sub.seqT k2,rfl,m,_,rfl,E,_,rfl,rfl,?_⟩;refine w _ ((S.setFz i D).setFz j G) (by simp) λn hn=>?_;rw[ah (λz=>hn (by simp[z])),ah (λz=>hn (by simp[z]))]
  .cases e
def sApp(ms:List Nat)(i:Nat)(m:MEx):MSt:=λγ=>match γ[i]? with
 |some (.ow xs)=>(m γ).bind λr=>if xs.length<LIM/\(flat r || !ms.contains i)=true then some (.nx ((Qw (flat r) ms γ).set i (.ow (xs++[r])))) else none
 |_=>none
def Qbx{K:ac}{a:Addr}(h:SqL K H a vs):tyV K "list" (.ref a) H := .inl ⟨rfl,vs,h⟩
def QeS(O:PE X (.Name x p2) (tVar i))(h:EM X ms e m)(ps:PS X (.Expr (.Call (.Attribute (.Name x p2) "append" apos) [e] [] cpos) pos) (QlV (tBM X.K "list" QmT (tVar i) (tMA X.K ms (Qa m aNil))))) :
  SM X (.Expr (.Call (.Attribute (.Name x p2) "append" apos) [e] [] cpos) pos) (sApp ms i m):=PS.imp ps λD σ H ⟨B,F₀,F,γ,o,S,e,ok⟩=>by
 unfold sApp at e;split at e
 .rename_i xs hi;obtain⟨r,e1,e⟩:=Qe e;obtain⟨⟨G,c⟩,rfl⟩:=Qt e;obtain⟨a,vs,h1,h2,_⟩:=S.ow i xs hi;obtain⟨I,S1,Q,J⟩:=S.see ms;refine⟨.ref a,h1,Qbx (.of h2),I,γ,[r],S1.sub,J,by simp[Qa,aNil,e1],λus H' F' g q=>?_⟩;obtain⟨v,t,rfl,q,L⟩:=q;subst L;obtain⟨F2,S2,M⟩:=S.val S1 g q;have j:=Qaa hi c;obtain⟨T,E,k1,k2,k3,_⟩:=S2.ow i xs j;rw[h1]at k1;cases k1;refine⟨a,E,v,rfl,rfl,k2,?_,?_⟩
  .rw[k3.length];exact aG G QU
  .exact ok _ _ F2 (S2.write j h1 (k3.snoc M))
 .cases e
def Qcg(ms:List Nat)(i:Nat)(mv mi:MEx):MSt:=λγ=>match γ[i]? with
 | some (.ow xs)=>(mv γ).bind λr=>(mi γ).bind λk=>match k with
  |.int j=>(ixN xs.length j).bind λn=>if (flat r || !ms.contains i)=true then some (.nx ((Qw (flat r) ms γ).set i (.ow (xs.set n r)))) else none
  |_=>none
 |_=>none
def Qdl(O:PE X (.Name x p2) (tVar i))(U:EM X ms e mv)(hi:EM X ns b mi)(hs:swapsWithSole [.Subscript (.Name x p2) b p3] e pos.line X.env=pure false:=by rfl)(hw:swappedStores [.Subscript (.Name x p2) b p3] e X.env=pure none:=by rfl)(h1:(ge [.Subscript (.Name x p2) b p3] X.env).map (·.2)=[assign (.Subscript (.Name x p2) b p3) X.env]:=by rfl)(Y:∀v,assign (.Subscript (.Name x p2) b p3) X.env v=(do
   let G <-holding [v] (eval (.Name x p2) X.env);let iv <-holding [v,G] (eval b X.env)
   standAt p3
   holding [v,G,iv] (setItem G iv v)
   release [v,G,iv] []):=by intro _;rfl):SM X (.Assign [.Subscript (.Name x p2) b p3] e pos) (Qcg ms i mv mi):=PS.imp (ps_asg U (pg_sub O hi set_list Y) hs hw h1) λD σ H ⟨B,F₀,F,γ,o,S,e,ok⟩=>by
 unfold Qcg at e;split at e
 .rename_i xs hi;obtain⟨r,e1,e⟩:=Qe e;obtain⟨k,e2,e⟩:=Qe e;split at e
  .rename_i j;obtain⟨n,e3,e⟩:=Qe e;obtain⟨c,rfl⟩:=Qt e;obtain⟨M,S1,x1,Q⟩:=S.see ms;refine⟨M,γ,r,S1.sub,Q,e1,λv H' F' g q=>?_⟩;obtain⟨F2,S2,T⟩:=S.val S1 g q;have m:=Qaa hi c;obtain⟨a,vs,k1,_⟩:=S2.ow i xs m;obtain⟨F3,S3,x3,E⟩:=S2.see ns;refine⟨.ref a,k1,F3,γ,.int j,S3.sub,E.of_getV (QlB _ _ _),e2,λkv H2 F4 g2 qk=>?_⟩;have J:=S2.same g2.same;obtain⟨a4,I,l1,l2,L,_⟩:=J.ow i xs m;rw[k1]at l1;cases l1;refine⟨a,I,j,n,rfl,qk,l2,by rw[L.length];exact e3,?_⟩;exact ok _ _ F2 (J.write m k1 (L.set n T))
  .cases e
 .cases e
structure ItRep (K:ac) (J:It) (F:Hp) (xs:List PV):Prop where
 go:∀i H,i<xs.length->Same F H->J.go i H
 yld:∀i H x H',i<xs.length->Same F H->J.yld i H x H'->∃p,xs[i]?=some p/\∀F1,Same F F1->Same F1 H->∃F2,Grow F1 H F2 H'/\Rep K F2 p x
 stop:∀H,Same F H->J.stop xs.length H
inductive tMI (K:ac) (ms:List Nat) (m:PEnv->Option (List PV)) (σ:St) (H:Hp) (R:It->Hp->Prop):Prop
 |mk F γ xs:Same F H->ERep K F σ γ ms->m γ=some xs->(∀J H' F',Grow F H F' H'->ItRep K J F' xs->R J H')->tMI K ms m σ H R
def IM(X:Cx)(ms:List Nat)(tg iter:Expr)(m:PEnv->Option (List PV)):Prop:=PI X tg iter (tMI X.K ms m)
def _root_.L2.PI.imp(h:PI X tg e t)(i:∀σ H R,t' σ H R->t σ H R):PI X tg e t':=λpins s σ H R I q=>h pins s σ H R I (i σ H R q)
def iLst(m:MEx):PEnv->Option (List PV):=λγ=>(m γ).bind λp=>match p with
 |.lst xs=>some xs
 |_=>none
def iTpl(m:MEx):PEnv->Option (List PV):=λγ=>(m γ).bind λp=>match p with
 |.tup xs=>some xs
 |_=>none
def Yr(h:EM X ms e m):IM X ms tg e (iLst m):=PI.imp (pi_list h) λσ H R ⟨F,γ,xs,h1,h2,j,w⟩=>by
 obtain⟨p,e1,e2⟩:=Qe j;refine⟨F,γ,p,h1,h2,e1,λv H' F' g q=>?_⟩;cases p with
 |lst ys =>
  cases e2;obtain⟨a,vs,rfl,k2,k3⟩:=q;refine⟨a,rfl,⟨vs,g.sub.seq k2⟩,w _ _ _ g ?_⟩;refine⟨λi H hi e=>?_,λi H x H' hi e y=>?_,λH e=>?_⟩
  .have B:i<vs.length:=by rw[k3.length];exact hi
   exact⟨vs,vs[i],e.seq k2,by simp[B]⟩
  .obtain⟨rfl,y⟩:=y;obtain⟨p,e2,e3⟩:=k3.back (y vs (e.seq k2));exact⟨p,e2,λD E G=>⟨D,.refl G,e3.mono E⟩⟩
  .exact⟨vs,e.seq k2,by rw[k3.length];grind⟩
 |_=>cases e2
def im_tup(h:EM X ms e m):IM X ms tg e (iTpl m):=PI.imp (pi_tup h) λσ H R ⟨F,γ,xs,h1,h2,j,w⟩=>by
 obtain⟨p,e1,e2⟩:=Qe j;refine⟨F,γ,p,h1,h2,e1,λv H' F' g q=>?_⟩;cases p with
 |tup ys =>
  cases e2;obtain⟨a,vs,rfl,k2,k3⟩:=q;refine⟨a,rfl,⟨vs,g.sub.seqT k2⟩,w _ _ _ g ?_⟩;refine⟨λi H hi e=>?_,λi H x H' hi e y=>?_,λH e=>?_⟩
  .have B:i<vs.length:=by rw[k3.length];exact hi
   exact⟨vs,vs[i],e.seqT k2,by simp[B]⟩
  .obtain⟨rfl,y⟩:=y;obtain⟨p,e2,e3⟩:=k3.back (y vs (e.seqT k2));exact⟨p,e2,λD E G=>⟨D,.refl G,e3.mono E⟩⟩
  .exact⟨vs,e.seqT k2,by rw[k3.length];grind⟩
 |_=>cases e2
def rngL(lo hi:Int):List PV:=(az (hi-lo).toNat).map λk=>.int (lo+(k:Nat))
def Qga lo hi:(rngL lo hi).length=(hi-lo).toNat:=by simp[rngL]
def Qno{K:ac} lo hi:ItRep K (Itr lo (hi-lo).toNat) F (rngL lo hi):=by
 refine⟨λi H j e=>?_,λi H x H' j e y=>?_,λH e=>?_⟩
 .rw[Qga]at j;exact j
 .obtain⟨rfl,rfl⟩:=y;rw[Qga]at j;exact⟨.int (lo+i),by simp[rngL,j],λm D B=>⟨m,.refl B,QL _⟩⟩
 .rw[Qga];exact am _
def rOk(j:Int):Bool:=cls (-(2^62)<=j/\j<2^62)
def QmR(h:rOk j=true) : -(2^62)<=j/\j<2^62:=Qcc h
def rOk_of(h1 : -(2^62)<=j)(h2:j<2^62):rOk j=true:=Qdd ⟨h1,h2⟩
def iRg1(m:MEx):PEnv->Option (List PV):=λγ=>(m γ).bind λp=>match p with
 |.int j=>if rOk j=true then some (rngL 0 j) else none
 |_=>none
def QhD(G:Gl X "range")(hm:X.mg "range"=none)(J:AM X ms [a] (Qa m aNil))(hs:ai [a] X.env=[(false,eval a X.env)]:=by rfl):IM X ms tg (.Call (.Name "range" p2) [a] [] pos) (iRg1 m) :=
 PI.imp (Qho G hm J hs) λσ H R ⟨F,γ,xs,h1,h2,B,w⟩=>by
  obtain⟨p,e1,e2⟩:=Qe B;refine⟨F,γ,[p],h1,h2,by simp[Qa,aNil,e1],λvs H' F' g q=>?_⟩;obtain⟨v,t,rfl,q,D⟩:=q;subst D;cases p with
  |int j =>
   obtain⟨c,rfl⟩:=Qt e2;obtain⟨E,I⟩:=QmR c;subst q;refine⟨j,rfl,E,I,w _ _ _ g ?_⟩;have:=Qno (K:=X.K) (F:=F') 0 j;simpa using this
  |_=>cases e2
def forL(g:PV->PEnv->Option PEnv)(b:MSt):List PV->PEnv->Option Out
 |[],γ=>some (.nx γ)
 | x::xs,γ=>(g x γ).bind λγ1=>(b γ1).bind λo=>match o with
  |.nx j=>forL g b xs j
  |.ct j=>forL g b xs j
  |.bk j=>some (.nx j)
  |.rt p=>some (.rt p)
  |.ro ys=>some (.ro ys)
def sFor(ms:List Nat)(mi:PEnv->Option (List PV))(g:PV->PEnv->Option PEnv)(b:MSt):MSt:=λγ=>(mi γ).bind λxs=>forL g b xs (frz ms γ)
def QkF{K:ac}(S1:SR K B F₀ F' σ H' γ1)(it:ItRep K J F' xs)(e2:forL g sb xs γ1=some o)(ok:Qpr K B F₀ D o) :
  ∃W:Nat->Nat->St->Hp->Prop,(∃m,W 0 m σ H')/\∀i m σ H,W i m σ H ->
   (J.stop i H/\D.nx σ H)\/(J.go i H/\∃N ,(∀σ' H',N σ' H'->∃O,O<m/\W (i+1) O σ' H')/\∀x H',J.yld i H x H'->tMG K ts g x σ H' λG H2=>tMS K sb { D with nx:=N,ct:=N,bk:=D.nx } G H2):=by
 refine⟨λi m σ H=>m=xs.length-i/\i<=xs.length/\∃F γ,SR K B F₀ F σ H γ/\Same F' F/\forL g sb (xs.drop i) γ=some o,⟨xs.length,by simp,bz _,F',γ1,S1,Same.refl _,by simpa using e2⟩,?_⟩;rintro i m G H2 ⟨rfl,hi,F2,M,S2,I,e2⟩;by_cases E:i<xs.length
 .refine .inr ⟨it.go i H2 E (I.trans S2.sub),λσ H=>∃F γ,SR K B F₀ F σ H γ/\Same F' F/\forL g sb (xs.drop (i+1)) γ=some o,λσ' H' q=>⟨xs.length-(i+1),by omega,rfl,E,q⟩,λx U y=>?_⟩;obtain⟨p,e3,Y⟩:=it.yld i H2 x U E (I.trans S2.sub) y;obtain⟨Q,T,r3⟩:=Y F2 I S2.sub;have S3:=S2.grow T;have ed:xs.drop i=p::xs.drop (i+1):=by
   have q:=(al.mp e3)
   obtain⟨q1,q2⟩:=q;rw[<-q2];exact bL q1
  rw[ed]at e2;obtain⟨L,e4,e2⟩:=Qe e2;obtain⟨ob,e5,e2⟩:=Qe e2;refine⟨B,F₀,Q,M,p,L,S3,r3,e4,λσ4 S4 _ _=>?_⟩;have x3 :=I.trans T.ext;refine⟨B,F',Q,L,ob,S4.up S1.f0 x3,e5,?_⟩;cases ob with
  |nx j=>exact λσ H F S=>⟨F,j,S.down S1.f0 S1.fb,S.f0,e2⟩
  |ct j=>exact λσ H F S=>⟨F,j,S.down S1.f0 S1.fb,S.f0,e2⟩
  |bk j =>
   cases e2;exact λσ H F S=>ok σ H F (S.down S1.f0 S1.fb)
  |rt p =>
   cases e2;exact λv H F gr r=>ok v H F (gr.down S1.f0 S1.fb) r
  |ro ys =>
   cases e2;exact λa vs H F gr n nF hH r=>ok a vs H F (gr.down S1.f0 S1.fb) n nF hH r
 .have e:i=xs.length:=by omega
  subst e;rw[eR]at e2;cases e2;exact .inl ⟨it.stop H2 (I.trans S2.sub),ok G H2 F2 S2⟩
def Qml{mi:PEnv->Option (List PV)}(G:gT (model X.prog X.w) X.A X.env X.xe)(hc:X.calm=true)(hi:IM X ms tg iter mi)(O:GM X ts tg g)(U:SMs X body sb)(hs:∀x,cb iter X.env x=pure x:=by intro _;rfl):SM X (.For tg iter body [] pos) (sFor ms mi g sb):=PS.imp (QiT G hc hi O U hs) λD σ H ⟨B,F₀,F,γ,o,S,e,ok⟩=>by
 obtain⟨xs,e1,e2⟩:=Qe e;obtain⟨j,S1,E,m⟩:=S.see ms;exact⟨j,γ,xs,S1.sub,m,e1,λJ H' F' gr it=>QkF (S1.grow gr) it e2 ok⟩
def Qac(mi:PEnv->Option (List PV))(g:PV->PEnv->Option PEnv)(b:MSt):MSt:=λγ=>(mi γ).bind λxs=>forL g b xs γ
def IMR(X:Cx)(ms:List Nat)(tg iter:Expr)(m:PEnv->Option (List PV)):Prop:=PI X tg iter λσ H R=>∃F γ xs,Same F H/\ERep X.K F σ γ ms/\m γ=some xs/\∀J H',Same H H'->(∀F,ItRep X.K J F xs)->R J H'
def YZ{mi:PEnv->Option (List PV)}(G:gT (model X.prog X.w) X.A X.env X.xe)(hc:X.calm=true)(hi:IMR X ms tg iter mi)(O:GM X ts tg g)(U:SMs X body sb)(hs:∀x,cb iter X.env x=pure x:=by intro _;rfl):SM X (.For tg iter body [] pos) (Qac mi g sb):=PS.imp (QiT G hc hi O U hs) λD σ H ⟨B,F₀,F,γ,o,S,e,ok⟩=>by
 obtain⟨xs,e1,e2⟩:=Qe e;obtain⟨j,S1,E,m⟩:=S.see ms;exact⟨j,γ,xs,S1.sub,m,e1,λJ H' sm it=>QkF (S.same sm) (it F) e2 ok⟩
def Zm(G:Gl X "range")(hm:X.mg "range"=none)(J:AM X ms [a] (Qa m aNil))(hs:ai [a] X.env=[(false,eval a X.env)]:=by rfl):IMR X ms tg (.Call (.Name "range" p2) [a] [] pos) (iRg1 m) :=
 PI.imp (Qho G hm J hs) λσ H R ⟨F,γ,xs,h1,h2,B,w⟩=>by
  obtain⟨p,e1,e2⟩:=Qe B;refine⟨F,γ,[p],h1,h2,by simp[Qa,aNil,e1],λvs H' F' g q=>?_⟩;obtain⟨v,t,rfl,q,D⟩:=q;subst D;cases p with
  |int j =>
   obtain⟨c,rfl⟩:=Qt e2;obtain⟨E,I⟩:=QmR c;subst q;refine⟨j,rfl,E,I,w _ _ g.same λF=>?_⟩;have:=Qno (K:=X.K) (F:=F) 0 j;grind
  |_=>cases e2
end
def capS(γ:PEnv)(j:Nat):Slot:=match getV γ j with
 |some p=>.fz p
 |none=>.un
def blkG(nt:Nat)(caps:List Nat)(γ:PEnv):PEnv:=dB nt .un++caps.map (capS γ)
def QaQ(g:PV->PEnv->Option PEnv)(t:PEnv->Option Bool)(e:MEx)(γ:PEnv):List PV->Option (List PV)
 |[]=>some []
 |x::xs=>(g x γ).bind λγ1=>(t γ1).bind λk=>if k=true then (e γ1).bind λy=>(QaQ g t e γ xs).map (y :: ·) else QaQ g t e γ xs
def Yg(mi:PEnv->Option (List PV))(nt:Nat)(caps:List Nat)(g:PV->PEnv->Option PEnv)(t:PEnv->Option Bool)(e:MEx):PEnv->Option (List PV) :=
 λγ=>(mi γ).bind λxs=>if xs.length<=LIM then QaQ g t e (blkG nt caps γ) xs else none
def YE:PEnv->Option Bool:=λ_=>some true
def IfM(X:Cx)(ms:List Nat)(ifs:List Expr)(t:PEnv->Option Bool):Prop:=PIfs X ifs (tMT X.K ms t)
def XG:IfM X [] [] YE:=λpins s σ H Q I ⟨F,γ,r,h1,h2,j,w⟩=>pifs_nil pins s σ H Q I (by
 cases j;exact w H F (.refl h1))
def Qjc(h:TM X ms c t):IfM X ms [c] t:=pifs_one h
def blk_sr{K:ac}{F H:Hp}{σ:St}{γ:PEnv}{nt:Nat}{caps:List Nat}(h:Same F H)(G:ERep K F σ γ caps):SR K H F F (XI nt caps σ) H (blkG nt caps γ):=by
 have key:∀(i:Nat)(t:Slot),(blkG nt caps γ)[i]?=some t->t = .un\/∃j p,caps[i-nt]?=some j/\nt<=i/\getV γ j=some p/\t = .fz p:=λi t e=>by
  unfold blkG at e;by_cases hi:i<nt
  .rw[b0 (by simpa using hi),cP,ak hi]at e;exact .inl (aR e).symm
  .rw[cs (by simpa using hi),cz,a0]at e;cases q:caps[i-nt]? with
   |none=>rw[q]at e;cases e
   |some j =>
    rw[q]at e;have e:capS γ j=t:=aR e;unfold capS at e;split at e
    .rename_i p B;exact .inr ⟨j,p,rfl,by omega,B,e.symm⟩
    .exact .inl e.symm
 refine⟨h,Same.refl _,Same.refl _,λa o e=>.inl e,by simp[XI,blkG],λi p e=>?_,λi xs e=>?_,λi j xs ys a _ e=>?_,⟨λi xs e=>?_,λi j xs ys a _ e=>?_⟩⟩
 .rcases key i _ e with z|⟨j,m,e1,hi,e2,z⟩
  .cases z
  .cases z;obtain⟨v,h1,h2⟩:=G j (dh e1) p e2;refine⟨v,?_,h2⟩;unfold XI;rw[cs (by simpa using hi),cz,a0,e1];show some ((σ[j]?).getD none)=some (some v);rw[h1];rfl
 .rcases key i _ e with z|⟨j,m,e1,hi,e2,z⟩<;>cases z
 .rcases key i _ e with z|⟨D,m,e1,hi,e2,z⟩<;>cases z
 .rcases key i _ e with z|⟨j,m,e1,hi,e2,z⟩<;>cases z
 .rcases key i _ e with z|⟨D,m,e1,hi,e2,z⟩<;>cases z
def noOw_set{γ:PEnv}{i:Nat}{p:PV}(h:∀(j:Nat),Xr γ j):∀(j:Nat),Xr (γ.set i (.fz p)) j:=λj=>by
 by_cases z:i=j
 .subst z;by_cases hi:i<γ.length
  .exact⟨(λxs e=>by rw[au hi]at e;cases e),(λxs e=>by rw[au hi]at e;cases e)⟩
  .exact⟨(λxs e=>by rw[aY (by simpa using hi)]at e;cases e),(λxs e=>by rw[aY (by simpa using hi)]at e;cases e)⟩
 .exact⟨(λxs e=>by rw[ah z]at e;exact(h j).1 xs e),(λxs e=>by rw[ah z]at e;exact(h j).2 xs e)⟩
def QnI{nt:Nat}{caps:List Nat}{γ:PEnv}{j:Nat}{t:Slot}(e:(blkG nt caps γ)[j]?=some t):t = .un\/∃p,t = .fz p:=by
 unfold blkG at e;by_cases hi:j<nt
 .rw[b0 (by simpa using hi),cP,ak hi]at e;exact .inl (aR e).symm
 .rw[cs (by simpa using hi),cz,a0]at e;cases q:caps[j-nt]? with
  |none=>rw[q]at e;cases e
  |some k =>
   rw[q]at e;have e:capS γ k=t:=aR e;unfold capS at e;split at e
   .exact .inr ⟨_,e.symm⟩
   .exact .inl e.symm
def noOw_blk{nt:Nat}{caps:List Nat}{γ:PEnv}:∀(j:Nat),Xr (blkG nt caps γ) j:=λj =>
 ⟨(λxs e=>by rcases QnI e with z|⟨p,z⟩<;>cases z),(λxs e=>by rcases QnI e with z|⟨p,z⟩<;>cases z)⟩
def NoOw(g:PV->PEnv->Option PEnv):Prop:=∀p γ γ',g p γ=some γ'->(∀j,Xr γ j)->∀j,Xr γ' j
def QJ i:NoOw (gSet i):=λp γ γ' e h=>by cases e;exact noOw_set h
section
variable{X:Cx}{pins:List (Addr×Obj)}{scope:dS}{N':List Str}{nt:Nat}{caps:List Nat}{tg iter elt:Expr}{ifs:List Expr}{pos:Pos}{ms ns ls:List Nat}{ts:List Nat}{mi:PEnv->Option (List PV)}{g:PV->PEnv->Option PEnv}{t:PEnv->Option Bool}{m:MEx}
def QhO{K:ac}{O H1:Hp}{J:It}{σ:St}{γ:PEnv}{xs ys:List PV}{Qd:Addr->Hp->Prop}(hts:∀i∈ts,i<nt)(hno:NoOw g)(h1:Same O H1)(er:ERep K O σ γ caps)(it:ItRep K J O xs)(hl:xs.length<=LIM)(e:QaQ g t m (blkG nt caps γ) xs=some ys)(w:∀D vs H2 F2,Grow O H1 F2 H2->H1 D=none->F2 D=none->H2 D=some (.lst vs)->RepL K F2 ys vs->Qd D H2) :
  Qha J nt caps (tMG K ts g) (tMT K ns t) (tM K ls m) σ H1 Qd:=by
 intro D Y;have nF1 :=h1.free Y;refine⟨λi k B H=>k=xs.length-i/\i<=xs.length/\∃F ps rest,Grow O H1 F H/\F D=none/\H D=some (.lst B)/\RepL K F ps B/\QaQ g t m (blkG nt caps γ) (xs.drop i)=some rest/\ps++rest=ys/\ps.length<=i,
  ⟨xs.length,by simp,bz _,O,[],ys,.side h1 Y,nF1,Qk,.nil,by simpa using e,rfl,am _⟩,?_⟩
 rintro i k B H ⟨rfl,hi,F,ps,rest,gr,nF,hH,rp,e,ey,hpl⟩;by_cases E:i<xs.length
 .refine .inr ⟨it.go i H E (gr.ext.trans gr.sub),λx H3 y=>?_⟩;obtain⟨p,e3,hy⟩:=it.yld i H x H3 E (gr.ext.trans gr.sub) y;obtain⟨F3,M,r3⟩:=hy F gr.ext gr.sub;have ed:xs.drop i=p::xs.drop (i+1):=by
   obtain⟨q1,q2⟩:=al.mp e3;rw[<-q2];exact bL q1
  rw[ed]at e;obtain⟨G,e4,e⟩:=Qe e;obtain⟨b,e5,e⟩:=Qe e;have g13:=gr.trans M;have S3:=blk_sr (nt:=nt) M.sub (er.mono g13.ext);refine⟨H3,F3,F3,_,p,G,S3,r3,e4,λσ4 S4 l4 k4=>⟨⟨l4,λn v hv=>?_⟩,?_⟩⟩
  .by_cases hn:n∈ts
   .have Q:=hts n hn;unfold XI at hv;rw[b0 (by simpa using Q),cP,ak Q]at hv;cases hv
   .rw[k4 n hn];exact hv
  .have T:=hno p _ G e4 noOw_blk;refine⟨F3,G,b,M.sub,S4.erep λj _=>T j,e5,λH5 F5 g5=>?_⟩;have nD:∀{F' H':Hp},Grow F H F' H'->F' D=none:=λ{F' H'} gg=>by
    cases q:F' D with
    |none=>rfl
    |some o =>
     rcases gg.new D o q with z | z
     .rw[nF]at z;cases z
     .rw[hH]at z;cases z
   cases b with
   |true =>
    obtain⟨yv,e6,e⟩:=Qe e;obtain⟨L,e7,e8⟩:=QN e;refine⟨F5,G,yv,g5.sub,(S4.erep λj _=>T j).mono g5.ext,e6,λv H6 F6 g6 q6=>?_⟩;have gg:=M.trans (g5.trans g6);have hD6 :=gg.same _ _ hH;have U:=nD gg;refine⟨hD6,?_,xs.length-(i+1),by omega,rfl,E,F6,ps++[yv],L,?_,U,Qk,(rp.mono gg.ext).snoc q6,e7,?_,?_⟩
    .rw[rp.length];exact aG (by omega) QU
    .have I:=gr.trans gg;refine⟨I.ext,λa o q=>?_,λa o q=>?_,I.new⟩
     .rw[Qj (Ql q U)];exact I.sub a o q
     .rw[Qj (Ql q Y)];exact I.same a o q
    .rw[fP,j3,e8];exact ey
    .rw[aJ,gL];omega
   |false =>
    have gg:=M.trans g5;exact⟨xs.length-(i+1),by omega,rfl,E,F5,ps,rest,gr.trans gg,nD gg,gg.same _ _ hH,rp.mono gg.ext,e,ey,by omega⟩
 .have e':i=xs.length:=by omega
  subst e';rw[eR]at e;cases e;rw[bQ]at ey;subst ey;exact .inl ⟨it.stop H (gr.ext.trans gr.sub),w D B H F gr Y nF hH rp⟩
def YC(hc:X.calm=true)(Y:CompOk X.N X.env.scope scope N' nt caps)(O:∀i∈ts,i<nt)(U:NoOw g)(hi:IM X ms tg iter mi)(hg:∀pins cl C s H fp,GM (QaR X pins N' (Zf X.env.scope scope) cl C s H fp) ts tg g)(ht:∀pins cl C s H fp,IfM (QaR X pins N' (Zf X.env.scope scope) cl C s H fp) ns ifs t)(he:∀pins cl C s H fp,EM (QaR X pins N' (Zf X.env.scope scope) cl C s H fp) ls elt m)(hs:∀x,cb iter X.env x=pure x:=by intro _;rfl)(G:relabel scope X.env=Zf X.env.scope scope:=by rfl) :
  EO X (ms++caps) (.ListComp elt [⟨tg,iter,ifs,0⟩] scope pos) (Yg mi nt caps g t m) :=
 PE.imp (pe_comp (g:=tMG X.K ts g) (tc:=tMT X.K ns t) (te:=tM X.K ls m) hc Y hi hg ht he hs G) λσ H Q ⟨F,γ,ys,h1,h2,j,w⟩=>by
  obtain⟨xs,e1,j⟩:=Qe j;have E:xs.length<=LIM:=by
   grind
  rw[ak E]at j;refine⟨F,γ,xs,h1,h2.left,e1,λJ H1 T B it=>?_⟩;exact QhO O U B.sub (h2.right.mono B.ext) it E j λD vs H2 F2 I n L M q=>w D vs H2 F2 (B.trans I) (B.same.free n) L M q
def Qjp(hN:X.N.Nodup)(O:X.N[i]?=some y)(hy:X.env.scope.names.lookup y=some .local)(hc:X.calm=true)(ck:CompOkC X.N X.env.scope scope N' nt caps)(U:∀i∈ts,i<nt)(Y:NoOw g)(hi:IM X ms tg iter mi)(hg:∀pins cl C s H fp,GM (Xq X (ownC scope) pins N' (Zf X.env.scope scope) cl C s H fp) ts tg g)(ht:∀pins cl C s H fp,IfM (Xq X (ownC scope) pins N' (Zf X.env.scope scope) cl C s H fp) ns ifs t)(he:∀pins cl C s H fp,EM (Xq X (ownC scope) pins N' (Zf X.env.scope scope) cl C s H fp) ls elt m)(hsw:cp (.ListComp elt [⟨tg,iter,ifs,0⟩] scope pos) (some (.Name y py)) spos.line X.env=pure true:=by rfl)(hs:∀x,cb iter X.env x=pure x:=by intro _;rfl)(G:relabel scope X.env=Zf X.env.scope scope:=by rfl) :
  SM X (.Assign [.Name y py] (.ListComp elt [⟨tg,iter,ifs,0⟩] scope pos) spos) (QE (ms++caps) i (Yg mi nt caps g t m)) :=
 PS.imp (Qjx (g:=tMG X.K ts g) (tc:=tMT X.K ns t) (te:=tM X.K ls m) hN O hy hc ck hi hg ht he hsw hs G) λD σ H ⟨B,F₀,F,γ,o,S,e,ok⟩=>by
  obtain⟨ys,j,e2⟩:=QN e;subst e2;obtain⟨xs,e1,j⟩:=Qe j;have I:xs.length<=LIM:=by
   grind
  rw[ak I]at j;obtain⟨M,S1,Q,L⟩:=S.see (ms++caps);refine⟨M,γ,xs,S1.sub,L.left,e1,λJ H1 F2 E it=>?_⟩;refine QhO U Y E.sub (L.right.mono E.ext) it I j λD vs H2 F3 T n nF hH q=>?_;obtain⟨F4,S4⟩:=S.setNew Q S1 (E.trans T) (E.same.free n) nF hH q i;exact ok _ _ F4 S4
def QaE(hN:X.N.Nodup)(O:X.N[i]?=some y)(hy:X.env.scope.names.lookup y=some .local)(hc:X.calm=true)(J:CompOk X.N X.env.scope scope N' nt caps)(U:∀i∈ts,i<nt)(Y:NoOw g)(hi:IM X ms tg iter mi)(hg:∀pins cl C s H fp,GM (QaR X pins N' (Zf X.env.scope scope) cl C s H fp) ts tg g)(ht:∀pins cl C s H fp,IfM (QaR X pins N' (Zf X.env.scope scope) cl C s H fp) ns ifs t)(he:∀pins cl C s H fp,EM (QaR X pins N' (Zf X.env.scope scope) cl C s H fp) ls elt m)(hsw:cp (.ListComp elt [⟨tg,iter,ifs,0⟩] scope pos) (some (.Name y py)) spos.line X.env=pure true:=by rfl)(hs:∀x,cb iter X.env x=pure x:=by intro _;rfl)(G:relabel scope X.env=Zf X.env.scope scope:=by rfl) :
  SM X (.Assign [.Name y py] (.ListComp elt [⟨tg,iter,ifs,0⟩] scope pos) spos) (QE (ms++caps) i (Yg mi nt caps g t m)):=Qjp hN O hy hc J.C U Y hi (by rw[J.eqC];exact hg) (by rw[J.eqC];exact ht) (by rw[J.eqC];exact he) hsw hs G
end
def QK(n:Nat)(ps:List PV):PEnv:=ps.map .fz++dB (n-ps.length) .un
def outV:Out->Option PV
 |.nx _=>some .non
 |.rt p=>some p
 |.ro xs=>some (.lst xs)
 |_=>none
def outO:Out->Option (List PV)
 |.ro xs=>some xs
 |_=>none
def runV(N n:Nat)(m:MSt)(ps:List PV):Option PV:=if ps.length=n then (m (QK N ps)).bind outV else none
def runO(N n:Nat)(m:MSt)(ps:List PV):Option (List PV):=if ps.length=n then (m (QK N ps)).bind outO else none
def Qai:∀ps r,runV N n m ps=some r->ps.length=n:=λps r h=>by
 grind[runV]
def QfZ:∀ps r,runO N n m ps=some r->ps.length=n:=λps r h=>by
 grind[runO]
def Qdf{K:ac}{F H:Hp}{N:List Str}{ps:List PV}{vs:List V}(h:Same F H)(r:RepL K F ps vs):SR K H F F (Xg N vs) H (QK N.length ps):=by
 have key:∀(i:Nat)(t:Slot),(QK N.length ps)[i]?=some t->t = .un\/∃p,ps[i]?=some p/\t = .fz p:=λi t e=>by
  unfold QK at e;by_cases hi:i<ps.length
  .rw[b0 (by simpa using hi),a0]at e;cases q:ps[i]? with
   |none=>rw[q]at e;cases e
   |some p=>rw[q]at e;exact .inr ⟨p,rfl,(aR e).symm⟩
  .rw[cs (by simpa using hi),cP]at e;split at e
   .exact .inl (aR e).symm
   .cases e
 refine⟨h,Same.refl _,Same.refl _,λa o e=>.inl e,?_,λi p e=>?_,λi xs e=>?_,λi j xs ys a _ e=>?_,⟨λi xs e=>?_,λi j xs ys a _ e=>?_⟩⟩
 .unfold Xg QK;rw[aJ,aJ,aj,aj,cz,cz,r.length]
 .rcases key i _ e with z|⟨m,e1,z⟩
  .cases z
  .cases z;obtain⟨v,h1,h2⟩:=r.get e1;refine⟨v,?_,h2⟩;unfold Xg;have hi:i<vs.length:=(al.mp h1).1;rw[b0 (by simpa using hi),a0,h1];rfl
 .rcases key i _ e with z|⟨m,e1,z⟩<;>cases z
 .rcases key i _ e with z|⟨m,e1,z⟩<;>cases z
 .rcases key i _ e with z|⟨m,e1,z⟩<;>cases z
 .rcases key i _ e with z|⟨m,e1,z⟩<;>cases z
section
variable{P:aN}{w:bg}{K:ac}{mg:Str->Option Value}{base:Heap}
def fnM{st:Stmt}(O:Fun K x qual st f fd)(U:FnScope N ps (Qc st))(hn:ps.length=n)(J:∀G A outer s H E,Room k (A.deeper (cH qual (Qc st) s.heap.objs.size f G)) ->
   SMs (cxOf CX0 P w K mg base N qual (Qc st) f G A outer s H E).nox (Qy st) m):FnOk P w K mg base CX0 (k+1) f fd ps (spM K n (runV N.length n m)):=by
 refine O.ok U (λvs H Q E h=>by rw[h.1,hn]) λG A outer s H vs Q E D h=>?_;refine⟨_,J G A outer s H E D,?_⟩;obtain⟨Y,F,I,r,h1,h2,j,B⟩:=h;unfold runV at j;have L:I.length=n:=by grind
 rw[ak L]at j;obtain⟨o,e1,e2⟩:=Qe j;refine⟨H,F,F,_,o,Qdf h1 h2,e1,?_⟩;cases o with
 |nx γ=>cases e2;exact λσ' H' F' S=>B .non H' F' S.gr QmN
 |rt p=>cases e2;exact λv H' F' g q=>B v H' F' g q
 |ro xs=>cases e2;exact λa vs H' F' g n M T q=>B.of_lst a vs H' F' g n M T q
 |bk γ=>cases e2
 |ct γ=>cases e2
def fnO{st:Stmt}(O:Fun K x qual st f fd)(U:FnScope N ps (Qc st))(hn:ps.length=n)(J:∀G A outer s H E,Room k (A.deeper (cH qual (Qc st) s.heap.objs.size f G)) ->
   SMs (cxOf CX0 P w K mg base N qual (Qc st) f G A outer s H E).nox (Qy st) m):FnOk P w K mg base CX0 (k+1) f fd ps (spO K n (runO N.length n m)):=by
 refine O.ok U (λvs H Q E h=>by rw[h.1,hn]) λG A outer s H vs Q E B h=>?_;refine⟨_,J G A outer s H E B,?_⟩;obtain⟨Y,F,D,r,h1,h2,j,I⟩:=h;unfold runO at j;have L:D.length=n:=by grind
 rw[ak L]at j;obtain⟨o,e1,e2⟩:=Qe j;refine⟨H,F,F,_,o,Qdf h1 h2,e1,?_⟩;cases o with
 |ro xs=>cases e2;exact λa vs H' F' g n M T q=>I a vs H' F' g n M T q
 |nx γ=>cases e2
 |rt p=>cases e2
 |bk γ=>cases e2
 |ct γ=>cases e2
def _root_.L2.FnOk.sw(F:FnOk P w K mg base CX0 k f fd ps (spM K n g))(h:∀G r,J G=some r->g G=some r):FnOk P w K mg base CX0 k f fd ps (spM K n J) :=
 F.imp λvs H Q E ⟨j,F,G,r,h1,h2,m,B⟩=>⟨j,F,G,r,h1,h2,h G r m,B⟩
end
section
variable{X:Cx}{e a b c:Expr}{es:List Expr}{ms ns ls:List Nat}{m m1 m2 m3:MEx}{pos p p2 p3:Pos}{x:Str}{id T:String}
def tyName:PV->String
 |.non=>"NoneType"
 |.bl _=>"bool"
 |.int _=>"int"
 |.str _=>"str"
 |.tup _=>"tuple"
 |.lst _=>"list"
 |.obj _ _ _=>"object"
 |.opq _=>"object"
 |.dct _=>"object"
 |.dcw _=>"object"
def isO:PV->Bool
 |.obj _ _ _=>true
 |.opq _=>true
 |.dct _=>true
 |.dcw _=>true
 |_=>false
def isInt:PV->Bool
 |.int _=>true
 |.bl _=>true
 |_=>false
def isBl:PV->Bool
 |.bl _=>true
 |_=>false
def isStr:PV->Bool
 |.str _=>true
 |_=>false
def Qmc:PV->Bool
 |.tup _=>true
 |_=>false
def isLst:PV->Bool
 |.lst _=>true
 |_=>false
def Isi(T:String)(f:PV->Bool):Prop:=∀p K,isO p=false->PySem.W.kitOne K (.type (tyName p)) (.type T)=some (f p)
def isi_int:Isi "int" isInt:=λp K ho=>by cases p<;>first | (cases ho;done) | kernel_rfl
def isi_bl:Isi "bool" isBl:=λp K ho=>by cases p<;>first | (cases ho;done) | kernel_rfl
def isi_tup:Isi "tuple" Qmc:=λp K ho=>by cases p<;>first | (cases ho;done) | kernel_rfl
def Qlw(I:Inv X pins σ H s)(J:Same F H)(hi:Isi T f)(r:Rep X.K F q v)(G:RelV v u)(ho:isO q=false)(h:∀tk,Q (.bool (f q)) { s with toks:=tk }):av (model X.prog X.w) A (call (.builtin "isinstance") [u,.type T]) Q E s:=by
 have e:=hi q X.K ho;cases q with
 |non=>subst r;cases G;exact ee PySem.W.kitx_none I.kIn dm e (by grind) h
 |bl y=>subst r;cases G;exact ee PySem.W.kitx_bool I.kIn dm e (by grind) h
 |int y=>subst r;obtain⟨t,rfl⟩:=G;exact ee PySem.W.kitx_int I.kIn dm e (by grind) h
 |str y=>subst r;obtain⟨t,rfl⟩:=G;exact ee PySem.W.kitx_str I.kIn dm e (by grind) h
 |tup ys =>
  obtain⟨a,vs,rfl,k2,_⟩:=r;cases G;obtain⟨j,_,⟨o,ho,hc,_⟩,_⟩:=I.tuple (J.seqT k2);exact ee PySem.W.kitx_tuple I.kIn ⟨o,ho,hc⟩ e (by grind) h
 |lst ys =>
  obtain⟨a,vs,rfl,k2,_⟩:=r;cases G;obtain⟨j,_,⟨o,n,ho,hc,_⟩,_⟩:=I.list (J.seq k2);exact ee PySem.W.kitx_list I.kIn ⟨o,ho,hc⟩ e (by grind) h
 |obj=>cases ho
 |opq=>cases ho
 |dct=>cases ho
 |dcw=>cases ho
def QjR(hi:Isi T f):Qah X (.builtin "isinstance") (λvs H Q=>∃F v q,vs=[v,.ty T]/\Same F H/\Rep X.K F q v/\isO q=false/\Q (.bl (f q)) H):=by
 intro pins s σ H vs us Q I rs h;obtain⟨F,v,q,rfl,h1,h2,ho,m⟩:=h;obtain⟨u,w,rfl,B,j⟩:=vals2 rs;obtain rfl:w=Value.type T:=j;exact Qlw I h1 hi h2 B ho λtk=>⟨.bl (f q),H,I.tok tk,rfl,m⟩
def isiK(f:PV->Bool)(q:PV):Option PV:=if isO q=false then some (.bl (f q)) else none
def mIsi(f:PV->Bool)(m:MEx):MEx:=λγ=>(m γ).bind (isiK f)
def Qeh(hi:Isi T f)(h:EM X ms e m)(hg:Gl X "isinstance")(hm:X.mg "isinstance"=none)(J:Gl X x)(O:X.mg x=none)(U:cy x=some (.type T))(hn:x≠"__name__":=by decide)(Y:(x=="__debug__")=false:=by decide)(G:ai (e::[.Name x p3]) X.env=(false,eval e X.env)::ai [.Name x p3] X.env:=by rfl)(hs2:ai [.Name x p3] X.env=(false,eval (.Name x p3) X.env)::ai [] X.env:=by rfl)(hpl:(bB pos (ai [.Name x p3] X.env)).any (·.1)=false:=by rfl) :
  EM X ms (.Call (.Name "isinstance" p2) [e,.Name x p3] [] pos) (mIsi f m) :=
 PE.imp (YX (QjR hi) hg hm (by kernel_rfl) (ZF h (ZF (Qna (v := .ty T) J O U rfl hn Y) Qbf hs2) G) (by decide) (by decide) G hpl) λσ H Q ⟨F,γ,r,k1,k2,k3,w⟩=>by
  obtain⟨q,e1,e2⟩:=Qe k3;obtain⟨ho,e2⟩:=Qt (e2);subst e2;exact⟨F,γ,q,k1,k2,e1,λv H1 B j D=>⟨B,v,q,rfl,j.sub,D,ho,(w.go j).here j.sub (Ya _)⟩⟩
def pLen:List PV->Option PV
 |[.lst xs]=>some (.int xs.length)
 |[.tup xs]=>some (.int xs.length)
 |[.str z]=>if z.length<=LIM then some (.int z.length) else none
 |_=>none
def cm_len:QgB X (.builtin "len") pLen:=by
 intro pins s σ H vs us Q I rs h;obtain⟨F,ps,r,h1,h2,j,w⟩:=h;refine call_len pins s σ H vs us Q I rs ?_;unfold pLen at j;split at j
 .cases j;obtain⟨v,t,rfl,h2,m⟩:=h2;subst m;obtain⟨a,us,rfl,k2,k3⟩:=h2;exact⟨.ref a,_,rfl,.inl ⟨us,h1.seq k2,k3.length.symm⟩,w.here h1 (QL _)⟩
 .cases j;obtain⟨v,t,rfl,h2,m⟩:=h2;subst m;obtain⟨a,us,rfl,k2,k3⟩:=h2;exact⟨.ref a,_,rfl,.inr ⟨us,h1.seqT k2,k3.length.symm⟩,w.here h1 (QL _)⟩
 .rename_i z;obtain⟨c,rfl⟩:=Qt j;obtain⟨v,t,rfl,h2,m⟩:=h2;subst m;subst h2;exact⟨.str z,_,rfl,⟨aS c QU,rfl⟩,w.here h1 (QL _)⟩
 .cases j
def XF:List PV->Option (List PV)
 |[.lst xs]=>some xs
 |[.tup xs]=>some xs
 |_=>none
def ZK:List PV->Option PV
 |[.lst xs]=>some (.tup xs)
 |[.tup xs]=>some (.tup xs)
 |_=>none
def QnF:Qic X (.type "list") XF:=by
 intro pins s σ H vs us Q I rs h;obtain⟨F,ps,r,h1,h2,m,w⟩:=h;refine Qin pins s σ H vs us Q I rs ?_;unfold XF at m;split at m
 .cases m;obtain⟨v,t,rfl,h2,B⟩:=h2;subst B;obtain⟨a,us,rfl,k2,k3⟩:=h2;exact⟨a,us,rfl,.inl (h1.seq k2),λl j=>w l us _ F (.side h1 j) j (h1.free j) Qk k3⟩
 .cases m;obtain⟨v,t,rfl,h2,B⟩:=h2;subst B;obtain⟨a,us,rfl,k2,k3⟩:=h2;exact⟨a,us,rfl,.inr (h1.seqT k2),λl j=>w l us _ F (.side h1 j) j (h1.free j) Qk k3⟩
 .cases m
def ZX:QgB X (.type "tuple") ZK:=by
 intro pins s σ H vs us Q I rs h;obtain⟨F,ps,r,h1,h2,j,w⟩:=h;refine QgI pins s σ H vs us Q I rs ?_;unfold ZK at j;split at j
 .cases j;obtain⟨v,t,rfl,h2,m⟩:=h2;subst m;obtain⟨a,us,rfl,k2,k3⟩:=h2;refine⟨a,us,rfl,.inl ⟨h1.seq k2,λl B=>w _ _ _ (.laid h1 B) ?_⟩⟩;exact⟨l,us,rfl,.of Qk,k3.mono (Grow.laid h1 B).ext⟩
 .cases j;obtain⟨v,t,rfl,h2,m⟩:=h2;subst m;obtain⟨a,us,rfl,k2,k3⟩:=(by exact h2)
  exact⟨a,us,rfl,.inr ⟨h1.seqT k2,w.here h1 h2⟩⟩
 .cases j
def pMin:List PV->Option PV
 |[.int i,.int j]=>some (.int (if j<i then j else i))
 |_=>none
def cm_min(hc:X.calm=true):QgB X (.builtin "min") pMin:=by
 intro pins s σ H vs us Q I rs h;obtain⟨F,ps,r,h1,h2,j,w⟩:=h;refine QoS hc pins s σ H vs us Q I rs ?_;unfold pMin at j;split at j
 .cases j;obtain⟨v,t,rfl,h2,m⟩:=h2;obtain⟨D,t',rfl,B,m⟩:=m;subst m;subst h2 B;exact⟨_,_,rfl,w.here h1 (QL _)⟩
 .cases j
end
def QcF:List PV->Option (List Int)
 |[]=>some []
 |.int i::xs=>(QcF xs).map (i :: ·)
 |_::_=>none
def ZI:List PV->Option (List Str)
 |[]=>some []
 |.str i::xs=>(ZI xs).map (i :: ·)
 |_::_=>none
def Qoy ns:QcF (ns.map .int)=some ns:=by
 induction ns with
 |nil=>rfl
 |cons n ns j=>simp[QcF,j]
def strs?_map ns:ZI (ns.map .str)=some ns:=by
 induction ns with
 |nil=>rfl
 |cons n ns j=>simp[ZI,j]
theorem QhC:∀{xs:List PV}{ns:List Int},QcF xs=some ns->xs=ns.map .int
 |[],ns,h=>by cases h;rfl
 |x::xs,ns,h=>by
  cases x with
  |int i =>
   unfold QcF at h;cases e:QcF xs with
   |none=>rw[e]at h;cases h
   |some ms=>rw[e]at h;cases h;rw[QhC e];rfl
  |_=>cases h
theorem XY:∀{xs:List PV}{ns:List Str},ZI xs=some ns->xs=ns.map .str
 |[],ns,h=>by cases h;rfl
 |x::xs,ns,h=>by
  cases x with
  |str i =>
   unfold ZI at h;cases e:ZI xs with
   |none=>rw[e]at h;cases h
   |some ms=>rw[e]at h;cases h;rw[XY e];rfl
  |_=>cases h
theorem Qhn{K:ac}:∀{ns:List Int}{vs:List V},RepL K F (ns.map .int) vs->vs=ns.map V.int
 |[],vs,h=>by grind[RepL]
 |n::ns,vs,h=>by
  obtain⟨v,r,rfl,h2,j⟩:=h;rw[h2,Qhn j];rfl
theorem Qcm{K:ac}:∀(ns:List Int),RepL K F (ns.map .int) (ns.map V.int)
 |[]=>.nil
 |n::ns=>.cons (QL n) (Qcm ns)
theorem Xj{K:ac}:∀{ns:List Str}{vs:List V},RepL K F (ns.map .str) vs->vs=ns.map V.str
 |[],vs,h=>by grind[RepL]
 |n::ns,vs,h=>by
  obtain⟨v,r,rfl,h2,j⟩:=h;rw[h2,Xj j];rfl
theorem Yo{K:ac}:∀(ns:List Str),RepL K F (ns.map .str) (ns.map V.str)
 |[]=>.nil
 |n::ns=>.cons (Xa n) (Yo ns)
theorem YK:∀{ns:List Str}{us:List Value},Vals (ns.map V.str) us->jr us ns
 |[],us,r=>by cases r;exact .nil
 |n::ns,us,r=>by
  cases r with
  |cons j m =>
   obtain⟨t,e⟩:=j;subst e;exact .cons n t (YK m)
theorem QbD:∀{vs:List Value}{ns:List Str},jr vs ns->Vals (ns.map V.str) vs
 |_,_,.nil=>.nil
 |_,_,.cons n t h=>.cons ⟨t,rfl⟩ (QbD h)
section
variable{X:Cx}{e a b c:Expr}{es:List Expr}{ms ns ls:List Nat}{m m1 m2 m3:MEx}{pos p p2 p3:Pos}{x:Str}{id T:String}
def QeO(ns:List Int):List Int:=ns.mergeSort λa b=>decide (a<=b)
def Qlv ns:(QeO ns).Perm ns:=hV _ _
def isort_le ns:(QeO ns).Pairwise (· <= ·):=by
 have:=gl (le:=λ(a b)=>decide (a<=b)) (λa b c h1 h2=>by grind) (by grind) ns;exact this.imp λh=>by grind
def QkA{ns ms:List Int}(G:ms.Perm ns)(hs:ms.Pairwise (· <= ·)):ms=QeO ns :=
 fZ (λx y _ _ h1 h2=>Int.le_antisymm h1 h2) hs (isort_le ns) (G.trans (Qlv ns).symm)
def sLe(a b:Str):Bool := !decide (b.cps.toList<a.cps.toList)
def Ze(ns:List Str):List Str:=ns.mergeSort sLe
def lt_tri(a b:List Nat)(h1:¬a<b)(h2:¬b<a):a=b:=by
 grind
def QdX a b c (h1:sLe a b=true) (h2:sLe b c=true):sLe a c=true:=by
 unfold sLe at *;simp at *;have j :=h1;have m :=h2;exact List.le_trans j m
def Qhl a b:(sLe a b||sLe b a)=true:=by
 unfold sLe;grind
def QfY{a b:Str}(h1:sLe a b=true)(h2:sLe b a=true):a=b:=by
 unfold sLe at *;simp at *;have e:=lt_tri _ _ h2 h1;obtain⟨a⟩:=a;obtain⟨b⟩:=b;have j :=by simpa using e
 rw[j]
theorem QW ns:(Ze ns).Perm ns:=hV _ _
def Qdg ns:(Ze ns).Pairwise (λa b=>sLe a b=true):=gl QdX Qhl ns
def Qdh{ns ms:List Str}(G:ms.Perm ns)(hs:ms.Pairwise (λa b=>sLe a b=true)):ms=Ze ns :=
 fZ (λx y _ _ h1 h2=>QfY h1 h2) hs (Qdg ns) (G.trans (QW ns).symm)
theorem Qay:∀l x,risingS x l=true->(x::l).Pairwise (λa b=>sLe a b=true)
 |[],x,_=>by simp
 |y::l,x,h=>by
  unfold risingS at h;rw[aD,ltCps_eq]at h;have j:=Qay l y h.2;have h1 :=h.1;rw[fF]at j |-;refine⟨λz hz=>?_,by rw[fF];exact j⟩;rcases ao.mp hz with rfl | hz
  .exact h1
  .exact QdX _ _ _ h1 (j.1 z hz)
def YR l (h:sortedS l=true):l.Pairwise (λa b=>sLe a b=true):=by
 cases l with
 |nil=>simp
 |cons x l=>exact Qay l x h
def Qgx:List PV->Option (List PV)
 | [.lst xs]=>match QcF xs with
  |some ns=>if ns.length<64 then some ((QeO ns).map .int) else none
  | none=>match ZI xs with
   |some j=>if j.length<64 then some ((Ze j).map .str) else none
   |none=>none
 |_=>none
def Qek:Qic X (.builtin "sorted") Qgx:=by
 intro pins s σ H vs us Q I rs h;obtain⟨F,ps,r,h1,h2,B,w⟩:=h;unfold Qgx at B;split at B
 .obtain⟨v,t,rfl,h2,ht⟩:=h2;subst ht;obtain⟨a,ws,rfl,k2,k3⟩:=h2;obtain⟨u,rfl,ru⟩:=YD rs;cases ru;obtain⟨D,J,pl,_⟩:=I.list (h1.seq k2);have E:∀j ys zs,Vals ys j.toList->ys.length<=ax->RepL X.K F zs ys->zs=r->EP X pins σ Q (.ref (s.heap.objs.size+1)) { s with heap:=sortedAll s.heap D j }:=λj ys zs hv hz hr e=>by
   subst e;obtain⟨k,he⟩:=sortedAll_at s.heap D j;have hn :=I.hok.fresh (cf _);refine⟨.ref (s.heap.objs.size+1),upd H (s.heap.objs.size+1) (.lst ys),I.laid (λb o q=>sortedAll_old q) (cf _) ⟨hz,j.toList,k,hv,?_⟩,rfl,?_⟩
   .simpa[cF] using he
   .exact w _ ys _ F (.side h1 hn) hn (h1.free hn) Qk hr
  split at B
  .rename_i ns L;obtain⟨c,rfl⟩:=Qt B;have e2:=QhC L;subst e2;have e3:=Qhn k3;subst e3;have M:=J.length;rw[aj]at M;refine sorted_ints pl.isList (Qlz J) (by omega) λj m O G T=>?_;have U:=QkA G T;refine E j (m.map V.int) (m.map .int) (QdS O) ?_ (Qcm m) (by rw[U]);rw[aj,G.length_eq];exact bS (ew c (by decide))
  .split at B
   .rename_i ss Y;obtain⟨c,rfl⟩:=Qt B;have e2:=XY Y;subst e2;have e3:=Xj k3;subst e3;have M:=J.length;rw[aj]at M;refine sorted_strs pl.isList (YK J) (by omega) λj m O G T=>?_;have U:=Qdh G (YR _ T);refine E j (m.map V.str) (m.map .str) (QbD O) ?_ (Yo m) (by rw[U]);rw[aj,G.length_eq];exact bS (ew c (by decide))
   .cases B
 .cases B
def rMt(K:ac)(g:PV->List PV->Option PV):V->List V->Hp->VK->Prop:=λx vs H Q=>∃F p ps r,Same F H/\Rep K F p x/\RepL K F ps vs/\g p ps=some r/\Wv K F H r Q
def rMtO(K:ac)(g:PV->List PV->Option (List PV)):V->List V->Hp->VK->Prop:=λx vs H Q=>∃F p ps r,Same F H/\Rep K F p x/\RepL K F ps vs/\g p ps=some r/\Wo K F H r Q
def tyOk(T:String):PV->Bool
 |.str _=>T=="str"
 |.int _=>T=="int"
 |.lst _=>T=="list"
 |_=>false
def mMt(T:String)(g:PV->List PV->Option α)(m:MEx)(ma:PEnv->Option (List PV)):PEnv->Option α:=λγ=>(m γ).bind λp=>if tyOk T p=true then (ma γ).bind λps=>g p ps else none
def QmF{K:ac}{p:PV}(h:Same F H)(r:Rep K F p v)(t:tyOk T p=true):tyV K T v H:=by
 cases p with
 |str z=>subst r;exact eV t
 |int z=>subst r;exact eV t
 |lst xs=>obtain⟨a,vs,rfl,k2,_⟩:=r;exact .inl ⟨eV t,vs,h.seq k2⟩
 |_=>cases t
variable{o:Expr}{ma:PEnv->Option (List PV)}
def em_mt(h:EM X ms o m)(J:AM X ns (e::es) ma)(G:PE X (.Call (.Attribute o name apos) (e::es) [] cpos) (tBM X.K T (rMt X.K g) (tM X.K ms m) (tMA X.K ns ma))):EM X (ms++ns) (.Call (.Attribute o name apos) (e::es) [] cpos) (mMt T g m ma) :=
 PE.imp G λσ H Q ⟨F,γ,r,k1,k2,k3,w⟩=>by
  obtain⟨p,e1,k3⟩:=Qe k3;have c:tyOk T p=true:=by
   grind
  rw[ak c]at k3;obtain⟨ps,e2,k3⟩:=Qe k3;refine⟨F,γ,p,k1,k2.left,e1,λv H1 E j D=>⟨QmF j.sub D c,E,γ,ps,j.sub,k2.right.mono j.ext,e2,λvs H2 F2 B I=>?_⟩⟩;exact⟨F2,p,ps,r,B.sub,D.mono B.ext,I,k3,w.go (j.trans B)⟩
def eo_mt(h:EM X ms o m)(J:AM X ns (e::es) ma)(G:PE X (.Call (.Attribute o name apos) (e::es) [] cpos) (tBM X.K T (rMtO X.K g) (tM X.K ms m) (tMA X.K ns ma))):EO X (ms++ns) (.Call (.Attribute o name apos) (e::es) [] cpos) (mMt T g m ma) :=
 PE.imp G λσ H Q ⟨F,γ,r,k1,k2,k3,w⟩=>by
  obtain⟨p,e1,k3⟩:=Qe k3;have c:tyOk T p=true:=by
   grind
  rw[ak c]at k3;obtain⟨ps,e2,k3⟩:=Qe k3;refine⟨F,γ,p,k1,k2.left,e1,λv H1 E j D=>⟨QmF j.sub D c,E,γ,ps,j.sub,k2.right.mono j.ext,e2,λvs H2 F2 B I=>?_⟩⟩;exact⟨F2,p,ps,r,B.sub,D.mono B.ext,I,k3,w.go (j.trans B)⟩
def mMt0(T:String)(g:PV->List PV->Option α)(m:MEx):PEnv->Option α:=λγ=>(m γ).bind λp=>if tyOk T p=true then g p [] else none
def QhZ:PV->List PV->Option PV
 | .str x,[.lst xs]=>match ZI xs with
  |some ys=>if (ys.map (·.length)).sum+ys.length*x.length<=LIM then some (.str (aM x ys)) else none
  |none=>none
 |_,_=>none
def mm_join:MtR X "str.join" (rMt X.K QhZ):=by
 intro pins s σ H x xs v us Q I D rs h;obtain⟨F,p,ps,r,h1,h2,m,j,w⟩:=h;unfold QhZ at j;split at j
 .split at j
  .rename_i ys B;obtain⟨c,rfl⟩:=Qt j;subst h2;obtain⟨t,rfl⟩:=D;obtain⟨O,T,rfl,m,E⟩:=m;subst E;obtain⟨a,ws,rfl,k2,k3⟩:=m;obtain⟨u,rfl,G⟩:=YD rs;cases G;have e2:=XY B;subst e2;have e3:=Xj k3;subst e3;obtain⟨J,L,M,_⟩:=I.list (h1.seq k2);refine join_list M.isList (by simpa using YK L) (aS c (by decide)) λt' k=>⟨.str _,H,I.tok _,⟨_,rfl⟩,w.here h1 (Xa _)⟩
  .cases j
 .cases j
def Qnz(h:EM X ms o m)(Y:AM X ns (e::es) ma)(J:cQ o "join" X.env (eval o X.env)=eval o X.env:=by rfl)(U:((bB cpos (ai (e::es) X.env)).all (λx => !x.1)&&(gS cpos (eM [] X.env)).all (λx=>x.1.isSome)
   && decide ((e::es).length+([]:List dL).length+(if ([]:List dL).isEmpty then 0 else 1)<30))=true:=by rfl)(O:(apos.endLine==cpos.line)=true:=by rfl)(hs:ai (e::es) X.env=(false,eval e X.env)::ai es X.env:=by rfl)(G:(bB cpos (ai es X.env)).any (·.1)=false:=by rfl) :
  EM X (ms++ns) (.Call (.Attribute o "join" apos) (e::es) [] cpos) (mMt "str" QhZ m ma) :=
 em_mt h Y (Qad dF jX jW mm_join h Y J U O hs G)
def rSlS:V->Option Int->Option Int->Hp->VK->Prop:=λx lo hi H Q=>∃z,x = .str z/\z.length<=ax/\Q (.str (bT z lo hi)) H
def Qlx{h:Heap}{a:Addr}{lo hi:Option Int}(hs:h.IsSliceOf a J O .none)(U:gM J lo)(G:gM O hi):∃l u,h.IsSlice a l u none/\l.map (·.1)=lo/\u.map (·.1)=hi:=by
 cases U with
 |none =>
  cases G with
  |none=>exact⟨none,none,hs,rfl,rfl⟩
  |int j t=>exact⟨none,some (j,t),hs,rfl,rfl⟩
 |int i t' =>
  cases G with
  |none=>exact⟨some (i,t'),none,hs,rfl,rfl⟩
  |int j t=>exact⟨some (i,t'),some (j,t),hs,rfl,rfl⟩
def sl_str:SlR X rSlS:=by
 intro pins s σ H x v E G lo hi J Q I m hs B D h;obtain⟨z,rfl,hz,q⟩:=h;obtain⟨t,rfl⟩:=m;obtain⟨l,u,j,rfl,rfl⟩:=Qlx hs B D;refine⟨"str",_,ju.lookup,eJ _ _ _,lp j rfl ?_⟩;exact post_val_or_str ⟨aS (Txt.slice_le z _ _) hz,λt' k=>⟨.str _,H,I.tok _,⟨_,rfl⟩,q⟩⟩
def QcE:PV->Option Int->Option Int->Option PV
 |.str z,lo,hi=>if z.length<=LIM then some (.str (bT z lo hi)) else none
 |_,_,_=>none
variable{lo hi:Option Expr}{ml mh:PEnv->Option (Option Int)}
def QdN(he:EM X ms e m)(G:OM X ns lo ml)(J:OM X ls hi mh):EM X (ms++(ns++ls)) (.Subscript e (.Slice lo hi none p2) pos) (sl3 QcE m ml mh):=by
 refine PE.imp (Qgf sl_str he G J) λσ H Q ⟨F,γ,r,h1,h2,j,w⟩=>?_;obtain⟨x,e1,j⟩:=Qe j;obtain⟨l,e2,j⟩:=Qe j;obtain⟨h,e3,j⟩:=Qe j;refine⟨F,γ,x,h1,h2.left,e1,λM H1 E B I=>⟨E,γ,l,B.sub,h2.right.left.mono B.ext,e2,λH2 F2 D=>⟨F2,γ,h,D.sub,h2.right.right.mono (B.ext.trans D.ext),e3,λO T L=>?_⟩⟩⟩;have g:=B.trans (D.trans L);cases x with
 |str z =>
  obtain⟨c,rfl⟩:=Qt j;exact⟨z,I,aS c QU,(w.go g).here g.sub (Xa _)⟩
 |_=>cases j
end
def QiI(N:List Str)(osc scope:dS)(N':List Str)(nt:Nat)(caps:List Nat):Bool :=
 (scope.kind==.function)&&scope.names.all (λx=>x.2 != cg)&&scope.names.all (λx=>x.2 != iF.local||scope.names.lookup x.1==some .local) &&
 scope.names.all (λx=>x.2 != iF.free||(osc.names.lookup x.1==some .cell||osc.names.lookup x.1==some .free))&&(N'.length==nt+caps.length) &&
 (caps.zip (N'.drop nt)).all (λp=>N[p.1]?==some p.2&&scope.names.lookup p.2==some iF.free)
def QoR(h:QiI N osc scope N' nt caps=true):CompOk N osc scope N' nt caps:=by
 unfold QiI at h;simp only[aD,aV,ef,bne_iff_ne,bM]at h;obtain⟨⟨⟨⟨⟨h1,h2⟩,m⟩,B⟩,D⟩,E⟩:=h;refine⟨h1,h2,λx j e=>?_,λx j e=>?_,D,E⟩
 .rcases m x j with z | z
  .exact absurd e z
  .exact z
 .rcases B x j with z | z
  .exact absurd e z
  .exact z
def Qaf{X:Cx}(h1:X.N=N)(h2:X.env.scope=osc)(h:QiI N osc scope N' nt caps=true):CompOk X.N X.env.scope scope N' nt caps:=by
 rw[h1,h2];exact QoR h
def Cal(P:aN)(w:bg)(K:ac)(mg:Str->Option Value)(base:Heap)(k:Nat)(x:Str)(n:Nat)(g:List PV->Option PV):Prop :=
 ∃f fd ps,FnOk P w K mg base CX0 k f fd ps (spM K n g)/\mg x=some (.ref f)/\bN K (.ref f)=true/\YQ K fd ps []
def CalO(P:aN)(w:bg)(K:ac)(mg:Str->Option Value)(base:Heap)(k:Nat)(x:Str)(n:Nat)(g:List PV->Option (List PV)):Prop :=
 ∃f fd ps,FnOk P w K mg base CX0 k f fd ps (spO K n g)/\mg x=some (.ref f)/\bN K (.ref f)=true/\YQ K fd ps []
section
variable{X:Cx}{e:Expr}{es:List Expr}{ms:List Nat}{ma:PEnv->Option (List PV)}{x:Str}{p pos:Pos}{k j n:Nat}
def QeW(c:Cal X.prog X.w X.K X.mg X.base k x n g)(hn:∀ps r,g ps=some r->ps.length=n)(O:Room k X.A)(U:Gl X x)(Y:AM X ms (e::es) ma)(G:(x=="__debug__")=false:=by decide)(he:ai (e::es) X.env=(false,eval e X.env)::ai es X.env:=by rfl)(J:(bB pos (ai es X.env)).any (·.1)=false:=by rfl) :
  EM X ms (.Call (.Name x p) (e::es) [] pos) (Qg g ma):=by
 obtain⟨f,fd,ps,F,hm,j,m⟩:=c;exact em_call F hn O U hm j m Y G he J
def Qmu{g:List PV->Option (List PV)}(c:CalO X.prog X.w X.K X.mg X.base k x n g)(hn:∀ps r,g ps=some r->ps.length=n)(O:Room k X.A)(U:Gl X x)(Y:AM X ms (e::es) ma)(G:(x==("__debug__":Str))=false:=by decide)(he:ai (e::es) X.env=(false,eval e X.env)::ai es X.env:=by rfl)(J:(bB pos (ai es X.env)).any (·.1)=false:=by rfl) :
  EO X ms (.Call (.Name x p) (e::es) [] pos) (Qg g ma):=by
 obtain⟨f,fd,ps,F,hm,j,m⟩:=c;exact eo_call F hn O U hm j m Y G he J
def YY(h:EM X ms e m)(hs:ai [e] X.env=(false,eval e X.env)::ai [] X.env:=by rfl):PA X [e] (tMA X.K ms (Qa m aNil)):=by
 have z:=Qh h Qm hs;grind[AM]
def law_sp{K:ac}{ns:List Int}(h:∀ns:List Int,ns.length<=63->g [.lst (ns.map .int)]=some (.bl true))(G:ns.length<=63)(J:SqL K H a (ns.map V.int)) :
  spM K 1 g [.ref a] H (λv _=>v = .bl true) E:=by
 refine⟨rfl,H,[.lst (ns.map .int)],.bl true,Same.refl _,.cons ?_ .nil,h ns G,λv H' F' _ r=>?_⟩
 .exact⟨a,ns.map V.int,rfl,J,Qcm ns⟩
 grind[Rep]
end
noncomputable def pN(n:Nat):PV := .int n
def mN(n:Nat):MEx:=mC (pN n)
def QgQ:List PV->Option (List PV)
 |[.lst xs]=>some (xs.zipIdx.map λx=>.tup [pN x.2,x.1])
 |_=>none
def pEnumT:List PV->Option (List PV)
 |[.tup xs]=>some (xs.zipIdx.map λx=>.tup [pN x.2,x.1])
 |_=>none
def iSeq(m:MEx):PEnv->Option (List PV):=λγ=>(m γ).bind λp=>match p with
 |.lst xs=>some xs
 |.tup xs=>some xs
 |_=>none
def once{α:Type}[BEq α]:List α->List α
 |[]=>[]
 |x::xs=>x::(once xs).filter λy => !(y==x)
def Up(xs:Array Nat):Prop:=xs.toList.Pairwise (· < ·)
def Up.get(h:Up xs){i k:Nat}(G:i<k)(J:xs[i]?=some x)(O:xs[k]?=some y):x<y:=by
 unfold Up at h;rw[cZ]at h;obtain⟨hi,rfl⟩:=bW.mp J;obtain⟨j,rfl⟩:=bW.mp O;have:=h i k (by simpa using hi) (by simpa using j) G;simpa using this
theorem Qgv{xs:Array Nat}{j:Nat}(up:Up xs):∀fuel lo hi,hi-lo<=fuel->lo<=hi->hi<=xs.size->(∀i x,i<lo->xs[i]?=some x->x<j)->(∀i x,hi<=i->xs[i]?=some x->j<=x) ->
  gF xs j fuel lo hi<=xs.size/\(∀i x,i<gF xs j fuel lo hi->xs[i]?=some x->x<j)/\(∀i x,gF xs j fuel lo hi<=i->xs[i]?=some x->j<=x)
 |0,lo,hi,hf,H,D,h1,h2=>by
  have:lo=hi:=by omega
  subst this;exact⟨D,h1,h2⟩
 |fuel+1,lo,hi,hf,H,D,h1,h2=>by
  unfold gF;by_cases B:lo<hi
  .rw[ak B];have hm:(lo+hi)/2<xs.size:=by omega
   have E :=aI hm;have hd:xs.getD ((lo+hi)/2) j=xs[(lo+hi)/2]:=by simp[ hm]
   by_cases hc:xs.getD ((lo+hi)/2) j<j
   .rw[ak hc];refine Qgv up fuel _ hi (by omega) (by omega) D (λi x G m=>?_) h2;rcases Nat.lt_or_ge i ((lo+hi)/2) with z | z
    .have:=up.get z m E;omega
    .have:i=(lo+hi)/2:=by omega
     subst this;rw[E]at m;cases m;omega
   .rw[ar hc];refine Qgv up fuel lo _ (by omega) (by omega) (by omega) h1 λi x G m=>?_;rcases Nat.lt_or_ge ((lo+hi)/2) i with z | z
    .have:=up.get z E m;omega
    .have:i=(lo+hi)/2:=by omega
     subst this;rw[E]at m;cases m;omega
  .rw[ar B];have:lo=hi:=by omega
   subst this;exact⟨D,h1,h2⟩
def QaM(up:Up xs) j:bi xs j<=xs.size/\(∀i x,i<bi xs j->xs[i]?=some x->x<j)/\(∀i x,bi xs j<=i->xs[i]?=some x->j<=x) :=
 Qgv up xs.size 0 xs.size (by lia) (by lia) (am _) (by grind) (by grind)
def below_at(up:Up xs)(h:xs[i]?=some j):bi xs j=i:=by
 obtain⟨h1,h2,B⟩:=QaM up j;rcases lw (bi xs j) i with z | z | z
 .have hi:=(bW.mp h).1;have m:xs[bi xs j]?=some xs[bi xs j]:=aI (by omega);have a:=B _ _ (am _) m;have b:=up.get z m h;omega
 .exact z
 .have:=h2 i j z h;omega
def QlR(up:Up xs)(h:xs[i]?=some j):bi xs (j+1)=i+1:=by
 obtain⟨h1,h2,B⟩:=QaM up (j+1);rcases lw (bi xs (j+1)) (i+1) with z | z | z
 .have:=B i j (by omega) h;omega
 .exact z
 .have m:xs[i+1]?=some xs[i+1]:=aI (by omega);have a:=h2 _ _ z m;have b:=up.get (cW i) h m;omega
def QlQ(up:Up xs):bi xs 0=0:=by
 obtain⟨h1,h2,m⟩:=QaM up 0;rcases lg (bi xs 0) with z | z
 .exact z
 .have j:xs[0]?=some xs[0]:=aI (by omega);have:=h2 0 _ z j;omega
theorem QbO xs p (x:α):(gE xs p x).toList=xs.toList.take p++x::xs.toList.drop p:=by
 unfold gE;simp[ List.extract_eq_take_drop];exact cU (by simp)
def QnO(up:Up xs)(hn:j∉xs.toList):Up (gE xs (bi xs j) j):=by
 obtain⟨h1,h2,D⟩:=QaM up j;unfold Up;rw[QbO,gW,fF];have lo:∀y∈xs.toList.take (bi xs j),y<j:=λy m=>by
  obtain⟨i,hi,rfl⟩:=List.mem_take_iff_getElem.mp m;exact h2 i _ (by omega) (by
   rw[bW];exact⟨by omega,by simp⟩)
 have hi:∀y∈xs.toList.drop (bi xs j),j<y:=λy m=>by
  have hm :=cO m;obtain⟨i,hi,rfl⟩:=List.mem_drop_iff_getElem.mp m;have:=D (bi xs j+i) _ (by omega) (by
   rw[bW];exact⟨by simp at hi;omega,rfl⟩)
  have ne:j≠xs.toList[bi xs j+i]:=λe=>hn (by rw[e];exact hm);simp at ne;simp;omega
 refine⟨j6 (iG _ _) up,⟨λy m=>hi y m,j6 (lB _ _) up⟩,λa B b E=>?_⟩;rcases ao.mp E with e | e
 .rw[e];exact lo a B
 .exact ew (lo a B) (hi b e)
def Qkd{t:de}(up:Up t.place)(h:∀i,t.slot j≠.live i):j∉t.place.toList:=by
 intro hm;obtain⟨i,hi,e⟩:=eU.mp hm;have m:t.place[i]?=some j:=by
  rw[bW];exact⟨by simpa using hi,by simpa using e⟩
 have B:=below_at up m;refine h i ?_;unfold de.slot;dsimp only;rw[B,m,ak (by simp)]
theorem Qgd:∀fuel p j d,(∀q,p.dummy=some q->t.slot q = .dummy)->de.probe.go t G h fuel p=some (.empty j d)->t.slot j = .empty/\∀q,d=some q->t.slot q = .dummy
 |0,p,j,d,_,e=>by cases e
 |fuel+1,p,j,d,B,e=>by
  unfold de.probe.go at e;split at e
  .rename_i hs;cases e;exact⟨hs,B⟩
  .rename_i hs;refine Qgd fuel _ j d (λq m=>?_) e;have hd:(t.advance { p with dummy:=some p.j }).dummy=some p.j:=by
    unfold de.advance;split<;>rfl
   rw[hd]at m;cases m;exact hs
  .split at e
   .cases e
   .refine Qgd fuel _ j d (λq m=>B q ?_) e;have hd:(t.advance p).dummy=p.dummy:=by
     unfold de.advance;split<;>rfl
    rw[hd]at m;exact m
def Qij{t:de}(up:Up t.place)(e:t.freeSlot h=some (j,b)):j∉t.place.toList:=by
 unfold de.freeSlot at e;split at e
 .rename_i i d m;obtain⟨h1,h2⟩:=Qgd _ _ _ _ (λq m=>by cases m) m;cases e;cases d with
  |none =>
   refine Qkd up λk z=>?_;rw[show(none.getD i)=i from rfl,h1]at z;cases z
  |some q =>
   refine Qkd up λk z=>?_;have h2:=h2 q rfl;rw[show((some q).getD i)=q from rfl,h2]at z;cases z
 .cases e
def up_range n:Up (Array.range n):=by
 grind[Up,jP]
def QcG{α:Type}(f:Nat->Option α) n:(((az n).filterMap λj=>(f j).map (j,·)).map (·.1)).Pairwise (· < ·):=by
 have key:∀l:List Nat,l.Pairwise (· < ·)->(((l.filterMap λj=>(f j).map (j,·)).map (·.1)).Pairwise (· < ·))/\∀x∈((l.filterMap λj=>(f j).map (j,·)).map (·.1)),x∈l:=by
  intro l;induction l with
  |nil=>intro _;exact⟨by simp,by simp⟩
  |cons y l D =>
   intro B;rw[fF]at B;obtain⟨i1,i2⟩:=D B.2;cases hf:f y with
   |none =>
    rw[dr (by rw[hf];rfl)];exact⟨i1,λx m=>aw _ (i2 x m)⟩
   |some z =>
    rw[b6 (by rw[hf];rfl),aL];refine⟨fF.mpr ⟨λx m=>B.1 x (i2 x m),i1⟩,λx m=>?_⟩;rcases ao.mp m with e | e
    .rw[e];exact bp
    .exact aw _ (i2 x e)
 exact(key _ jP).1
def Kept(L:Bool)(t:de):Prop:=t.led=L/\Up t.place
def Xe(k:Kept L t) n:Kept L (t.standIn n):=⟨k.1,up_range n⟩
def Qlu(k:Kept L t) b:Kept L { t with plain:=b }:=k
def QjF(k:Kept L t) es h x:Kept L (layNew t es h x).2.1:=by
 unfold layNew;split
 .rename_i j b e;dsimp only;unfold de.orStandIn;have k2:Kept L (t.put j).1:=⟨k.1,QnO k.2 (Qij k.2 e)⟩
  split
  .exact k2
  .exact Xe k2 _
 .exact Xe k _
def Qlt(k:Kept L t) es n:Kept L (i8 t es n).2.1:=by
 unfold i8;split
 .rename_i t' order e;dsimp only;split
  .unfold de.relaid iQ at e;cases m:de.layClean (bq n-1) (es.map (·.1)) with
   |none=>rw[m]at e;cases e
   |some owner =>
    rw[m]at e;cases e;refine⟨k.1,?_⟩;exact QcG (λj=>owner.getD j none) _
  .exact Xe k _
 .exact Xe k _
section
variable{prog:aN}{w:bg}{A:bG}{E:Value->ap->Prop}{s:ap}
def SetL(prog:aN)(w:bg)(L:Bool)(h:Heap)(a:Addr)(M:List Int):Prop :=
 ∃o es ep t,h.get? a=some o/\o.ExactSet/\o.data = .set es ep t/\j7 (intKind prog w) es.toList/\(∀k,k∈M↔∃e∈es.toList,(intKind prog w).is k e.2=true) /\
  es.size<dW/\t.fits es.size=true/\es.size=M.length/\M.Nodup/\Kept L t
def SetL.at(x:SetL prog w L h a M)(e:∀o,h.get? a=some o->h'.get? a=some o):SetL prog w L h' a M:=by
 obtain⟨o,es,ep,t,ho,r⟩:=x;exact⟨o,es,ep,t,e o ho,r⟩
def more(M:List Int)(k:Int):List Int:=if k∈M then M else M++[k]
end
def byT(w:bg):Bool:=w.params.followText "set-order"
section
variable{prog:aN}{w:bg}{A:bG}{E:Value->ap->Prop}{s:ap}
def setNew v {Q₁:Value->ap->Prop} (fin:Q₁ (.ref s.heap.objs.size) { s with heap:=s.heap.push { cls := .type "set",dict:=none,data := .set #[] 0 (.fresh 0 0 (!byT w)) } }) :
  fu (model prog w) A (.call (.builtin "set.__new__") ⟨[.type "set",v],[]⟩) (wants Q₁ E) s:=by
 refine ig ?_;refine aa (gA (PySem.F.newCall_set_1 v) (af ⟨iO PySem.F.plain_set_new _,cI PySem.F.entry_set_new ?_⟩));unfold iJ.«set.__new__» iJ.Frozenset.newClass;have sub:=i7;obtain⟨j,g,d,tk,os⟩:=s
 wp_walk
 refine b5 (af ?_);dsimp only;simp only[newObj];refine aa (l7 (af ?_));exact af fin
end
section
namespace SF
def own_si:Manifest.owners.lookup (String.ofList ['r','o','t','a','r','e','t','i','_','t','e','s'].reverse)=some Manifest.sig_set_iterator:=by kernel_rfl
def si_next:lc "set_iterator" "__next__" "set_iterator.__next__" := .of (owner := "set_iterator") (n := "__next__") (by kernel_rfl) (by decide+kernel) (by decide+kernel) (by decide+kernel) (by first | exact .inl (by decide+kernel) | exact .inr (by decide+kernel)) (by kernel_rfl)
def si_entry:mf table "set_iterator.__next__"=some iJ.«set_iterator.__next__»:=entryFor_of_tree (by kernel_rfl)
def si_args a:argsOk "set_iterator.__next__" ⟨[a],[]⟩:=by
 unfold argsOk;rw[signature?_of (n:=['_','_','t','x','e','n','_','_']) (by kernel_rfl) own_si];kernel_rfl
def set_iter:mf table "set.__iter__"=some iJ.«frozenset.__iter__»:=kh (id' := "frozenset.__iter__") (by kernel_rfl) rfl (by decide+kernel) (by kernel_rfl)
end SF
theorem QaJ:∀{l:List α}{i:Nat}(h:i<l.length),(l[i]::l.eraseIdx i).Perm l
 |x::l,0,_=>.refl _
 |x::l,i+1,h=>by
  have j:=QaJ (by simpa using h);exact(List.Perm.swap _ _ _).trans (j.cons x)
theorem QmY f:∀fuel k l (G:Array α),l.length=fuel->(f9.go f fuel k l G).toList.Perm (G.toList++l)
 |0,k,l,G,h=>by
  rw[dD.mp h,bQ];exact .refl _
 |fuel+1,k,l,G,h=>by
  have m:0<l.length:=by omega
  have j:f k%l.length<l.length:=aP _ m;unfold f9.go;rw[aU j];refine(QmY f fuel (k+1) _ _ (by rw[gX,ak j];omega)).trans ?_;rw[lD,fP];refine List.Perm.append_left _ ?_;exact QaJ j
def QbG f (xs:Array α):(f9 f xs).toList.Perm xs.toList:=by
 have:=QmY f xs.size 0 xs.toList #[] (by simp);simpa[f9] using this
section
variable{prog:aN}{w:bg}{A:bG}{E:Value->ap->Prop}{s:ap}
def QlH(hn:n≠0)(h:∀i d,i<n->Q i { s with drawn:=d }):av (model prog w) A (choose G n) Q E s:=λj p _=>by
 exact⟨hn,by exact h _ _ (aP _ (Nat.pos_of_ne_zero hn))⟩
theorem Qgs:∀n xs s (Q:List α->ap->Prop),xs.length=n->(∀ys d,ys.Perm xs->Q ys { s with drawn:=d })->av (model prog w) A (drawOrder n xs) Q E s
 |0,xs,s,Q,hn,h=>by
  rw[dD.mp hn]at h;exact af (h [] s.drawn (.refl _))
 |n+1,[],s,Q,hn,h=>by simp at hn
 |n+1,x::xs,s,Q,hn,h=>by
  refine aa (QlH (by simp) λi d hi=>?_);rw[aU hi];refine aa (Qgs n _ _ _ (by rw[gX,ak hi];omega) λys j p=>?_);exact af (h _ _ ((List.Perm.cons _ p).trans (QaJ hi)))
end
end
def SIt(h:Heap)(I D:Addr)(first:Value)(i n ep:Nat):Prop:=∃o,h.get? I=some o/\o.cls = .type "set_iterator"/\o.data = .fields #[first,bA i,.ref D,bA n,bA ep]
def SetC(h:Heap)(D:Addr)(es:Array (Int×Value))(ep:Nat)(t:de):Prop:=∃o,h.get? D=some o/\o.ExactSet/\o.data = .set es ep t/\t.fits es.size=true
section
variable{prog:aN}{w:bg}{A:bG}{E:Value->ap->Prop}{s:ap}{I D:Addr}{es:Array (Int×Value)}{ep:Nat}{t:de}{i:Nat}
def SIt.typeIs(x:SIt s.heap I D first i n ep):s.TypeIs (.ref I) "set_iterator":=let ⟨o,ho,hc,_⟩:=x;⟨o,ho,hc⟩
def SIt.at(x:SIt h I D first i n ep)(e:∀o,h.get? I=some o->h'.get? I=some o):SIt h' I D first i n ep:=let ⟨o,ho,r⟩:=x;⟨o,e _ ho,r⟩
def SetC.at(x:SetC h D es ep t)(e:∀o,h.get? D=some o->h'.get? D=some o):SetC h' D es ep t:=let ⟨o,ho,r⟩:=x;⟨o,e _ ho,r⟩
def Qdp{h:Heap}(ho:h.get? I=some o)(hd:o.data = .fields vs):∃o',(h.update I (fA (·.setIfInBounds j x))).get? I=some o'/\o'.cls=o.cls/\o'.data = .fields (vs.setIfInBounds j x) :=
 ⟨_,bI _ ho (dX (dg hd _)),Obj.cls_mapFields ..,dg hd _⟩
def QmJ{slot next:Nat}(G:SIt s.heap I D (bA slot) i es.size ep)(O:SetC s.heap D es ep t)(J:∀U Y R,R (some (v,next)) s->av (model prog w) U (setNext D slot i ep) R Y s)(fin:∀h',SIt h' I D (bA next) (i+1) es.size ep->bF I s.heap h'->Q (some v) { s with heap:=h' }):av (model prog w) A (kd (.ref I)) Q E s:=by
 obtain⟨o,ho,hc,hd⟩:=id G;obtain⟨oS,m,hex,B,hf⟩:=O;refine aa (gK (cn G.typeIs SF.si_next (bD SF.si_next G.typeIs SF.si_entry ?_ (SF.si_args _))));refine aa (gA rfl (aa (iB ho hd ?_)));refine aa (dJ m B hf ?_);rw[ar (by simp)];refine aa (J _ _ _ ?_);obtain⟨o1,j,M,L⟩:=Qdp ho hd;refine aa (cS ho hd (by simp) (aa (cS j L (by simp) ?_)));obtain⟨T,H,c2,d2⟩:=Qdp j L;exact af ⟨v,rfl,af (fin _ ⟨T,H,c2.trans (M.trans hc),by rw[d2];simp[bA]⟩ ((cX _ I _).trans (cX _ I _)))⟩
def Qkb(calm:A.handled=none)(fin:∀h',(∀b o,h1.get? b=some o->h'.get? b=some o)->Q none { s with heap:=h' }) :
  av (model prog w) A.in1 (newExc (.type "StopIteration") [] >>= λe=>(raiseNew e)) (λfin s'=>∃v,fin=Fin.done (Flow.ret v)/\av (model prog w) A (pure (some v)) Q E s')
   (λe s'=>av (model prog w) A (do let b <-hQ e (.type "StopIteration");if b=true then pure none else throw e) Q E s') { s with heap:=h1 }:=by
 refine aa ?_;refine aa (a9 ?_ (by size_fits));refine aa (gA (by first | rfl | (rfl)) (a9 ?_ (by size_fits)));refine aa (wpAny_handled ?_);rw[calm];refine aa (af (wpAny_throw ?stop));case stop =>
 have ty:∀o (h2:Heap),o.cls = .type "StopIteration"->o.isFreed=false->kY { s with heap:=h2.push o } (.ref h2.objs.size) "StopIteration":=λo h2 hc hf=>⟨o,aB _ hf,hc⟩
 refine aa (gO (ty _ _ rfl rfl) isSubtype_stop ?_);exact af (fin _ λb o e=>ag _ (ag _ e))
def QmK{slot:Nat}(calm:A.handled=none)(G:SIt s.heap I D (bA slot) i es.size ep)(O:SetC s.heap D es ep t)(J:∀U Y R,R none s->av (model prog w) U (setNext D slot i ep) R Y s)(fin:∀h',(∀b o,b≠I->s.heap.get? b=some o->h'.get? b=some o)->Q none { s with heap:=h' }):av (model prog w) A (kd (.ref I)) Q E s:=by
 obtain⟨o,ho,hc,hd⟩:=id G;obtain⟨H,j,hex,m,hf⟩:=O;refine aa (gK (cn G.typeIs SF.si_next (bD SF.si_next G.typeIs SF.si_entry ?_ (SF.si_args _))));refine aa (gA rfl (aa (iB ho hd ?_)));refine aa (dJ j m hf ?_);rw[ar (by simp)];refine aa (J _ _ _ ?_);refine aa (cS ho hd (by simp) ?_);exact Qkb calm λh' k=>fin h' λb o B e=>k b o ((aX _ _ (Ne.symm B)).trans e)
def si_dsome{Tp O:Nat}(G:SIt s.heap I D (.ref Tp) i es.size ep)(U:SetC s.heap D es ep t)(J:jR s.heap Tp ys)(Y:ys[i]?=some (bA O))(he:es[O]?=some e)(fin:∀h',SIt h' I D (.ref Tp) (i+1) es.size ep->bF I s.heap h'->Q (some e.2) { s with heap:=h' }):av (model prog w) A (kd (.ref I)) Q E s:=by
 obtain⟨o,ho,hc,hd⟩:=id G;obtain⟨oS,j,hex,m,hf⟩:=U;refine aa (gK (cn G.typeIs SF.si_next (bD SF.si_next G.typeIs SF.si_entry ?_ (SF.si_args _))));refine aa (gA rfl (aa (iB ho hd ?_)));refine aa (dJ j m hf ?_);rw[ar (by simp)];obtain⟨oT,T,_,nT,B⟩:=J;refine aa (wpAny_seqItems T B ?_);dsimp only;rw[cu,Y];refine aa (aa (aT j m hf ?_));dsimp only;rw[ar (by simp),cu,he];refine af (aa (cS ho hd (by simp) ?_));obtain⟨L,H,M,d2⟩:=Qdp ho hd;exact af ⟨_,rfl,af (fin _ ⟨L,H,M.trans hc,by rw[d2];simp[bA]⟩ (cX _ I _))⟩
def si_dnone(calm:A.handled=none)(G:SIt s.heap I D (.ref Tp) i es.size ep)(O:SetC s.heap D es ep t)(J:jR s.heap Tp ys)(U:ys[i]?=none)(fin:∀h',(∀b o,b≠I->s.heap.get? b=some o->h'.get? b=some o)->Q none { s with heap:=h' }):av (model prog w) A (kd (.ref I)) Q E s:=by
 obtain⟨o,ho,hc,hd⟩:=id G;obtain⟨Y,j,hex,m,hf⟩:=O;obtain⟨oT,T,_,nT,B⟩:=J;refine aa (gK (cn G.typeIs SF.si_next (bD SF.si_next G.typeIs SF.si_entry ?_ (SF.si_args _))));refine aa (gA rfl (aa (iB ho hd ?_)));refine aa (dJ j m hf ?_);rw[ar (by simp)];refine aa (wpAny_seqItems T B ?_);dsimp only;rw[cu,U];obtain⟨o1,H,c1,M⟩:=Qdp ho hd;refine aa (cS ho hd (by simp) (aa (cS H M (by simp) ?_)));exact Qkb calm λh' k=>fin h' λb o L e=>k b o ((aX _ _ (Ne.symm L)).trans ((aX _ _ (Ne.symm L)).trans e))
def Qng(O:byT w=true)(U:SetC s.heap D es ep t) G J R (h:R (((f9 (w.params.setOrder D ep) es)[i]?).map λe=>(e.2,slot)) s):av (model prog w) G (setNext D slot i ep) R J s:=by
 obtain⟨B,j,hex,m,hf⟩:=U;refine aa (aT j m hf ?_);refine aa (aa (b5 (af ?_)));refine(show av _ G (if byT w=true then _ else _) R J s from ?_);rw[ak O,ar (by simp)];refine aa (aa (aT j m hf ?_));refine aa (aa (b5 (af ?_)));refine(show av _ G (if byT w=true then _ else _) _ J s from ?_);rw[ak O];refine aa (b5 (af (af ?_)));exact h
def Qdc(es:Array (Int×Value))(t:de):Bool := !t.plain&&decide (es.size>1)
def Qkt(O:byT w=false)(U:SetC s.heap D es ep t)(Y:Qdc es t=false)(hL:t.led=true) G J R
  (h:R (match es[bi t.place slot]?,t.place[bi t.place slot]? with | some (_,x),some j=>some (x,j+1) | _,_=>none) s):av (model prog w) G (setNext D slot i ep) R J s:=by
 obtain⟨E,m,hex,B,hf⟩:=U;refine aa (aT m B hf ?_);refine aa (aa (b5 (af ?_)));refine(show av _ G (if byT w=true then _ else _) R J s from ?_);rw[ar (by rw[O];decide)];refine(show av _ G (if Qdc es t=true then _ else _) R J s from ?_);rw[ar (by rw[Y];decide)];refine(show av _ G ((if (!t.led && !es.isEmpty)=true then unsupported "set:maker-not-led" else pure ()) >>= _) R J s from ?_);rw[ar (by rw[hL];simp)];exact aa (af (af h))
end
section
namespace SF
def si_iter:lc "set_iterator" "__iter__" "set_iterator.__iter__" := .of (owner := "set_iterator") (n := "__iter__") (by kernel_rfl) (by decide+kernel) (by decide+kernel) (by decide+kernel) (by first | exact .inl (by decide+kernel) | exact .inr (by decide+kernel)) (by kernel_rfl)
def si_iargs a:argsOk "set_iterator.__iter__" ⟨[a],[]⟩:=by
 unfold argsOk;rw[signature?_of (n:=['_','_','r','e','t','i','_','_']) (by kernel_rfl) own_si];kernel_rfl
def si_ientry:mf table "set_iterator.__iter__"=some iJ.«dict_keyiterator.__iter__»:=kh (id' := "dict_keyiterator.__iter__") (by kernel_rfl) (by first | rfl | decide+kernel | (unfold String.splitOn;simp+decide [String.splitOnAux])) (by decide+kernel) (by kernel_rfl)
end SF
section
variable{prog:aN}{w:bg}{A:bG}{E:Value->ap->Prop}{s:ap}{I D:Addr}{es:Array (Int×Value)}{ep:Nat}{t:de}
def Qiw(G:SIt s.heap I D first i n ep)(h:Q (.ref I) s):av (model prog w) A (ke (.ref I)) Q E s:=by
 refine wpAny_pyIter_slot G.typeIs SF.si_iter (bD SF.si_iter G.typeIs SF.si_ientry ?_ (SF.si_iargs _));exact af ⟨_,rfl,"set_iterator",_,G.typeIs,SF.si_next.lookup,h⟩
def cur(place:Array Nat):Nat->Nat
 |0=>0
 |i+1=>(place[i]?).getD 0+1
def QkS(h:place[i]?=some j):cur place (i+1)=j+1:=by
 show(place[i]?).getD 0+1=j+1;rw[h];rfl
theorem QhM(up:Up place):∀{i:Nat},i<=place.size->bi place (cur place i)=i
 |0,_=>QlQ up
 |i+1,h=>by
  have hi :=by omega
  have e :=aI hi;rw[QkS e];exact QlR up e
def QnN(J:byT w=true)(ne:D≠I) G (calm:G.handled=none):Walks prog w G I [I,D] [I] es.size (λi v=>((f9 (w.params.setOrder D ep) es)[i]?).map (·.2)=some v) (λi h=>i<=es.size/\SIt h I D (bA 0) i es.size ep/\SetC h D es ep t) where
 sub:=λb j=>by simp at j;simp[j]
 frame:=λi h h' x k=>⟨x.1,x.2.1.at λo e=>k I (by simp) o e,x.2.2.at λo e=>k D (by simp) o e⟩
 item:=λi s Q E hi x fin=>by
  have sz :=by
   have:=(QbG (w.params.setOrder D ep) es).length_eq;simpa using this
  have m:(f9 (w.params.setOrder D ep) es)[i]?=some ((f9 (w.params.setOrder D ep) es)[i]'(by omega)):=aI (by omega);refine QmJ x.2.1 x.2.2 (λG B R h=>Qng J x.2.2 G B R (by rw[m];exact h)) λh' z sb=>?_;exact fin _ h' s.toks (by rw[m];rfl) ⟨hi,z,x.2.2.at λo e=>(sb.2 D ne).trans e⟩ λb o j e=>(sb.2 b λq=>j (by simp[q])).trans e
 done:=λs Q E x fin=>by
  have sz :=by
   have:=(QbG (w.params.setOrder D ep) es).length_eq;simpa using this
  have m:(f9 (w.params.setOrder D ep) es)[es.size]?=none:=cV (by omega);exact QmK calm x.2.1 x.2.2 (λG B R h=>Qng J x.2.2 G B R (by rw[m];exact h)) λh' k=>fin h' s.toks λb o j e=>k b o (λq=>j (by simp[q])) e
 self:=λ_ _ _ _ x h=>Qiw x.2.1 h
def QkZ(O:byT w=false)(U:Qdc es t=false)(kp:Kept true t)(G:t.fits es.size=true)(ne:D≠I) J (calm:J.handled=none):Walks prog w J I [I,D] [I] es.size (λi v=>(es[i]?).map (·.2)=some v) (λi h=>i<=es.size/\SIt h I D (bA (cur t.place i)) i es.size ep/\SetC h D es ep t) where
 sub:=λb j=>by simp at j;simp[j]
 frame:=λi h h' x k=>⟨x.1,x.2.1.at λo e=>k I (by simp) o e,x.2.2.at λo e=>k D (by simp) o e⟩
 item:=λi s Q E hi x fin=>by
  have ps :=by
   unfold kZ at G;simp at G;exact G.1
  have m :=aI hi;have H:t.place[i]?=some (t.place[i]'(by omega)):=aI (by omega);have j:=QhM kp.2 (i:=i) (by omega);refine QmJ (next:=cur t.place (i+1)) x.2.1 x.2.2 (λJ B R h=>Qkt O x.2.2 U kp.1 J B R (by
   rw[j,m,H];rw[QkS H]at h;exact h)) λh' z sb=>?_
  exact fin _ h' s.toks (by rw[m];rfl) ⟨hi,z,x.2.2.at λo e=>(sb.2 D ne).trans e⟩ λb o j e=>(sb.2 b λq=>j (by simp[q])).trans e
 done:=λs Q E x fin=>by
  have ps :=by
   unfold kZ at G;simp at G;exact G.1
  have m:es[es.size]?=none:=cV (am _);have j:=QhM kp.2 (i:=es.size) (by omega);exact QmK calm x.2.1 x.2.2 (λJ B R h=>Qkt O x.2.2 U kp.1 J B R (by rw[j,m];exact h)) λh' k=>fin h' s.toks λb o j e=>k b o (λq=>j (by simp[q])) e
 self:=λ_ _ _ _ x h=>Qiw x.2.1 h
def Qla{ys:List Nat}(G:ys.Perm (az es.size))(ne:D≠I)(J:Tp≠I) O (calm:O.handled=none):Walks prog w O I [I,D,Tp] [I] es.size (λi v=>((ys[i]?).bind λj=>es[j]?).map (·.2)=some v)
  (λi h=>i<=es.size/\SIt h I D (.ref Tp) i es.size ep/\SetC h D es ep t/\jR h Tp (ys.map λ(j:Nat)=>bA j).toArray) where
 sub:=λb m=>by simp at m;simp[m]
 frame:=λi h h' x k=>⟨x.1,x.2.1.at λo e=>k I (by simp) o e,x.2.2.1.at λo e=>k D (by simp) o e,let ⟨o,ho,r⟩:=x.2.2.2;⟨o,k Tp (by simp) o ho,r⟩⟩
 item:=λi s Q E hi x fin=>by
  have L:ys.length=es.size:=by rw[G.length_eq,aq]
  have B:ys[i]?=some (ys[i]'(by omega)):=aU (by omega);have hm:ys[i]'(by omega)<es.size:=dC.mp (G.mem_iff.mp (bZ (by omega)));have H :=aI hm;refine si_dsome x.2.1 x.2.2.1 x.2.2.2 (by simp[B]) H λh' z sb=>?_;exact fin _ h' s.toks (by rw[B,aQ,H];rfl) ⟨hi,z,x.2.2.1.at λo e=>(sb.2 D ne).trans e,let ⟨o,ho,r⟩:=x.2.2.2;⟨o,(sb.2 Tp J).trans ho,r⟩⟩ λb o m e=>(sb.2 b λq=>m (by simp[q])).trans e
 done:=λs Q E x fin=>by
  have L:ys.length=es.size:=by rw[G.length_eq,aq]
  exact si_dnone calm x.2.1 x.2.2.1 x.2.2.2 (by simp;omega) λh' k=>fin h' s.toks λb o m e=>k b o (λq=>m (by simp[q])) e
 self:=λ_ _ _ _ x h=>Qiw x.2.1 h
end
end
section
variable{prog:aN}{w:bg}{A:bG}{E:Value->ap->Prop}{s:ap}{D:Addr}{es:Array (Int×Value)}{ep:Nat}{t:de}
def SetC.typeIs(x:SetC s.heap D es ep t):s.TypeIs (.ref D) "set":=let ⟨o,ho,hex,_⟩:=x;⟨o,ho,hex.1⟩
def iter_set{Q:Value->ap->Prop}(U:SetC s.heap D es ep t)(kp:Kept (!byT w) t)(J:es.size<dW)(fin:∀I h' d fp (ord:List (Int×Value)) P St,(∀b o,s.heap.get? b=some o->h'.get? b=some o)->(∀b∈fp,b<h'.objs.size)->(∀b∈fp,b=D\/s.heap.objs.size<=b)->I∈fp->s.heap.objs.size<=h'.objs.size ->
   ord.Perm es.toList->(∀i v,P i v->(ord[i]?).map (·.2)=some v)->(∀G ,G.handled=none->Walks prog w G I fp [I] es.size P St)->St 0 h'->D≠I->Q (.ref I) { s with heap:=h',drawn:=d }) :
  av (model prog w) A (ke (.ref D)) Q E s:=by
 obtain⟨oS,m,hex,B,hf⟩:=id U;refine wpAny_pyIter_slot U.typeIs jY (bD jY U.typeIs SF.set_iter ?_ (PySem.F.args_set_iter_1 _));unfold iJ.«frozenset.__iter__» iJ.Frozenset.slot0 slotArgs;simp only[List.isEmpty_nil,jy,cD,↓reduceIte,mj,c7,fM];refine aa (af ?_)
 try dsimp only
 refine aa (af ?_);refine aa (aa (dJ m B hf (af ?_)));refine aa (aa (aT m B hf ?_));refine aa (aa (b5 (af ?_)));refine af ?_;refine(show av _ A.in1 (if (!byT w&&Qdc es t)=true then _ else _) _ E s from ?_);have lt:D<s.heap.objs.size:=ay m;have plain:∀(P:Nat->Value->Prop)(St:Addr->Nat->Heap->Prop)(ord:List (Int×Value)),ord.Perm es.toList->(∀i v,P i v->(ord[i]?).map (·.2)=some v)->(∀I,D≠I->∀G:bG,G.handled=none->Walks prog w G I [I,D] [I] es.size P (St I)) ->
   (∀h',SIt h' s.heap.objs.size D (bA 0) 0 es.size ep->SetC h' D es ep t->St s.heap.objs.size 0 h') ->
   av (model prog w) A.in1 (do
    let first <-pure (bA 0)
    let k <-l9 D;let it <-newFields "set_iterator" [first,bA 0,cr D,bA (es.size:Nat),bA (k:Nat)]
    ret it) (λfin s'=>∃v,fin=Fin.done (Flow.ret v)/\∃T' r,s'.TypeIs v T'/\j9 (Value.type T') (lF "__next__")=pure (some r)/\Q v s') E s:=by
  intro P St ord hp hP hW T;refine aa (af (aa ?_));unfold l9;refine aa (aT m B hf (af ?_));unfold newFields;refine aa (a9 (af ⟨_,rfl,"set_iterator",_,⟨_,aB _ rfl,rfl⟩,SF.si_next.lookup,?_⟩) (by size_fits));have H:SIt (s.heap.push { cls := .type "set_iterator",data := .fields [bA 0,bA 0,cr D,bA (es.size:Nat),bA (ep:Nat)].toArray }) s.heap.objs.size D (bA 0) 0 es.size ep:=⟨_,aB _ rfl,rfl,rfl⟩
  refine fin s.heap.objs.size _ s.drawn [s.heap.objs.size,D] ord P (St s.heap.objs.size) (λb o e=>ag _ e) (λb L=>?_) (λb L=>?_) (by simp) (by rw[a7];exact cf _) hp hP (λG c=>hW _ (aC lt) G c) (T _ H (U.at λo e=>ag _ e)) (aC lt)
  .rw[a7];rcases ao.mp L with q | q
   .rw[q];exact cW _
   .rw[aA.mp q];exact bC lt
  .rcases ao.mp L with q | q
   .rw[q];exact .inr (am _)
   .exact .inl (aA.mp q)
 cases Y:byT w with
 |true =>
  rw[ar (by simp)];exact plain _ (λI i h=>i<=es.size/\SIt h I D (bA 0) i es.size ep/\SetC h D es ep t) (f9 (w.params.setOrder D ep) es).toList (QbG _ _) (λi v h=>by rw[bR];exact h) (λI ne G c=>QnN Y ne G c) λh' x y=>⟨bz _,x,y⟩
 |false =>
  rw[Y]at kp;cases hD:Qdc es t with
  |false =>
   rw[ar (by simp)];exact plain _ (λI i h=>i<=es.size/\SIt h I D (bA (cur t.place i:Nat)) i es.size ep/\SetC h D es ep t) es.toList (.refl _) (λi v h=>by rw[bR];exact h) (λI ne G c=>QkZ Y hD kp hf ne G c) λh' x y=>⟨bz _,x,y⟩
  |true =>
   rw[ak (by simp)];refine aa (Qgs _ _ _ _ (aq) λys d hy=>?_);have hl:ys.length=es.size:=by rw[hy.length_eq,aq]
   have hz:(ys.map λ(j:Nat)=>bA j).toArray.size<=ax:=by
    rw[aF,aj,hl];exact d1 J
   unfold newTuple;refine aa (a9 ?_ hz);unfold l9;refine aa (aa (aT (ag _ m) B hf (af ?_)));unfold newFields;refine aa (a9 (af ⟨_,rfl,"set_iterator",_,⟨_,aB _ rfl,rfl⟩,SF.si_next.lookup,?_⟩) (by size_fits));have M:D<(s.heap.push { cls := .type "tuple",data := .seq (ys.map λ(j:Nat)=>bA j).toArray }).objs.size:=by rw[a7];exact bC lt
   have O:s.heap.objs.size<(s.heap.push { cls := .type "tuple",data := .seq (ys.map λ(j:Nat)=>bA j).toArray }).objs.size:=by rw[a7];exact cW _
   have H:SIt ((s.heap.push { cls := .type "tuple",data := .seq (ys.map λ(j:Nat)=>bA j).toArray }).push { cls := .type "set_iterator",data := .fields [cr s.heap.objs.size,bA 0,cr D,bA (es.size:Nat),bA (ep:Nat)].toArray })
    (s.heap.push { cls := .type "tuple",data := .seq (ys.map λ(j:Nat)=>bA j).toArray }).objs.size D (.ref s.heap.objs.size) 0 es.size ep:=⟨_,aB _ rfl,rfl,rfl⟩
   refine fin _ _ d [_,D,s.heap.objs.size] (ys.map λj=>(es[j]?).getD (0,.none)) _ _ (λb o e=>ag _ (ag _ e)) (λb L=>?_) (λb L=>?_) (by simp) (by rw[a7,a7];exact Nat.le_succ_of_le (cf _)) ?_ ?_
    (λG c=>Qla (Tp:=s.heap.objs.size) hy (aC M) (aC O) G c) ⟨bz _,H,U.at λo e=>ag _ (ag _ e),⟨_,ag _ (aB _ rfl),rfl,_,rfl⟩⟩ (aC M)
   .rw[a7];rcases ao.mp L with q | q
    .rw[q];exact cW _
    .rcases ao.mp q with q | q
     .rw[q];exact bC M
     .rw[aA.mp q];exact bC O
   .rcases ao.mp L with q | q
    .rw[q];exact .inr (bS O)
    .rcases ao.mp q with q | q
     .exact .inl q
     .rw[aA.mp q];exact .inr (am _)
   .have e:es.toList=(az es.size).map λj=>(es[j]?).getD (0,.none):=by
     apply fO;intro i;rw[a0,bR];by_cases h:i<es.size
     .rw[kO h];simp[h]
     .rw[aY (by rw[aq];omega),cV (by omega)];rfl
    rw[e];exact hy.map _
   .intro i v h;rw[a0];cases hi:ys[i]? with
    |none=>rw[hi]at h;cases h
    |some j =>
     rw[hi,aQ]at h;cases hj:es[j]? with
     |none=>rw[hj]at h;cases h
     |some x=>rw[hj]at h;simp[hj];simpa using h
theorem Qbm{α:Type}[DecidableEq α]:∀{M ks:List α},M.Nodup->(∀x∈M,x∈ks)->ks.length<=M.length->ks.Perm M
 |[],ks,_,_,h=>by
  rw[dD.mp (Nat.le_zero.mp h)]
 |x::M,ks,hn,hs,B=>by
  rw[bO]at hn;have j :=hs x bp;have p:=gU j;refine p.trans (List.Perm.cons x (Qbm hn.2 (λy m=>?_) ?_))
  .exact(kz (λe=>hn.1 (by rw[<-e];exact m))).mpr (hs y (aw _ m))
  .rw[jx j];simp at B;omega
def ite_t(h:c=true)(q:av M A a R E s):av M A (if c=true then a else b) R E s:=by
 grind
def hint_set{R:Bool->ap->Prop}(G:s.TypeIs (.ref D) "set")(h:R false s):av (model prog w) A (j8 (.ref D)) R E s:=by
 unfold j8;refine aa (wpAny_specialOf G PySem.F.slot_set_len.lookup ?_);dsimp only;rw[show splitId "set.__len__"=some ("set","__len__") from by kernel_rfl];dsimp only;refine aa (gO G i7 ?_);simp only[jy,cD,gQ];refine ite_t (by kernel_rfl) (aa (eT G ?_));exact af h
def QjP{Q:List Value->ap->Prop}(calm:A.handled=none)(hS:SetC s.heap D es ep t)(kp:Kept (!byT w) t)(G:es.size<dW)(fin:∀h' tk d (ord:List (Int×Value)),(∀b o,s.heap.get? b=some o->h'.get? b=some o)->s.heap.objs.size<=h'.objs.size->ord.Perm es.toList->Q (ord.map (·.2)) { s with heap:=h',toks:=tk,drawn:=d }) :
  av (model prog w) A (collect (.ref D)) Q E s:=by
 obtain⟨oS,Y,hex,hdS,hf⟩:=id hS;have lt:D<s.heap.objs.size:=ay Y;have L:s.heap.objs.size≠D:=dY lt;unfold collect;refine aa (iA (cI PySem.F.entry_proto_collect ?_));rw[mw PySem.F.plain_proto_collect _];show av _ A.in1 (newList [] >>= λl=>again (.builtin "list.__iadd__" ⟨[l,.ref D],[]⟩)) _ _ s;refine aa (a9 (af ⟨iO jC _,cI PySem.F.entry_list_iadd ?_⟩));rw[mw jC _];have H:SetC (s.heap.push { cls := .type "list",data := .seq ([]:List Value).toArray }) D es ep t:=hS.at λo e=>ag _ e;show av _ A.in1 (f8 (.ref s.heap.objs.size) (.ref D) (.ref s.heap.objs.size)) _ _ _;unfold f8;refine aa (eT (s:={ s with heap:=s.heap.push { cls := .type "list",data := .seq ([]:List Value).toArray } }) H.typeIs ?_);have q1:lm (.ref s.heap.objs.size) (.ref D)=false:=by simp[lm,L]
 have q2:(Value.type "set"==Value.type "list")=false:=by decide
 have q3:(Value.type "set"==Value.type "tuple")=false:=by decide
 simp only[q1,q2,q3,ik,cD,gQ];refine aa (iter_set (s:={ s with heap:=s.heap.push { cls := .type "list",data := .seq ([]:List Value).toArray } }) H kp G λI h2 d fp ord P St k2 hfp B hI hsz hp hP hW st hDI=>?_);refine aa (bd ?_);have hS2:SetC h2 D es ep t:=H.at λo e=>k2 D o e;refine hint_set (s:={ s with heap:=h2,drawn:=d }) hS2.typeIs ?_;refine ite_t (by kernel_rfl) (aa (fg (aa ?_)));have L0:h2.get? s.heap.objs.size=some { cls := .type "list",data := .seq ([]:List Value).toArray }:=k2 _ _ (aB _ rfl);show av _ A.in1 (updateSeq s.heap.objs.size (·.push .none) >>= λ_=>updateSeq s.heap.objs.size (·.pop)) _ _ _;refine aa (ic L0 rfl ?_);have L1:=bI (bK (·.push cm)) L0 rfl;refine ic L1 rfl ?_;have L2:=bI (bK (·.pop)) L1 rfl;have M:s.heap.objs.size∉fp:=λz=>by
  rcases B _ z with q | q
  .exact L q
  .have q:(s.heap.push { cls := .type "list",data := .seq ([]:List Value).toArray }).objs.size<=s.heap.objs.size:=q;rw[a7]at q;exact absurd q (Nat.not_succ_le_self _)
 have W:=(hW A.in1 (by simp[calm]):Walks prog w A.in1 I fp [I] es.size P St)
 have O:∀b o,b≠s.heap.objs.size->h2.get? b=some o->((h2.update s.heap.objs.size (bK (·.push cm))).update s.heap.objs.size (bK (·.pop))).get? b=some o:=λb o U e =>
  (aX _ _ (Ne.symm U)).trans ((aX _ _ (Ne.symm U)).trans e)
 refine af ⟨iO PySem.F.plain_extend_loop _,codeAny_extend_loopS W.toS (d1 G) _ M _ es.size 0 _ _ _ rfl (bz _) (W.frame 0 _ _ st λb U o e=>O b o (λq=>M (q▸U)) e) L2 (ItemsOf.nil P) λs' J c hm T m=>?_⟩;refine aa (wpAny_load T (af ?_));obtain⟨h3,g3,d3,tk3,os3⟩:=s';obtain rfl:g3=s.gens:=hm.gens;obtain rfl:d3=d:=hm.drawn;obtain rfl:os3=s.os:=hm.os;have ol:ord.length=es.size:=by
  have:=hp.length_eq;simpa using this
 have e:J.toList=ord.map (·.2):=by
  apply fO;intro j;rw[a0,bR];by_cases hj:j<es.size
  .have g:J[j]?=some (J[j]'(by rw[m.1];exact hj)):=aI _;rw[g];exact(hP j _ (m.2 j _ g)).symm
  .rw[cV (by rw[m.1];omega),aY (by omega)];rfl
 rw[e];refine fin h3 tk3 d3 ord (λb o q=>?_) ?_ hp
 .have bl:b<s.heap.objs.size:=ay q;refine hm.heap b o (λz=>?_) (O b o (aC bl) (k2 b o (ag _ q)));rcases ao.mp z with z | z
  .exact absurd z (aC bl)
  .rw[aA.mp z]at bl;rcases B I hI with y | y
   .exact hDI y.symm
   .have y:(s.heap.push { cls := .type "list",data := .seq ([]:List Value).toArray }).objs.size<=I:=y;rw[a7]at y;exact absurd (aG bl (iE y)) (bX _)
 .exact bS (ay T)
end
section
variable{X:Cx}{e a b c:Expr}{es:List Expr}{ms ns ls:List Nat}{m m1 m2 m3:MEx}{ma:PEnv->Option (List PV)}{pos p p1 p2 p3 pos':Pos}{x:Str}{id T:String}
def _root_.L2.Inv.drawn(I:Inv X pins σ H s) d:Inv X pins σ H { s with drawn:=d }:=⟨I.ok,I.os,I.bare,I.base,I.loc,I.cell,I.free,I.freeC,I.pin,I.hok,I.len⟩
end
end L2.PM
namespace L2.PM
open PySem PySem.Spec PyProof.Rows
open PySem.AutoSeq1 (wpAny_loadPart')
end L2.PM
namespace L2.PM
open PySem PySem.Spec PyProof.Rows
section
variable{X:Cx}{pins:List (Addr×Obj)}{σ:St}{H:Hp}{s:ap}{h':Heap}
def _root_.L2.Inv.turnsNew{ch:List Addr}(I:Inv X pins σ H s)(hf:∀b∈ch,FpOk X pins H b)(k:∀b u,b∉ch->s.heap.get? b=some u->h'.get? b=some u)(G:s.heap.objs.size<=T)(new:ZY X.prog X.w (upd H T o) h' T o):Inv X pins σ (upd H T o) { s with heap:=h',toks:=tk }:=by
 have hn :=I.hok.fresh G;have lt:∀b u,s.heap.get? b=some u->b≠T:=λb u e z=>absurd (aG (ay e) (z▸G)) (bX _);have j:∀b u,H b=some u->b∉ch:=λb u e z=>by rw[(hf b z).1]at e;cases e
 refine I.call' rfl ⟨λb u e _ _ hc=>k b u hc e,λb u e _ _ hc=>⟨u.slots,k b u hc e⟩,λb u e n _=>by rw[Qj (lt b u e)];exact n,λb u e hc=>⟨u,k b u hc e⟩,λb xs e=>by rw[Qj (Ql e hn)];exact e,
  λb u v e=>by rw[Qj (Ql e hn)];exact e,λb ps e=>⟨#[],by rw[Qj (Ql e hn)];simpa using e⟩⟩ (λb u e=>?_) I.bare λb m=>?_
 .by_cases m:b=T
  .subst m;rw[Qk]at e;cases e;exact new
  .rw[Qj m]at e;refine(I.hok b u e).stay (λc v hc q=>k c v ?_ q) (λc q=>by rw[Qj (Ql q hn)];exact q) λc xs q=>by rw[Qj (Ql q hn)];exact q
   rcases hc with z | z
   .rw[z];exact j b u e
   .exact j c _ z
 .obtain⟨_,f1,_,B,D,E⟩:=hf b m;exact⟨B,f1,D,E⟩
def _root_.L2.Inv.turns{ch:List Addr}(I:Inv X pins σ H s)(hf:∀b∈ch,FpOk X pins H b)(k:∀b u,b∉ch->s.heap.get? b=some u->h'.get? b=some u):Inv X pins σ H { s with heap:=h',toks:=tk }:=by
 have j:∀b u,H b=some u->b∉ch:=λb u e z=>by rw[(hf b z).1]at e;cases e
 refine I.call' rfl ⟨by grind,λb u e _ _ hc=>⟨u.slots,k b u hc e⟩,λb u e n _=>n,by grind,λb xs e=>e,λb u v e=>e,λb ps e=>⟨#[],by grind⟩⟩ (λb u e=>?_) I.bare λb m=>?_
 .refine(I.hok b u e).stay (λc v hc q=>k c v ?_ q) (λc q=>q) λc xs q=>q;grind
 .obtain⟨_,f1,_,B,D,E⟩:=hf b m;grind
end
def Ite(G:Hp->List V->Prop):It :=
 ⟨λi H=>∃xs x,G H xs/\xs[i]?=some x,λi H v H'=>∃T x,v = .ref T/\H T=none/\H'=upd H T (.tup [.int i,x])/\∀xs,G H xs->xs[i]?=some x,λi H=>∃xs,G H xs/\xs.length<=i⟩
section
variable{X:Cx}{e a b c:Expr}{es:List Expr}{ms ns ls:List Nat}{m m1 m2 m3:MEx}{ma:PEnv->Option (List PV)}{pos p p1 p2 p3 pos':Pos}{x:Str}{id T:String}{tg:Expr}
def im_seq(h:EM X ms e m):IM X ms tg e (iSeq m):=by
 intro pins s σ H R I q;obtain⟨F,γ,xs,h1,h2,j,w⟩:=q;obtain⟨p,e1,e2⟩:=Qe j;cases p with
 |lst ys =>
  cases e2;exact Yr h pins s σ H R I ⟨F,γ,_,h1,h2,by grind[iLst],w⟩
 |tup ys =>
  cases e2;exact im_tup h pins s σ H R I ⟨F,γ,_,h1,h2,by grind[iTpl],w⟩
 |_=>cases e2
end
section
namespace SF
end SF
end
end L2.PM
namespace L2.PM
open PySem PySem.Spec PyProof.Rows
open PySem.AutoSeq1 (wpAny_loadPart')
end L2.PM
namespace L2.PM
open PySem
def extK(ms:List Nat)(i:Nat)(γ:PEnv):PV->Option Slot->Option Out
 |.tup ys,some (.ow xs)=>if xs.length+ys.length<LIM/\(!ms.contains i)=true then some (.nx ((Qw (flat (.tup ys)) ms γ).set i (.ow (xs++ys)))) else none
 |_,_=>none
def sExt(ms:List Nat)(i:Nat)(m:MEx):MSt:=λγ=>(m γ).bind λr=>extK ms i γ r γ[i]?
def cMulB(i j:Int):Bool:=cls (i.natAbs.log2<4000/\j.natAbs.log2<4000)
def Qpf:=iop cMulB λi j=>.int (i*j)
def bls?:List PV->Option (List Bool)
 |[]=>some []
 |.bl b::xs=>(bls? xs).map (b :: ·)
 |_::_=>none
theorem QkW:∀{xs:List PV}{bs:List Bool},bls? xs=some bs->xs=bs.map PV.bl
 |[],bs,h=>by cases h;rfl
 |.bl b::xs,bs,h=>by
  have h:(bls? xs).map (b :: ·)=some bs:=h;cases e:bls? xs with
  |none=>rw[e]at h;cases h
  |some j=>rw[e]at h;cases h;rw[QkW e];rfl
 |.non::_,_,h=>by cases h
 |.int _::_,_,h=>by cases h
 |.str _::_,_,h=>by cases h
 |.tup _::_,_,h=>by cases h
 |.lst _::_,_,h=>by cases h
theorem QkV:∀bs ,bls? (bs.map PV.bl)=some bs
 |[]=>rfl
 |b::bs=>by
  show(bls? (bs.map PV.bl)).map (b :: ·)=_;rw[QkV bs];rfl
def QlY:List PV->Option PV
 |[.lst xs]=>(bls? xs).map λbs=>.bl (bs.all id)
 |_=>none
end L2.PM
namespace L2.PM
open PySem PySem.Spec PyProof.Rows
namespace SF
end SF
section
variable{prog:aN}{w:bg}{A:bG}{E:Value->ap->Prop}{s:ap}
def IsRv(h:Heap)(a l:Addr)(i:Int):Prop:=∃o,h.get? a=some o/\o.cls = .type "reversed"/\o.data = .fields #[.ref l,bA i]
def IsRv.at(x:IsRv h a l i)(e:∀o,h.get? a=some o->h'.get? a=some o):IsRv h' a l i:=let ⟨o,ho,r⟩:=x;⟨o,e _ ho,r⟩
end
end L2.PM
namespace L2.PM
open PySem PySem.Spec PyProof.Rows
open PySem.AutoSeq1 (wpAny_loadPart')
def Qlp l items n b G J n2 (hc:J.cls = .type "tuple") (hd:J.data = .seq G n2)
  (Y:¬(!items.isEmpty&&cR (items.size+G.size))=true) (O:items.size<=ax) (U:items.size+G.size<=ax+1) :
  Meets (iJ.«list.extend» ⟨[.ref l,.ref b],[]⟩) (λ_ R s=>s.heap.get? l=some { cls := .type "list",dict:=none,data := .seq items n,slots := #[] }/\s.heap.get? b=some J/\R (.ok (.ret cm)) { s with heap:=s.heap.update l (bK λx=>x++G),toks:=s.toks }) :=
 .of_wp λprog w A R s h=>by
  obtain⟨E,H,data2,B⟩:=J;subst hc hd;obtain⟨I,g,d,tk,os⟩:=s;obtain⟨m,D,h⟩:=h;have L:=iR;have M:=iS;have j:(items++G).size<=ax+1:=by rw[iI];exact U
  wp_walk using (ic m rfl (hz:=O) (_hz':=j)),dt m,dt D;exact⟨_,rfl,h⟩
section
variable{X:Cx}{e a b c:Expr}{es:List Expr}{ms ns ls:List Nat}{m m1 m2 m3:MEx}{ma:PEnv->Option (List PV)}{pos p p1 p2 p3 pos':Pos}{x:Str}{id T:String}{tg:Expr}
def rExtT(K:ac):V->List V->Hp->VK->Prop:=λx vs H Q=>∃l b xs zs,x = .ref l/\vs=[.ref b]/\H l=some (.lst xs)/\SqT K H b zs/\xs.length+zs.length<=ax/\Q .non (upd H l (.lst (xs++zs)))
def mt_extT:MtM X "list.extend" (rExtT X.K):=by
 intro pins s σ H x vs v us Q I J L h;obtain⟨l,b,xs,zs,rfl,rfl,E,M,hz,q⟩:=h;cases J;obtain⟨u,rfl,O⟩:=L.one;cases O;obtain⟨z,m,n,r,Y,e⟩:=I.lstM E;obtain⟨j,G,pt,z2⟩:=I.tuple M;obtain⟨T,e2,hc,n2,hd⟩:=pt;have U:=G.length;have D:m.toArray.size+j.toArray.size<=ax:=by grind
 have B:¬(!m.toArray.isEmpty&&cR (m.toArray.size+j.toArray.size))=true:=by
  rw[Qku D,gY];grind
 refine fj F.slot_list_extend ⟨_,e,rfl⟩ F.entry_list_extend (F.args_list_extend_2 _ _)
  (Qlp l m.toArray n b j.toArray T n2 hc hd B (by grind) (by lia)) ⟨e,e2,?_⟩
 refine⟨.non,_,I.lset E e (by simp) (r.append G) ?_,rfl,q⟩;grind
end
end L2.PM
namespace L2.PM
open PySem PySem.Spec PyProof.Rows
section
variable{X:Cx}
theorem QjX:∀{bs:List Bool}{G:List Value},Vals (bs.map V.bl) G->G=bs.map gf
 |[],_,h=>by cases h;rfl
 |b::bs,_,h=>by
  cases h with
  |cons h1 h2=>rw[QjX h2,h1];rfl
theorem Qkj{K:ac}:∀{bs:List Bool}{vs:List V},RepL K F (bs.map PV.bl) vs->vs=bs.map V.bl
 |[],vs,h=>by
  grind[RepL]
 |b::bs,vs,h=>by
  obtain⟨v,t,rfl,h1,h2⟩:=h;rw[h1,Qkj h2];rfl
def kept_it{s:ap}{h':Heap}(G:∀b x,b∉[s.heap.objs.size]->(s.heap.push o).get? b=some x->h'.get? b=some x):∀b x,s.heap.get? b=some x->h'.get? b=some x :=
 λb x e=>G b x (λhm=>by rw[aA.mp hm]at e;exact bX _ (ay e)) (ag _ e)
def rng_all(bs:List Bool):((az bs.length).all λi=>(bs[i]?).getD true)=bs.all id:=by
 rw[eY,aV,aV];constructor
 .intro h x j;obtain⟨i,hi,rfl⟩:=eU.mp j;have:=h i (dC.mpr hi);simpa[hi] using this
 .intro h i hi;have hi:=dC.mp hi;simpa[hi] using h bs[i] (bZ hi)
def QoT(hc:X.calm=true):Qah X (.builtin "all") (λvs H Q=>∃(a:Addr)(bs:List Bool),vs=[.ref a]/\SqL X.K H a (bs.map V.bl)/\Q (.bl (bs.all id)) H):=by
 intro pins s σ H vs us Q I rs h;obtain⟨a,bs,rfl,h2,E⟩:=h;obtain⟨u,rfl,G⟩:=YD rs;cases G;obtain⟨J,r,L,_⟩:=I.list h2;have e:=QjX r;subst e;have m:=L.isList;have B:a<s.heap.objs.size:=by obtain⟨_,e,_⟩:=m;exact ay e
 refine call_all_walk (i6 m ?_);refine⟨s.heap.objs.size,[s.heap.objs.size,a],[s.heap.objs.size],(bs.map gf).toArray.size,_,_,λi=>(bs[i]?).getD true,rfl,Walks.list (A:=X.A.in1) (I.ok.hd hc) _ a (aC B) (bs.map gf).toArray,
  ⟨⟨_,aB _ rfl,rfl,rfl⟩,m.push _⟩,λi v s' O T j D=>?_,λh' tk M=>?_⟩
 .have j:(bs.map gf)[i]?=some v:=by simpa using j
  rw[a0,Option.map_eq_some_iff]at j;obtain⟨b,e,rfl⟩:=j;simp only[e]at D;exact cx D
 .have e:((az (bs.map gf).toArray.size).all λi=>(bs[i]?).getD true)=bs.all id:=by
   rw[aF,aj];exact rng_all bs
  rw[e];exact⟨.bl (bs.all id),H,I.kept (kept_it M),rfl,E⟩
def cm_all(hc:X.calm=true):QgB X (.builtin "all") QlY:=by
 intro pins s σ H vs us Q I rs h;obtain⟨F,ps,r,h1,h2,j,w⟩:=h;refine QoT hc pins s σ H vs us Q I rs ?_;unfold QlY at j;split at j
 .obtain⟨bs,e1,rfl⟩:=QN j;have e2:=QkW e1;subst e2;obtain⟨v,t,rfl,h2,m⟩:=h2;subst m;obtain⟨a,us,rfl,k2,k3⟩:=h2;have e3:=Qkj k3;subst e3;exact⟨a,bs,rfl,h1.seq k2,w.here h1 (Ya _)⟩
 .cases j
end
def Qld{P:aN}{w:bg}{K:ac}{O:List Expr}{kk:Nat}{pp:Pos} a it e (Y:e≠it):Turn P w K (.Tuple O kk pp) (Ite λH xs=>SqL K H a xs) [e,it] e (λi h=>(∃G,IsEnum h e it i G)/\h.IsListIter it a i) where
 mem:=by simp
 obj:=λi h st b L=>by
  obtain⟨⟨G,he⟩,o,ho,c,d⟩:=st;rcases ao.mp L with z | z
  .subst z;exact⟨_,he,λv q=>by
    cases q⟩
  .rw[aA.mp z];exact⟨o,ho,λv q=>by rw[d]at q;cases q⟩
 keep:=λi h h' st k=>by
  obtain⟨⟨G,he⟩,m⟩:=st;exact⟨⟨G,k e (by simp) _ he⟩,m.at λo q=>k it (by simp) o q⟩
 item:=by
  intro X hP hw hK hc i pins s σ H E I hf st hg;subst hP hw hK;obtain⟨xs,x,hq,hx⟩:=hg;obtain⟨M,rv,pl,hz⟩:=I.list hq;have p:=pl.isList;obtain⟨u,hu,ru⟩:=rv.get hx;have hi :=(al.mp hu).1;have nai:a≠it:=λz=>by
   obtain⟨⟨oi,hoi,ci,_⟩⟩:=(⟨st.2⟩:Nonempty _)
   obtain⟨oa,B,ca,_⟩:=p;rw[z,hoi]at B;cases B;rw[ci]at ca;exact absurd ca (by decide)
  have nae:e∉[it,a]:=λz=>by
   rcases ao.mp z with z | z
   .exact Y z
   .have z:=aA.mp z;obtain⟨⟨G,he⟩,_⟩:=st;obtain⟨oa,B,ca,_⟩:=p;rw[<-z,he]at B;cases B;exact absurd (show Value.type "enumerate"=Value.type "list" from ca) (by decide)
  have W:=WalksT.enumerateD (Draws.list (prog:=X.prog) (w:=X.w) (A:=X.A.in1) (by have:=I.ok.hd hc;simp[this]) it a nai M.toArray) e Y nae (by simp);refine W.item i s _ _ (by simpa using hi) ⟨st.1,st.2,p⟩ λT vals h1 tk hp hT tup mid k1=>?_;obtain⟨tt,y,U,rfl⟩:=hp;have U:y=u:=by
   rw[List.getElem?_toArray,hu]at U;exact(aR U).symm
  subst U;have J:=W.apart i T h1 mid;refine⟨_,rfl,W.go O kk pp i T { s with heap:=h1,toks:=tk } _ _ mid λh2 m k2=>?_⟩;have hn:H T=none:=I.hok.fresh hT;have tup2:h2.IsTuple T #[.int i tt,y]:=tup.at λo q=>k2 T o J q;have I2:Inv X pins σ (upd H T (.tup [.int i,x])) { s with heap:=h2,toks:=tk }:=I.turnsNew (ch:=[e,it]) (o := .tup [.int i,x]) hf (λb o L q=>k2 b o L (k1 b o L q)) hT ⟨by show 2<=ax;decide,[.int i tt,y],.cons ⟨tt,rfl⟩ (.cons ru .nil),Xd.pair tup2⟩;refine⟨.ref T,_,I2,rfl,⟨T,x,rfl,hn,rfl,λys U=>by rw[I.list_inj U hq];exact hx⟩,⟨m.1,m.2.1⟩,λb L=>?_⟩;have hbT:b≠T:=λz=>J (z▸L);rw[Qj hbT];exact(hf b L).1
 done:=by
  intro X hP hw hK hc i pins s σ H E I hf st hg;subst hP hw hK;obtain⟨xs,hq,hx⟩:=hg;obtain⟨M,rv,pl,hz⟩:=I.list hq;have p:=pl.isList;have hlen:=rv.length;obtain⟨⟨G,he⟩,m⟩:=st;have D:Draws X.prog X.w X.A.in1 it [it,a] i (λ_ _=>True) (λj h=>j=i/\h.IsListIter it a i/\h.IsList a M.toArray) :=
   {live:=λ_ _ q=>let ⟨_,⟨o,ho,_⟩,_⟩:=q;⟨o,ho⟩
    frame:=λ_ _ _ q k=>⟨q.1,q.2.1.at λo z=>k it (by simp) o z,q.2.2.at λo z=>k a (by simp) o z⟩
    item:=λj s Q E hj q _=>absurd q.1 (aC hj)
    done:=λs Q E q fin=>wpAny_nextOf_list_end (by have:=I.ok.hd hc;simp[this]) q.2.1 q.2.2 (by simp;omega) fin }
  exact wpAny_pyNext_enum_endD D he ⟨rfl,m,p⟩ λh1 k=>⟨rfl,I.turns hf λb o L q=>k b o (λz=>L (by simp[z])) q⟩
 self:=λA i s Q E st h=>wpAny_pyIter_enum st.1.choose_spec h
section
variable{X:Cx}{e a b c:Expr}{es:List Expr}{ms ns ls:List Nat}{m m1 m2 m3:MEx}{ma:PEnv->Option (List PV)}{pos p p1 p2 p3 pos':Pos}{x:Str}{id T:String}{tg:Expr}
def star_int:ai (.Constant (.int i) j q::es) env=(false,eval (.Constant (.int i) j q) env)::ai es env:=rfl
def QD(G:AM X [] es ma):AM X [] (.Constant (.int i) j q::es) (Qa (mC (.int i)) ma):=Qh Qb G star_int
def pi_enumL(J:Gl X "enumerate")(hm:X.mg "enumerate"=none)(O:PA X [a] ta)(hs:ai [a] X.env=[(false,eval a X.env)]:=by rfl) :
  PI X (.Tuple G kk pp) (.Call (.Name "enumerate" p) [a] [] pos) (λσ H R=>ta σ H λvs H1=>∃l,vs=[.ref l]/\(∃xs,SqL X.K H1 l xs)/\R (Ite λH xs=>SqL X.K H l xs) H1):=by
 intro pins s σ H R I h;refine Call_ (QgT I J hm (show cy "enumerate"=some (.type "enumerate") from by kernel_rfl) (fq (thn (O pos pins s σ H _ I h) λus s1 ⟨vs,H1,m,D,E⟩=>?_) hs rfl));obtain⟨l,rfl,⟨xs,L⟩,q⟩:=E;obtain⟨u,rfl,M⟩:=YD D;cases M;obtain⟨Q,Y,T,hz⟩:=m.list L;refine call_enumerate_list T.isList λh' he B _ k=>?_;refine wpAny_pyIter_enum he ?_;refine⟨s1.heap.objs.size+1,[s1.heap.objs.size+1,s1.heap.objs.size],_,_,H1,rfl,m.kept k,Qld l s1.heap.objs.size (s1.heap.objs.size+1) (Nat.succ_ne_self _),⟨⟨_,he⟩,B⟩,λb U=>?_,q⟩;have j:s1.heap.objs.size<=b:=by
  rcases ao.mp U with z | z
  .rw[z];exact cf _
  .rw[aA.mp z];exact am _
 exact m.fpOk j (m.hok.fresh j)
def QkC(hc:X.calm=true)(J:Gl X "enumerate")(hm:X.mg "enumerate"=none)(O:AM X ms [a] ma)(hs:ai [a] X.env=[(false,eval a X.env)]:=by rfl) :
  IM X ms (.Tuple G kk pp) (.Call (.Name "enumerate" p) [a] [] pos) (Qg QgQ ma) :=
 PI.imp (pi_enumL J hm O hs) λσ H R ⟨F,γ,xs,k1,k2,k3,w⟩=>by
  obtain⟨I,e1,k3⟩:=Qe k3;refine⟨F,γ,I,k1,k2,e1,λvs H1 Y D m=>?_⟩;unfold QgQ at k3;split at k3
  .cases k3;obtain⟨v,t,rfl,m,L⟩:=m;subst L;obtain⟨l,us,rfl,j,B⟩:=m;refine⟨l,rfl,⟨us,D.sub.seq j⟩,w _ _ _ D ?_⟩;refine⟨λi H2 hi e2=>?_,λi H2 v H3 hi e2 y=>?_,λH2 e2=>?_⟩
   .have M:i<us.length:=by
     rw[B.length];simpa using hi
    exact⟨us,us[i],e2.seq j,by simp[M]⟩
   .obtain⟨T,x,rfl,hn,rfl,y⟩:=y;obtain⟨p,e3,Q⟩:=B.back (y us (e2.seq j));refine⟨.tup [pN i,p],?_,λF2 U E=>?_⟩
    .simp[e3]
    .refine⟨upd F2 T (.tup [.int i,x]),.laid E hn,?_⟩;exact⟨T,[.int i,x],rfl,.of Qk,.cons (QL _) (.cons (Q.mono (U.trans (Grow.laid E hn).ext)) .nil)⟩
   .exact⟨us,e2.seq j,by rw[B.length];simp⟩
  .cases k3
end
section
variable{X:Cx}
def mulB_ok{i j:Int}(h1:i.natAbs.log2<4000)(h2:j.natAbs.log2<4000):IntMulOk i j:=by
 unfold IntMulOk;have m:∀k:Int,k.natAbs.log2<4000->fR k<=4000:=λk h=>by unfold fR;split<;>omega
 have a:=m i h1;have b:=m j h2;have:l0 (fR i+fR j)=false:=by
  unfold l0;rw[aH];have B:(8000:Int)<=bitsLine:=by decide
  omega
 rw[this];simp
def op_mulB:OpR X (bV .Mult) (rI (λi j=>i.natAbs.log2<4000/\j.natAbs.log2<4000) λi j=>.int (i*j)):=opI λ_ _ _ _ _ _ _ hc q=>mul_int q (mulB_ok hc.1 hc.2)
def om_mulB:OpM X (bV .Mult) Qpf:=QlZ op_mulB (λi j h=>Qcc h) λ_ _ _ _=>QL _
end
section
variable{X:Cx}{pos p:Pos}{x:Str}
def em_globI(G:Gl X x)(hm:X.mg x=some (.int i t))(hd:(x=="__debug__")=false:=by decide):EM X [] (.Name x pos) (mC (.int i)) :=
 PE.imp (Qiz (v := .int i) G hm ⟨t,rfl⟩ hd) λσ H Q ⟨F,γ,r,h1,h2,j,w⟩=>by
  cases j;exact w.here h1 (by rfl)
def GT(K:ac)(a:Addr)(ts:List Str):Prop:=∃o j n,K.lookup a=some o/\o.cls = .type "tuple"/\o.dict=none/\o.data = .seq j n/\j.size<=ax/\Vals (ts.map V.str) j.toList
def em_globT(G:Gl X x)(hm:X.mg x=some (.ref a))(J:GT X.K a ts)(hd:(x=="__debug__")=false:=by decide):EM X [] (.Name x pos) (mC (.tup (ts.map .str))) :=
 PE.imp (Qiz (v := .ref a) G hm rfl hd) λσ H Q ⟨F,γ,r,h1,h2,j,w⟩=>by
  cases j;refine w.here h1 ?_;exact⟨a,ts.map V.str,rfl,.inr J,Yo ts⟩
end
section
variable{X:Cx}
def Qom:OpR X (bE .LtE) (λx y H Q=>∃i j,x = .str i/\y = .str j/\Q (.bl (sLe i j)) H):=by
 intro pins s σ H x y v u Q I m B h;obtain⟨i,j,rfl,rfl,q⟩:=h;obtain⟨t,rfl⟩:=m;obtain⟨t',rfl⟩:=B;exact P.le_str (fin_bl I q rfl)
def pLeS:PV->PV->Option PV
 |.str a,.str b=>some (.bl (sLe a b))
 |_,_=>none
def om_leS:OpM X (bE .LtE) pLeS:=by
 intro pins s σ H x y v u Q I m B h;obtain⟨F,p,q,r,h1,h2,D,j,w⟩:=h;cases p<;>cases q<;>first
  | (exfalso;cases j;done)
  |skip
 cases j;exact Qom pins s σ H x y v u Q I m B ⟨_,_,h2,D,w.here h1 (Ya _)⟩
end
def Its(x:Str):It:=⟨λi _=>i<x.cps.size,λi H v H'=>H'=H/\∃c,x.cps[i]?=some c/\v = .str ⟨#[c]⟩,λi _=>x.cps.size<=i⟩
def turn_str{K:ac} x t it:Turn P w K tg (Its x) [it] it (λi h=>h.IsStrIter it "str_ascii_iterator" x t i) where
 mem:=by simp
 obj:=λi h st b j=>by
  have e :=by simpa using j
  subst e;obtain⟨o,e,c,d⟩:=st;exact⟨o,e,λv z=>by rw[d]at z;cases z⟩
 keep:=λi h h' st k=>by
  obtain⟨o,e,c,d⟩:=st;exact⟨o,k it (by simp) o e,c,d⟩
 item:=by
  intro X L hw M hc i pins s σ H E I hf st B;have hi :=B;obtain⟨f0,f1,f2,D,G,J⟩:=hf it (by simp);refine wpAny_pyNext_ascii_item st (aI hi) λh' m sb=>?_;have O :=I.turned (t':=s.toks+1) (λb o j e=>(sb.2 b j).trans e) f0 f1 D G J;obtain⟨o,e,c,d⟩:=id m;exact⟨_,rfl,Qpi e c d (by decide) ⟨.str ⟨#[x.cps[i]]⟩,H,O,⟨_,rfl⟩,⟨rfl,_,aI hi,rfl⟩,m,λb j=>(hf b j).1⟩⟩
 done:=by
  intro X L hw M hc i pins s σ H E I hf st B;have hi :=B;obtain⟨f0,f1,f2,D,G,J⟩:=hf it (by simp);exact wpAny_pyNext_ascii_end (I.ok.hd hc) st (cV hi) λh' Q=>⟨rfl,I.turned (λb o j e=>Q b o j e) f0 f1 D G J⟩
 self:=λ_ _ _ _ _ st h=>wpAny_pyIter_striter_ascii st h
section
variable{X:Cx}{tg e:Expr}{ms:List Nat}{m:MEx}
def pi_str(G:PE X l tl):PI X tg l (λσ H R=>tl σ H λv H1=>∃x,v = .str x/\x.cps.all (· < 128)=true/\R (Its x) H1):=by
 intro pins s σ H R I h;refine thn (G pins s σ H _ I h) λv s1 ⟨y,H1,j,m,B⟩=>?_;obtain⟨x,e,D,q⟩:=B;subst e;obtain⟨t,rfl⟩:=m;refine wpAny_pyIter_ascii D ?_;refine⟨s1.heap.objs.size,[s1.heap.objs.size],_,_,H1,rfl,j.kept λb o e=>ag _ e,turn_str x t _,⟨_,aB _ rfl,rfl,rfl⟩,λb E=>?_,q⟩;have e:b=s1.heap.objs.size:=by grind
 subst e;exact j.fpOk (am _) (j.hok.fresh (am _))
def Qcf(x:Str):List PV:=x.cps.toList.map λc=>.str ⟨#[c]⟩
def itX:PV->Option (List PV)
 |.str x=>if x.cps.all (· < 128)=true then some (Qcf x) else none
 |_=>none
def iStr(m:MEx):PEnv->Option (List PV):=λγ=>(m γ).bind itX
def im_str(h:EM X ms e m):IM X ms tg e (iStr m):=PI.imp (pi_str h) λσ H R ⟨F,γ,xs,h1,h2,B,w⟩=>by
 obtain⟨p,e1,e2⟩:=Qe B;refine⟨F,γ,p,h1,h2,e1,λv H' F' g q=>?_⟩;cases p with
 |str x =>
  obtain⟨D,rfl⟩:=Qt e2;subst q;refine⟨x,rfl,D,w _ _ _ g ?_⟩;have j:(Qcf x).length=x.cps.size:=by simp[Qcf]
  refine⟨λi H hi e=>?_,λi H v H' hi e y=>?_,λH e=>?_⟩
  .rw[j]at hi;exact hi
  .obtain⟨rfl,c,hc,rfl⟩:=y;refine⟨.str ⟨#[c]⟩,?_,λE I G=>⟨E,.refl G,Xa _⟩⟩;unfold Qcf;rw[a0,bR,hc];rfl
  .rw[j];exact am _
 |_=>cases e2
end
end L2.PM
namespace L2.PM
open PySem PySem.Spec PyProof.Rows PySem.Builtin PySem.Builtin.Str
section
variable{prog:aN}{w:bg}{A:bG}{E:Value->ap->Prop}{s:ap}{x y:Str}{t u:Tok}
def QnT(G:(y.length==0)=false)(h:∀l k,l.map (·.1)=bh x y->l.length<=ax->Q (.ref s.heap.objs.size) { s with heap:=s.heap.push { cls := .type "list",data := .seq (strValues l).toArray },toks:=k })(J:x.length+2<=ax):av (model prog w) A (call (.builtin "str.split") [.str x t,.str y u]) Q E s:=by
 have hn:(cY x (occurrences x y 0 x.length (x.length+1)) y.length).length<=ax:=by
  have e1:=il x y 0 x.length (x.length+1);rw[fL];omega
 cases h1:(decide (x.length<y.length)||decide (strKind x<strKind y))
 .cases hf:(occurrences x y 0 x.length (x.length+1)).isEmpty
  .refine fj F.slot_str_split (eJ _ _ _) F.entry_str_split (F.args_str_split_2 _ _) (meets_str_split_sep x y t u h1 G hf (by omega) hn) ?_;rw[strsFrom_eq];refine h (numbered s.toks _) _ ((numbered_texts _ _).trans ((ar (hJ h1)).trans (ar (hJ hf))).symm) ?_;have:=congrArg di (numbered_texts s.toks (cY x (occurrences x y 0 x.length (x.length+1)) y.length));rw[aj]at this;rw[this];exact hn
  .exact fj F.slot_str_split (eJ _ _ _) F.entry_str_split (F.args_str_split_2 _ _) (meets_str_split_not_found x y t u h1 G hf)
    (h [(x,t)] s.toks ((ar (hJ h1)).trans (ak hf)).symm (by show 1<=ax;decide))
 .exact fj F.slot_str_split (eJ _ _ _) F.entry_str_split (F.args_str_split_2 _ _) (meets_str_split_cannot_occur x y t u h1)
   (h [(x,t)] s.toks (ak h1).symm (by show 1<=ax;decide))
end
section
variable{X:Cx}{o e:Expr}{es:List Expr}{ms ns:List Nat}{m:MEx}{ma:PEnv->Option (List PV)}
def QcV:PV->List PV->Option (List PV)
 |.str x,[.str y]=>if (y.length==0)=false/\x.length+2<=LIM then some ((bh x y).map .str) else none
 |_,_=>none
theorem Qfe:∀l ,Vals ((l.map (·.1)).map V.str) (strValues l)
 |[]=>.nil
 |p::l=>.cons ⟨p.2,rfl⟩ (Qfe l)
def mm_split:MtR X "str.split" (rMtO X.K QcV):=by
 intro pins s σ H x xs v us Q I E rs h;obtain⟨F,p,ps,r,h1,h2,m,j,w⟩:=h;unfold QcV at j;split at j
 .obtain⟨⟨G,J⟩,rfl⟩:=Qt j;subst h2;obtain⟨t,rfl⟩:=E;obtain⟨U,Y,rfl,m,L⟩:=m;subst L;subst m;obtain⟨u,rfl,M⟩:=YD rs;obtain⟨t2,rfl⟩:=M;refine QnT G (λl k el O=>?_) (aS J QU);have B :=I.hok.fresh (am _);have T :=h1.free B;have D:=Qfe l;rw[el]at D;exact⟨.ref _,_,I.lnew D (by rw[aj,<-el,aj];exact O),rfl,w _ _ _ F (.side h1 B) B T Qk (Yo _)⟩
 .cases j
def QkL(h:EM X ms o m)(Y:AM X ns (e::es) ma)(J:cQ o "split" X.env (eval o X.env)=eval o X.env:=by rfl)(U:((bB cpos (ai (e::es) X.env)).all (λx => !x.1)&&(gS cpos (eM [] X.env)).all (λx=>x.1.isSome)
   && decide ((e::es).length+([]:List dL).length+(if ([]:List dL).isEmpty then 0 else 1)<30))=true:=by rfl)(O:(apos.endLine==cpos.line)=true:=by rfl)(hs:ai (e::es) X.env=(false,eval e X.env)::ai es X.env:=by rfl)(G:(bB cpos (ai es X.env)).any (·.1)=false:=by rfl) :
  EO X (ms++ns) (.Call (.Attribute o "split" apos) (e::es) [] cpos) (mMt "str" QcV m ma) :=
 eo_mt h Y (Qad dF PySem.F.slot_str_split PySem.F.type_str_split mm_split h Y J U O hs G)
end
end L2.PM
namespace L2.PM
open PySem PySem.Spec PyProof.Rows
section
variable{X:Cx}
def QmS:V->List V->Hp->VK->Prop:=λx vs H Q=>∃l xs y i,x = .ref l/\vs=[.int i,y]/\H l=some (.lst xs)/\0<=i/\i<=xs.length/\xs.length<ax/\xs.length<=100000/\Q .non (upd H l (.lst (xs.take i.toNat++y::xs.drop i.toNat)))
def Qec:MtM X "list.insert" QmS:=by
 intro pins s σ H x vs v us Q I E j h;obtain⟨l,xs,y,i,rfl,rfl,D,h0,hi,hz,hz2,q⟩:=h;cases E;cases j with
 |cons G j =>
  cases j with
  |cons J j =>
   cases j;obtain⟨t,rfl⟩:=G;obtain⟨z,m,n,r,L,e⟩:=I.lstM D;have B:¬(!Builtin.List.listFitsIndex i)=true:=by
    have:kE i=true:=by
     unfold kE;simp;omega
    simp[this]
   refine fj d7 ⟨_,e,rfl⟩ PySem.F.entry_list_insert (PySem.F.args_list_insert_3 _ _ _) (PySem.AutoListH.list_insert_list_int_val_1 l m.toArray n i t _ B (by rw[aF];omega)) ⟨e,?_⟩;refine⟨.non,_,I.lset D e ?_ ((r.take _).append (.cons J (r.drop _))) ?_,rfl,q⟩
   .have h1:¬i<0:=by omega
    simp only[h1, aF];have h2:min i.toNat m.length=i.toNat:=by omega
    rw[h2];apply gu.mp;simp;exact cU (by rw[bu];exact am _)
   .rw[aJ,aK,br,bu];omega
variable{e k:Expr}{ms:List Nat}{m mk:MEx}{p2 pos:Pos}
def insK(ms:List Nat)(i:Nat)(γ:PEnv)(xs:List PV)(r:PV):PV->Option Out
 |.int j=>if 0<=j/\j<=xs.length/\xs.length<=1000/\(flat r || !ms.contains i)=true then some (.nx ((Qw (flat r) ms γ).set i (.ow (xs.take j.toNat++r::xs.drop j.toNat)))) else none
 |_=>none
def sIns(ms:List Nat)(i:Nat)(mk m:MEx):MSt:=λγ=>match γ[i]? with
 |some (.ow xs)=>(mk γ).bind λj=>(m γ).bind λr=>insK ms i γ xs r j
 |_=>none
end
section
variable{X:Cx}{o e:Expr}{es:List Expr}{ms ns:List Nat}{m:MEx}{ma:PEnv->Option (List PV)}
def QgP:PV->List PV->Option PV
 | .str x,[.tup xs]=>match ZI xs with
  |some ys=>if (ys.map (·.length)).sum+ys.length*x.length<=LIM then some (.str (aM x ys)) else none
  |none=>none
 |_,_=>none
def mm_joinT:MtR X "str.join" (rMt X.K QgP):=by
 intro pins s σ H x xs v us Q I D rs h;obtain⟨F,p,ps,r,h1,h2,m,j,w⟩:=h;unfold QgP at j;split at j
 .split at j
  .rename_i ys B;obtain⟨c,rfl⟩:=Qt j;subst h2;obtain⟨t,rfl⟩:=D;obtain⟨M,O,rfl,m,E⟩:=m;subst E;obtain⟨a,ws,rfl,k2,k3⟩:=m;obtain⟨u,rfl,G⟩:=YD rs;cases G;have e2:=XY B;subst e2;have e3:=Xj k3;subst e3;obtain⟨J,L,pt,_⟩:=I.tuple (h1.seqT k2);refine join_tuple pt (by simpa using YK L) (by grind) λt' k=>⟨.str _,H,I.tok _,⟨_,rfl⟩,w.here h1 (Xa _)⟩
  .cases j
 .cases j
def em_joinT(h:EM X ms o m)(Y:AM X ns (e::es) ma)(J:cQ o "join" X.env (eval o X.env)=eval o X.env:=by rfl)(U:((bB cpos (ai (e::es) X.env)).all (λx => !x.1)&&(gS cpos (eM [] X.env)).all (λx=>x.1.isSome)
   && decide ((e::es).length+([]:List dL).length+(if ([]:List dL).isEmpty then 0 else 1)<30))=true:=by rfl)(O:(apos.endLine==cpos.line)=true:=by rfl)(hs:ai (e::es) X.env=(false,eval e X.env)::ai es X.env:=by rfl)(G:(bB cpos (ai es X.env)).any (·.1)=false:=by rfl) :
  EM X (ms++ns) (.Call (.Attribute o "join" apos) (e::es) [] cpos) (mMt "str" QgP m ma) :=
 em_mt h Y (Qad dF jX jW mm_joinT h Y J U O hs G)
end
end L2.PM
namespace L2.PM
open PySem
def pI01:List PV->Option PV
 |[.bl b]=>some (.int (if b=true then 1 else 0))
 |[.int i]=>some (.int i)
 |_=>none
def exlK(ms:List Nat)(i:Nat)(γ:PEnv):PV->Option Slot->Option Out
 |.lst ys,some (.ow xs)=>if xs.length+ys.length<LIM/\(!ms.contains i)=true then some (.nx ((Qw (flat (.lst ys)) ms γ).set i (.ow (xs++ys)))) else none
 |_,_=>none
def sExl(ms:List Nat)(i:Nat)(m:MEx):MSt:=λγ=>(m γ).bind λr=>exlK ms i γ r γ[i]?
def Xu:List PV->Option PV
 | [.tup xs]=>match ZI xs with
  |some j=>if j.length<1000 then some (.int (once j).length) else none
  |none=>none
 |_=>none
end L2.PM
namespace L2.PM
open PySem PySem.Spec PyProof.Rows
section
variable{X:Cx}{e a b c:Expr}{es:List Expr}{ms ns ls:List Nat}{m m1 m2 m3:MEx}{ma:PEnv->Option (List PV)}{pos p p1 p2 p3 pos':Pos}{x:Str}{id T:String}{tg:Expr}
def cm_i01:QgB X (.type "int") pI01:=by
 intro pins s σ H vs us Q I rs h;obtain⟨F,ps,r,h1,h2,m,w⟩:=h;unfold pI01 at m;split at m
 .rename_i b;cases m;obtain⟨v,t,rfl,h2,B⟩:=h2;subst B;subst h2;obtain⟨u,rfl,D⟩:=YD rs;cases D;refine call_int_bool ?_;exact⟨.int (if b=true then 1 else 0),H,I.kept λ_ _ e=>e,⟨_,rfl⟩,w.here h1 (QL _)⟩
 .rename_i j;cases m;obtain⟨v,t,rfl,h2,B⟩:=h2;subst B;subst h2;obtain⟨u,rfl,D⟩:=YD rs;obtain⟨tk,rfl⟩:=D;exact call_int_int ⟨.int j,H,I,⟨tk,rfl⟩,w.here h1 (QL _)⟩
 .cases m
def rExtL(K:ac):V->List V->Hp->VK->Prop:=λx vs H Q=>∃l b xs zs,x = .ref l/\vs=[.ref b]/\H l=some (.lst xs)/\SqL K H b zs/\xs.length+zs.length<=ax/\Q .non (upd H l (.lst (xs++zs)))
end
open PySem.AutoSeq1 (wpAny_loadPart')
def Qoq l us n b ws G n2 (hc:G.cls = .type "list") (hd:G.data = .seq ws n2)
  (U:¬(!us.isEmpty&&cR (us.size+ws.size))=true) (J:us.size<=ax) (O:us.size+ws.size<=ax+1) :
  Meets (iJ.«list.extend» ⟨[.ref l,.ref b],[]⟩) (λ_ R s=>s.heap.get? l=some { cls := .type "list",dict:=none,data := .seq us n,slots := #[] }/\s.heap.get? b=some G/\R (.ok (.ret cm)) { s with heap:=s.heap.update l (bK λx=>x++ws),toks:=s.toks }) :=
 .of_wp λprog w A R s h=>by
  obtain⟨D,E,data2,m⟩:=G;subst hc hd;obtain⟨H,g,d,tk,os⟩:=s;obtain⟨j,B,h⟩:=h;have I:=iR;have L:=iS;have hz:(us++ws).size<=ax+1:=by rw[iI];exact O
  wp_walk using (ic j rfl (hz:=J) (_hz':=hz)),dt j,dt B;exact⟨_,rfl,h⟩
section
variable{X:Cx}{e a b c:Expr}{es:List Expr}{ms ns ls:List Nat}{m m1 m2 m3:MEx}{ma:PEnv->Option (List PV)}{pos p p1 p2 p3 pos':Pos}{x:Str}{id T:String}{tg:Expr}
def mt_exl:MtM X "list.extend" (rExtL X.K):=by
 intro pins s σ H x vs v us Q I J L h;obtain⟨l,b,xs,zs,rfl,rfl,E,M,hz,q⟩:=h;cases J;obtain⟨u,rfl,O⟩:=L.one;cases O;obtain⟨z,m,n,r,Y,e⟩:=I.lstM E;obtain⟨j,G,pt,z2⟩:=I.list M;obtain⟨T,e2,hc,n2,hd⟩:=pt.isList;have U:=G.length;have D:m.toArray.size+j.toArray.size<=ax:=by grind
 have B:¬(!m.toArray.isEmpty&&cR (m.toArray.size+j.toArray.size))=true:=by
  rw[Qku D,gY];grind
 refine fj F.slot_list_extend ⟨_,e,rfl⟩ F.entry_list_extend (F.args_list_extend_2 _ _)
  (Qoq l m.toArray n b j.toArray T n2 hc hd B (by grind) (by lia)) ⟨e,e2,?_⟩
 refine⟨.non,_,I.lset E e (by simp) (r.append G) ?_,rfl,q⟩;grind
end
structure FunD (K:ac) (x qual:Str) (st:Stmt) (f:Addr) (fd:cA) (j:Int):Prop where
 ex:∃(T:Addr)(oc:Value)(od:Option Addr)(kV doc pm:Value)(an:Option Addr)(cdv ct:Value)(osl:Array (Option Value)),
  fd=cK x qual (QT st) (Qy st) (Qc st) (.ref T) kV doc pm an cdv ct/\K.lookup f=some ⟨oc,od,.func fd,osl⟩/\fE K cdv qual=true /\
  ∃(tc:Value)(td:Option Addr)(tk:Tok)(tn:Nat)(ts:Array (Option Value)),K.lookup T=some ⟨tc,td,.seq #[.int j tk] tn,ts⟩
 kp:bN K (.ref f)=true
def funD_mk{K:ac}{st:Stmt}{kV doc J G ct:Value}(l:K.lookup f=some ⟨U,od,.func (cK x qual (QT st) (Qy st) (Qc st) (.ref T) kV doc J an G ct),O⟩)(c:fE K G qual=true)(k:bN K (.ref f)=true)(t:K.lookup T=some ⟨tc,td,.seq #[.int j tk] Y,ts⟩):FunD K x qual st f (cK x qual (QT st) (Qy st) (Qc st) (.ref T) kV doc J an G ct) j :=
 ⟨⟨T,U,od,kV,doc,J,an,G,ct,O,rfl,l,c,tc,td,tk,Y,ts,t⟩,k⟩
section
variable{P:aN}{w:bg}{K:ac}{mg:Str->Option Value}{base:Heap}
def FunD.ok{st:Stmt}(F:FunD K x qual st f fd j)(S:FnScope N ps (Qc st))(len:∀vs H Q E,sp vs H Q E->vs.length=ps.length)(J:∀G A outer s H vs Q E,Room k (A.deeper (cH qual (Qc st) s.heap.objs.size f G))->sp vs H Q E ->
   ∃t,PSs (cxOf CX0 P w K mg base N qual (Qc st) f G A outer s H E).nox (Qy st) t/\t { nx:=λ_ H'=>Q .non H',rt:=Q } (Xg N vs) H):FnOk P w K mg base CX0 (k+1) f fd ps sp:=by
 obtain⟨T,L,od,kV,doc,M,an,G,ct,D,rfl,lk,m,_⟩:=F.ex;refine Qpk lk m S len λA outer s H vs Q E I B=>?_;obtain⟨t,h,q⟩:=J G A outer s H vs Q E I B;exact⟨t,h.nox,q⟩
def FunD.binds{x qual:Str}{st:Stmt}{f:Addr}{fd:cA}{j:Int}{ps:List Str}(F:FunD K x qual st f fd j)(h:∀(dV kV doc J:Value) (an:Option Addr) (G ct d:Value) (us:List Value),us.length=ps.length->∃k:Option (Array Value)->Sem (List (Str×Value)),fC (cK x qual (QT st) (Qy st) (Qc st) dV kV doc J an G ct) ⟨us,[]⟩=seqItems? dV >>= k/\k (some #[d])=pure (ps.zip us)):YQ K fd ps []:=by
 obtain⟨T,E,od,kV,doc,J,an,G,ct,B,rfl,lk,D,tc,td,tk,H,ts,t⟩:=F.ex;intro s us X m;rw[bQ]at m |-;obtain⟨k,e1,e2⟩:=h (.ref T) kV doc J an G ct (.int j tk) us m;exact iM rfl (X _ _ t) rfl e1 e2
def FunD.bindsD{st:Stmt}(F:FunD K x qual st f fd j)(h:∀dV kV doc J an G ct d us,us.length+1=ps.length->∃k ,fC (cK x qual (QT st) (Qy st) (Qc st) dV kV doc J an G ct) ⟨us,[]⟩=seqItems? dV >>= k/\k (some #[d])=pure (ps.zip (us++[d]))) :
  ∃tk ,YQ K fd ps [.int j tk]:=by
 obtain⟨T,E,od,kV,doc,J,an,G,ct,m,rfl,lk,B,tc,td,tk,H,ts,t⟩:=F.ex;refine⟨tk,λs us X D=>?_⟩;obtain⟨k,e1,e2⟩:=h (.ref T) kV doc J an G ct (.int j tk) us (by simpa using D);exact iM rfl (X _ _ t) rfl e1 e2
end
abbrev hz1(h:Heap)(a:Addr):Heap:=h.push { cls := .type "tuple_iterator",data := .fields #[.ref a,.int 0 0] }
abbrev hz2(h:Heap)(a c:Addr):Heap:=(hz1 h a).push { cls := .type "list_iterator",data := .fields #[.ref c,.int 0 0] }
section
variable{prog:aN}{w:bg}{A:bG}{E:Value->ap->Prop}{s:ap}
def Yn(prog:aN)(w:bg)(L:Bool)(h:Heap)(a:Addr)(M:List Str):Prop :=
 ∃o es ep t,h.get? a=some o/\o.ExactSet/\o.data = .set es ep t/\j7 (strKind prog w) es.toList/\(∀k,k∈M↔∃e∈es.toList,(strKind prog w).is k e.2=true) /\
  es.size<dW/\t.fits es.size=true/\es.size=M.length/\M.Nodup/\Kept L t
def Yn.at(x:Yn prog w L h a M)(e:∀o,h.get? a=some o->h'.get? a=some o):Yn prog w L h' a M:=by
 obtain⟨o,es,ep,t,ho,r⟩:=x;exact⟨o,es,ep,t,e o ho,r⟩
def Yw(M:List Str)(k:Str):List Str:=if k∈M then M else M++[k]
def Xy(h:M.Nodup) k:(Yw M k).Nodup:=by
 unfold Yw;split
 .exact h
 .rename_i m;rw[fN];exact⟨h,by simp,λa B b j=>by
   rw[aA]at j;subst j;exact λe=>m (e▸B)⟩
def QfH{h:Heap}(ho:h.get? a=some o)(hd:o.data = .set es ep t) G t' :
  (h.update a (Obj.putSet G t')).get? a=some { o with data := .set G (ep+1) t' }:=by
 have e:=putSet_of G t' hd;have z:=bI (Obj.putSet G t') ho (by rw[e];rfl);grind
def QcJ{l G:List (Int×Value)}(J:(strKind prog w).is k v=true)(hm:∀k,k∈M↔∃e∈l,(strKind prog w).is k e.2=true)(hn:k∉M)(p:G.Perm (l++[((strKind prog w).hash k,v)])) j :
  j∈Yw M k↔∃e∈G,(strKind prog w).is j e.2=true:=by
 unfold Yw;rw[ar hn,aO,aA];constructor
 .rintro(z | rfl)
  .obtain⟨e,he,q⟩:=(hm j).mp z;exact⟨e,p.mem_iff.mpr (kB _ he),q⟩
  .exact⟨_,p.mem_iff.mpr (bx _ (List.mem_singleton_self _)),J⟩
 .rintro⟨e,he,q⟩;rcases aO.mp (p.mem_iff.mp he) with z | z
  .exact .inl ((hm j).mpr ⟨e,z,q⟩)
  .rw[aA.mp z]at q;exact .inr ((strKind prog w).inj v j k q J)
def add_LS{L:Bool}{a:Addr}{M:List Str}{k:Str}{tk:Tok}{Q:Bool->ap->Prop}(hS:Yn prog w L s.heap a M)(room:M.length+1<dW)(fin:∀b h',bF a s.heap h'->Yn prog w L h' a (Yw M k)->Q b { s with heap:=h' }):av (model prog w) A (setAddHashed a (.str k tk) ((strKind prog w).hash k)) Q E s:=by
 obtain⟨o,es,ep,t,ho,hex,hd,D,hm,hb,hf,hn,I,Y⟩:=hS;have hk:(strKind prog w).is k (.str k tk)=true:=kb _ _ _ _;have J:(gb k tk).scannable=true:=rfl;have tail:∀(g:Bool->Sem Unit),(∀(b:Bool)(B:ap)(R:Unit->ap->Prop),R () B->av (model prog w) A (g b) R E B)->∀(m:Array (Int×Value))(tB:de)(wd:Bool)(R:Option Bool->ap->Prop),
   j7 (strKind prog w) m.toList->(∀j,j∈Yw M k↔∃e∈m.toList,(strKind prog w).is j e.2=true)->m.size<dW->tB.fits m.size=true->m.size=(Yw M k).length->Kept L tB ->
   (∀h',bF a s.heap h'->Yn prog w L h' a (Yw M k)->R (some true) { s with heap:=h' }) ->
   av (model prog w) A (do
    storeSet a m tB
    if (!wd&&tB.tooFull)=true then do
      g (i8 tB m (da m.size)).2.2
      storeSet a (i8 tB m (da m.size)).1 (i8 tB m (da m.size)).2.1
      pure (some true)
     else pure (some true)) R E s:=by
  intro g hg m tB wd R h1 h2 h3 h4 h5 h6 hR;have O:=QfH ho hd m tB;refine aa (gz ho hd ?_ (d1 h3));have sb1:=cX s.heap a (Obj.putSet m tB);split
  .have p:=relayAll_perm tB m (da m.size);have ff:=relayAll_fits tB m (da m.size);have kk:=Qlt h6 m (da m.size);generalize i8 tB m (da m.size)=rl at p ff kk |-;obtain⟨T,t3,gave⟩:=rl;have sz:T.size=m.size:=by
    have:=p.length_eq;simpa using this
   refine aa (hg _ _ _ (aa (gz O rfl ?_ (d1 (by rw[sz];exact h3)))));have at2:=QfH O rfl T t3;refine af (hR _ (sb1.trans (cX _ a _)) ⟨_,T,_,t3,at2,hex,rfl,h1.perm p,λj=>(h2 j).trans ⟨λ⟨e,he,q⟩=>⟨e,p.mem_iff.mpr he,q⟩,λ⟨e,he,q⟩=>⟨e,p.mem_iff.mp he,q⟩⟩,by rw[sz];exact h3,ff,by rw[sz];exact h5,Xy I k,kk⟩)
  .exact af (hR _ sb1 ⟨_,m,_,tB,O,hex,rfl,h1,h2,h3,h4,h5,Xy I k,h6⟩)
 refine bd (aa (aT ho hd hf ?_));dsimp only;rw[byScan_of J hb D,ak rfl];refine aa (aa (fg (aa (wpAny_setScan_of hk ho hd hf D ?_))));cases hr:List.findIdx? (λe=>(strKind prog w).is k e.2) es.toList with
 |some j =>
  obtain⟨hj,pj,_⟩:=iz.mp hr;have G :=(hm k).mpr ⟨_,bZ hj,pj⟩;refine af (af ?_);have z:=fin false s.heap (dE a s.heap) (by
   unfold Yw;rw[ak G];exact⟨o,es,ep,t,ho,hex,hd,D,hm,hb,hf,hn,I,Y⟩)
  exact z
 |none =>
  have G:k∉M:=λz=>by
   obtain⟨e,he,q⟩:=(hm k).mp z;rw[jn.mp hr e he]at q;cases q
  have gw:∀(b:Bool)(B:ap)(R:Unit->ap->Prop),R () B->av (model prog w) A (match b with | true=>rule "set.scan.the-table-gave-way" | false=>pure ()) R E B:=λb B R hq=>by
   cases b
   .exact af hq
   .exact fg hq
  have H:=layNew_perm t es ((strKind prog w).hash k) (.str k tk);have fi:=layNew_fits t es ((strKind prog w).hash k) (.str k tk);have kp:=QjF Y es ((strKind prog w).hash k) (.str k tk);generalize layNew t es ((strKind prog w).hash k) (.str k tk)=ly at H fi kp |-;obtain⟨m,t1,wd,gave⟩:=ly;dsimp only at H fi kp |-;rw[lD]at H;have sz:m.size=es.size+1:=by
   have:=H.length_eq;simpa using this
  have szM:m.size=(Yw M k).length:=by
   unfold Yw;rw[ar G,sz,hn];simp
  refine aa (gw _ _ _ ?_);have done:∀h',bF a s.heap h'->Yn prog w L h' a (Yw M k)->av (model prog w) A (match some true with | some U=>pure U | none=>setAddHashedIn a (.str k tk) ((strKind prog w).hash k) 99999) Q E { s with heap:=h' }:=λh' sb z=>af (fin true h' sb z);split
  .refine aa ?_;refine af (tail _ gw m _ wd _ ((D.push hk J).perm H) (QcJ hk hm G H) (by omega) ?_ szM ?_ done)
   .split
    .exact fi
    .exact de.fits_plain_off fi
   .split
    .exact kp
    .exact Qlu kp _
  .refine aa (af ?_);exact tail _ gw m _ wd _ ((D.push hk J).perm H) (QcJ hk hm G H) (by omega) fi szM kp done
end
def Qbj(val:Nat->Str)(i:Nat):List Str:=((az i).map val).foldl Yw []
def Qfg val i:Qbj val (i+1)=Yw (Qbj val i) (val i):=by
 unfold Qbj;rw[lX,bH,List.foldl_append];rfl
def Qhv M k:(Yw M k).length<=M.length+1:=by
 grind[Yw]
theorem Qhk val:∀i,(Qbj val i).length<=i
 |0=>am _
 |i+1=>by
  rw[Qfg];have:=Qhv (Qbj val i) (val i);have:=Qhk val i;lia
section
variable{prog:aN}{w:bg}{A:bG}{E:Value->ap->Prop}{s:ap}
theorem QfT{R:lG->ap->Prop}{I:Addr}{fp wr:List Addr}{G:Array mu->Array mu->Prop}{n:Nat}{P:Nat->Value->Prop}{St:Nat->ap->Prop}{L:Bool}(W:WalksS prog w A.in1 I fp wr G n P St) D (J:D∉fp) val (O:∀i v,P i v->∃t,v = .str (val i) t) (U:n+1<dW) :
  ∀k i s,n-i=k->i<=n->St i s->Yn prog w L s.heap D (Qbj val i) ->
   (∀s',Moved (D::wr) G s s'->Yn prog w L s'.heap D (Qbj val n)->R (.ok (.ret .none)) s')->fu (model prog w) A (.builtin "set.update.loop" ⟨[.ref D,.ref I],[]⟩) R s
 |0,i,s,Q,hi,st,m,fin=>by
  obtain rfl:i=n:=by omega
  have B:D∉wr:=λz=>J (W.sub _ z);refine cI hU ?_;refine aa (W.done s _ _ st λs' mv=>?_);exact af (fin s' (mv.mono λb j=>aw _ j) (m.at λo e=>mv.heap D o B e))
 |k+1,i,s,Q,hi,st,m,fin=>by
  have B:D∉wr:=λz=>J (W.sub _ z);refine cI hU ?_;refine aa (W.item i s _ _ (by omega) st λv s' T E mv=>?_);obtain⟨t,rfl⟩:=O i v T;refine aa (bd ?_);refine bd (aa ((strKind prog w).pyHash (kb _ _ _ _) ?_));have sl:=Qhk val i;refine add_LS (s:={ s' with toks:=s'.toks+1 }) (m.at λo e=>mv.heap D o B e) (by omega) λb h' sb z=>?_;rw[<-Qfg]at z;refine af ⟨iO PyProof.Rows.F.plain_set_update_loop _,QfT W D J val O U k (i+1) _ (by omega) (by omega) (W.frame _ s' _ _ E (cf _) λb j o e=>?_) z λH M Y=>?_⟩
  .exact(sb.2 b λq=>J (q▸j)).trans e
  .refine fin H (Moved.trans W.gtrans ((mv.mono λb j=>aw _ j).then_heap (cf _) λb o j e=>?_) M) Y;exact(sb.2 b λq=>j (q▸bp)).trans e
def QeQ:List Value->List Str->Prop
 |[],[]=>True
 |v::vs,x::xs=>(∃t,v = .str x t)/\QeQ vs xs
 |_,_=>False
theorem QeQ.str_at:∀{vs:List Value}{xs:List Str},QeQ vs xs->∀i (v:Value),vs[i]?=some v->∃t,v = .str (xs.getD i "") t
 |[],_,_,i,v,e=>by simp at e
 |w::vs,[],h,_,_,_=>h.elim
 |w::vs,x::xs,h,0,v,e=>by
  simp at e;subst e;exact h.1
 |w::vs,x::xs,h,i+1,v,e=>by
  have:=QeQ.str_at h.2 i v (by simpa using e);simpa using this
def QkE(e:h.get? a=some { cls := .type "set",dict:=none,data := .set #[] 0 (.fresh 0 0 (!byT w)) }):Yn prog w (!byT w) h a [] :=
 ⟨_,#[],0,_,e,⟨rfl,rfl,rfl⟩,rfl,λe he=>by simp at he,λk=>by simp,by decide,by rfl,rfl,.nil,rfl,by unfold Up;simp[de.fresh]⟩
set_option maxHeartbeats 3200000 in
def QlI{l:Addr}{G:Array Value}{ns:List Str}{Q:Value->ap->Prop}(calm:A.handled=none)(hl:s.heap.IsTuple l G)(hi:QeQ G.toList ns)(hb:G.size+1<dW)(fin:∀(h':Heap) (tk:Nat),Yn prog w (!byT w) h' s.heap.objs.size (Qbj (λi=>ns.getD i "") G.size)->(∀b o,b<s.heap.objs.size->s.heap.get? b=some o->h'.get? b=some o)->Q (.ref s.heap.objs.size) { s with heap:=h',toks:=tk }) :
  av (model prog w) A (call (.type "set") [.ref l]) Q E s:=by
 obtain⟨c,tl,hmro⟩:=a8.mro;have hmade:=a8.made;have hsub:=a8.sub;refine g0 (ig ?_);show av _ _ (callAny (.type "set") _) _ _ _;refine af ⟨dQ _ (by decide+kernel),cI jD ?_⟩;rw[bG.under_plain (lS "set" [.ref l] []) rfl];have h1:=a8.notType;have h2:=a8.canCreate;have hct:=jM (.ref l);repeat (any_goals (first | assumption | wp_step))
 refine dP (setNew (.ref l) (E:=E) (Q₁:=λobj B=>obj = .ref s.heap.objs.size/\B={ s with heap:=s.heap.push { cls := .type "set",dict:=none,data := .set #[] 0 (.fresh 0 0 (!byT w)) } }) ⟨rfl,rfl⟩) λr B hr=>?_;cases r with
 |error e=>exact hr
 |ok fl =>
  cases fl with
  |ret obj =>
   obtain⟨rfl,rfl⟩:=hr;have M:(s.heap.push { cls := .type "set",dict:=none,data := .set #[] 0 (.fresh 0 0 (!byT w)) }).get? s.heap.objs.size=some { cls := .type "set",dict:=none,data := .set #[] 0 (.fresh 0 0 (!byT w)) }:=aB _ rfl;have hT:kY { s with heap:=s.heap.push { cls := .type "set",dict:=none,data := .set #[] 0 (.fresh 0 0 (!byT w)) } } (.ref s.heap.objs.size) "set":=⟨_,M,rfl⟩
   have hli:=a8.init.lookup;have hbi:=a8.init.bind (.ref s.heap.objs.size);repeat (any_goals (first | assumption | wp_step))
   refine dP (dz (R:=wants (λr D=>r = .none/\∃h' tk,D={ s with heap:=h',toks:=tk }/\Yn prog w (!byT w) h' s.heap.objs.size (Qbj (λi=>ns.getD i "") G.size) /\
     (∀b o,b<s.heap.objs.size->s.heap.get? b=some o->h'.get? b=some o)) E) a8.init.plain jN (check_set_init_1 hT ?_)) λO D j=>?_
   .obtain⟨ol,T,U,nl,Y⟩:=hl;obtain⟨ocls,H,odata,m⟩:=ol;simp only at U Y;subst U;subst Y;have lold:(s.heap.push { cls := .type "set",dict:=none,data := .set #[] 0 (.fresh 0 0 (!byT w)) }).get? l=some { cls := .type "tuple",dict:=H,data := .seq G nl,slots:=m }:=ag _ T;have hsls:=PySem.F.sub_tuple_set;have hslf:=PySem.F.sub_tuple_frozenset;have hne:(Value.type "tuple"==Value.type "dict")=false:=by decide
    have lis:(s.heap.push { cls := .type "set",dict:=none,data := .set #[] 0 (.fresh 0 0 (!byT w)) }).IsTuple l G:=⟨_,lold,rfl,nl,rfl⟩
    unfold iJ.«set.__init__» noKeywords jS;generalize hPI:ke=PI
    wp_walk
    subst hPI;refine wpAny_pyIter_tuple lis (aa (iA ?_));have llt:l<s.heap.objs.size:=ay T;have I:A.in1.in1.in1.handled=none:=by simp[calm]
    have ne1:l≠(s.heap.push { cls := .type "set",dict:=none,data := .set #[] 0 (.fresh 0 0 (!byT w)) }).objs.size:=by
     rw[a7];exact aC (bC llt)
    have nin:s.heap.objs.size∉[(s.heap.push { cls := .type "set",dict:=none,data := .set #[] 0 (.fresh 0 0 (!byT w)) }).objs.size,l]:=by
     rw[a7];intro z;rcases ao.mp z with z | z
     .exact absurd z (aC (cW _))
     .rw[aA]at z;exact absurd z (dY llt)
    have hval:∀(i:Nat)(v:Value),G[i]?=some v->∃t,v = .str ((λi=>ns.getD i "") i) t:=λi v hv=>QeQ.str_at hi i v (by rw[bR];exact hv);refine QfT (L := !byT w) ((Walks.tuple I _ l ne1 G).toS) s.heap.objs.size nin (λi=>ns.getD i "") hval hb (G.size-0) 0 _ (by omega) (bz _) ⟨⟨_,aB _ rfl,rfl,rfl⟩,lis.push _⟩ ?Xg ?fin;case Xg=>exact QkE (ag _ M)
    case fin =>
     intro s' hm z;obtain⟨h',g',d',tk',os'⟩:=s';obtain rfl:g'=s.gens:=hm.gens;obtain rfl:d'=s.drawn:=hm.drawn;obtain rfl:os'=s.os:=hm.os;show av _ _ _ _ _ _;refine af ?_;show av _ _ (ret cm) _ _ _;refine af ⟨rfl,h',tk',rfl,z,λb o hb e=>?_⟩;refine hm.heap b o (λq=>?_) (ag _ (ag _ e));rw[a7]at q;rcases ao.mp q with q | q
     .exact absurd q (aC hb)
     .rw[aA]at q;exact absurd q (aC (bC hb))
   .cases O with
    |error e=>exact j
    |ok J =>
     cases J with
     |ret r =>
      obtain⟨rfl,h',tk,rfl,z,k⟩:=j;repeat (any_goals (first | assumption | wp_step))
      exact fin _ _ z k
     |_=>exact j.elim
  |_=>exact hr.elim
end
def Qhw:x∈Yw M k↔x∈M\/x=k:=by
 unfold Yw;split
 .rename_i h;exact⟨.inl,λq=>q.elim id λe=>e▸h⟩
 .simp
theorem Qfs:∀(l M:List Str),M.Nodup->(l.foldl Yw M).Nodup/\∀x,x∈l.foldl Yw M↔x∈M\/x∈l
 |[],M,h=>⟨h,λx=>by simp⟩
 |y::l,M,h=>by
  obtain⟨a,b⟩:=Qfs l (Yw M y) (Xy h y);refine⟨a,λx=>?_⟩;rw[lY,b x,Qhw,ao];exact⟨λq=>q.elim (λq=>q.elim .inl λe=>.inr (.inl e)) λq=>.inr (.inr q),λq=>q.elim (λq=>.inl (.inl q)) λq=>q.elim (λe=>.inl (.inr e)) .inr⟩
theorem Qcp:∀{xs:List Str},y∈once xs↔y∈xs
 |[]=>by simp[once]
 |x::xs=>by
  unfold once;rw[ao,ao,bP,Qcp];by_cases h:y=x<;>simp[h]
theorem QcI:∀xs:List Str,(once xs).Nodup
 |[]=>by simp[once]
 |x::xs=>by
  unfold once;rw[bO];exact⟨by simp[bP],kC _ (QcI xs)⟩
def Qfh ns:(Qbj (λi=>ns.getD i "") ns.length).Perm (once ns):=by
 have e:(az ns.length).map (λi=>ns.getD i "")=ns:=by
  apply fO;intro i;rw[a0];by_cases h:i<ns.length
  .simp[h]
  .rw[aY (by rw[aq];omega),aY (by omega)];rfl
 unfold Qbj;rw[e];obtain⟨a,b⟩:=Qfs ns [] .nil;exact(je a (QcI ns)).mpr λx=>by rw[b x,Qcp];simp
section
variable{X:Cx}{e a b c:Expr}{es:List Expr}{ms ns ls:List Nat}{m m1 m2 m3:MEx}{ma:PEnv->Option (List PV)}{pos p p1 p2 p3 pos':Pos}{x:Str}{id T:String}
def ZZ(X:Cx)(p:Addr)(M:List Str):HO := .ext λh=>Yn X.prog X.w (!byT X.w) h p M
theorem QfU:∀{xs:List Str}{us:List Value},Vals (xs.map V.str) us->QeQ us xs
 |[],_,.nil=>trivial
 |x::xs,_,.cons ⟨t,h⟩ r=>⟨⟨t,h⟩,QfU r⟩
def QlJ(hc:X.calm=true):Qah X (.type "set") (λvs H Q=>∃l ns,vs=[.ref l]/\SqT X.K H l (ns.map V.str)/\ns.length<1000/\∀p M,H p=none->M.Perm (once ns)->Q (.ref p) (upd H p (ZZ X p M))):=by
 intro pins s σ H vs us Q I rs h;obtain⟨l,ns,rfl,D,hn,q⟩:=h;obtain⟨u,rfl,E⟩:=YD rs;cases E;obtain⟨j,B,G,_⟩:=I.tuple D;have m:=B.length;rw[aj]at m;refine QlI (I.ok.hd hc) G (by simpa using QfU B) (by show j.length+1<4096;lia) λh' tk z k=>?_;have e:j.toArray.size=ns.length:=by grind
 rw[e]at z;refine⟨.ref s.heap.objs.size,upd H s.heap.objs.size (ZZ X s.heap.objs.size _),I.laid (λb o q=>k b o (ay q) q) (am _) ⟨z,?_,λh1 h2 J k1=>J.at k1⟩,rfl,q _ _ I.fresh (Qfh ns)⟩;obtain⟨o,_,_,_,ho,_⟩:=z;grind
def QbU:Qah X (.builtin "len") (λvs H Q=>∃(D:Addr)(M:List Str),vs=[.ref D]/\H D=some (ZZ X D M)/\Q (.int M.length) H):=by
 intro pins s σ H vs us Q I rs h;obtain⟨D,M,rfl,j,q⟩:=h;obtain⟨u,rfl,m⟩:=YD rs;cases m;obtain⟨z,_,_⟩:=I.hok D _ j;obtain⟨o,es,ep,t,ho,hex,hd,B,hm,E,hf,hn,G,J⟩:=z;refine call_len_set ho hex hd hf (by have:es.size<4096:=E;lia) ⟨.int M.length,H,I.tok _,⟨_,by rw[hn]⟩,q⟩
theorem Yp{K:ac}:∀{xs:List PV}{ns:List Str}{vs:List V},ZI xs=some ns->RepL K F xs vs->vs=ns.map V.str
 |[],ns,vs,h,r=>by
  subst r;cases h;rfl
 |x::xs,ns,vs,h,r=>by
  obtain⟨v,t,rfl,m,B⟩:=r;cases x with
  |str y =>
   unfold ZI at h;cases j:ZI xs with
   |none=>rw[j]at h;cases h
   |some D =>
    rw[j]at h;cases h;subst m;rw[Yp j B];rfl
  |_=>cases h
def Qfu(hc:X.calm=true)(hg:Gl X "set")(hm:X.mg "set"=none)(O:Gl X "len")(U:X.mg "len"=none)(ha:AM X ms [a] ma)(hs:ai [a] X.env=(false,eval a X.env)::ai [] X.env:=by rfl)(Y:(bB pos (ai [] X.env)).any (·.1)=false:=by rfl)(G:ai [.Call (.Name "set" p1) [a] [] pos] X.env=(false,eval (.Call (.Name "set" p1) [a] [] pos) X.env)::ai [] X.env:=by rfl)(J:(bB pos' (ai [] X.env)).any (·.1)=false:=by rfl) :
  EM X ms (.Call (.Name "len" p2) [.Call (.Name "set" p1) [a] [] pos] [] pos') (Qg Xu ma) :=
 PE.imp (YX QbU O U fD (ZF (Xk (QlJ hc) hg hm (by kernel_rfl) ha (by decide) (by decide) hs Y) Qbf G) (by decide) (by decide) G J) λσ H Q ⟨F,γ,r,k1,k2,k3,w⟩=>by
  obtain⟨E,e1,k3⟩:=Qe k3;refine⟨F,γ,E,k1,k2,e1,λvs H1 j m B=>?_⟩;unfold Xu at k3;split at k3
  .obtain⟨v,t,rfl,B,I⟩:=B;subst I;obtain⟨l,us,rfl,L,T⟩:=B;split at k3
   .rename_i ns D;obtain⟨c1,rfl⟩:=Qt k3;have e2:=Yp D T;subst e2;refine⟨l,ns,rfl,m.sub.seqT L,c1,λp M hp hM=>?_⟩;refine⟨p,M,rfl,Qk,?_⟩;have g2:Grow j H1 j (upd H1 p (ZZ X p M)) := .side m.sub hp;rw[hM.length_eq];exact w _ _ j (m.trans g2) (QL _)
   .cases k3
  .cases k3
end
section
variable{X:Cx}{pos p:Pos}{x:Str}
def Qme(G:Gl X x)(hm:∃t,X.mg x=some (.int i t))(hd:(x=="__debug__")=false:=by decide):EM X [] (.Name x pos) (mC (.int i)):=by
 obtain⟨t,h⟩:=hm;exact em_globI G h hd
def em_gT(G:Gl X x)(hm:∃a,X.mg x=some (.ref a)/\GT X.K a ts)(hd:(x=="__debug__")=false:=by decide):EM X [] (.Name x pos) (mC (.tup (ts.map .str))):=by
 obtain⟨a,h1,h2⟩:=hm;exact em_globT G h1 h2 hd
def star_str:ai (.Constant (.str i) j q::es) env=(false,eval (.Constant (.str i) j q) env)::ai es env:=rfl
def ZE(G:AM X [] es ma):AM X [] (.Constant (.str i) j q::es) (Qa (mC (.str i)) ma):=Qh Qr G star_str
def QmI:List Str->PEnv->Option (List PV)
 |[]=>aNil
 |s::j=>Qa (mC (.str s)) (QmI j)
theorem QiM:∀(G:List (Str×Nat×Pos)) ,AM X [] (G.map λc=>Expr.Constant (.str c.1) c.2.1 c.2.2) (QmI (G.map (·.1)))
 |[]=>Qm
 | (s,j,q)::G=>ZE (QiM G)
end
def Yx[Decidable c](h:(if c then a else none)=some r):c/\a=some r:=by
 grind
def lcg(m i:Nat):Nat:=(i*5+1)%m
def lcgN(m:Nat):Nat->Nat->Nat
 |0,i=>i
 |s+1,i=>lcgN m s (lcg m i)
theorem Qdo m:∀a b i,lcgN m (a+b) i=lcgN m b (lcgN m a i)
 |0,b,i=>by rw[iD];rfl
 |a+1,b,i=>by rw[show a+1+b=(a+b)+1 by lia];exact Qdo m a b (lcg m i)
def Mk2(m:Nat):Prop:=m=8\/m=16\/m=32\/m=64\/m=128\/m=256
def Qjk(m:Nat):Nat->Nat->List Nat
 |0,_=>[]
 |s+1,i=>i::Qjk m s (lcg m i)
theorem Qhf m:∀n i s,s<n->(Qjk m n i)[s]?=some (lcgN m s i)
 |n+1,i,0,_=>rfl
 |n+1,i,s+1,h=>by
  exact Qhf m n (lcg m i) s (by lia)
theorem QdT m:∀n i,(Qjk m n i).length=n
 |0,_=>rfl
 |n+1,i=>by show(Qjk m n (lcg m i)).length+1=n+1;rw[QdT m n]
def XX(m:Nat):Bool:=Nat.beq (lcgN m m 0) 0&&(az m).all λf=>(Qjk m m 0).any λx=>Nat.beq x f
def Qoc:XX 8=true/\XX 16=true/\XX 32=true/\XX 64=true/\XX 128=true/\XX 256=true:=by decide+kernel
def round_of(h:Mk2 m):XX m=true:=by
 obtain⟨a,b,c,d,e,f⟩:=Qoc;rcases h with rfl | rfl | rfl | rfl | rfl | rfl<;>assumption
def reach0(h:Mk2 m):lcgN m m 0=0/\∀f,f<m->∃s,s<m/\lcgN m s 0=f:=by
 have q:=round_of h;unfold XX at q;rw[aD,aV]at q;refine⟨jZ q.1,λf hf=>?_⟩;have:f∈Qjk m m 0:=by
  obtain⟨x,j,e⟩:=eS.mp (q.2 f (dC.mpr hf));rw[<-jZ e];exact j
 obtain⟨s,hs,e⟩:=eU.mp this;rw[QdT]at hs;have z:=Qhf m m 0 s hs;rw[aU (by rw[QdT];exact hs),e]at z;exact⟨s,hs,(aR z).symm⟩
def reach(h:Mk2 m)(hi:i<m)(hf:f<m):∃s,s<m/\lcgN m s i=f:=by
 obtain⟨h0,j⟩:=reach0 h;obtain⟨a,D,rfl⟩:=j i hi;obtain⟨b,E,rfl⟩:=j f hf;by_cases B:a<=b
 .exact⟨b-a,by omega,by rw[<-Qdo];congr 1;omega⟩
 .refine⟨m-a+b,by omega,?_⟩;rw[Qdo,<-Qdo m a,show a+(m-a)=m by omega,h0]
def Qae(mask:Nat):Nat->Nat×Nat->Nat×Nat
 |0,x=>x
 |s+1,x=>Qae mask s (de.leap mask x.1 x.2)
theorem QhA mask:∀a b x,Qae mask (a+b) x=Qae mask b (Qae mask a x)
 |0,b,x=>by rw[iD];rfl
 |a+1,b,x=>by rw[show a+1+b=(a+b)+1 by omega];exact QhA mask a b _
theorem Qfo mask:∀s i,Qae mask s (i,0)=(lcgN (mask+1) s i,0)
 |0,_=>rfl
 |s+1,i=>by
  show Qae mask s ((i*5+1+0/32)%(mask+1),0/32)=_;exact Qfo mask s _
theorem Qfp mask:∀s i p,(Qae mask s (i,p)).2=p/32^s
 |0,i,p=>by simp[Qae]
 |s+1,i,p=>by
  show(Qae mask s ((i*5+1+p/32)%(mask+1),p/32)).2=_;rw[Qfp mask s,Nat.div_div_eq_div_mul,Nat.pow_succ,Nat.mul_comm]
theorem Qkw mask:∀s i p,i<mask+1->(Qae mask s (i,p)).1<mask+1
 |0,i,p,h=>h
 |s+1,i,p,h=>Qkw mask s _ _ (aP _ (by lia))
def leaps(h:Mk2 (mask+1))(hi:i<mask+1)(G:p<2^64)(hf:f<mask+1):∃s,s<gh mask/\(Qae mask s (i,p)).1=f:=by
 have z:(Qae mask 13 (i,p)).2=0:=by
  rw[Qfp];exact Nat.div_eq_of_lt (aG G (by decide))
 obtain⟨s,hs,e⟩:=reach h (Qkw mask 13 i p hi) hf;refine⟨13+s,by unfold gh;omega,?_⟩;rw[QhA,show Qae mask 13 (i,p)=((Qae mask 13 (i,p)).1,0) from Prod.ext rfl z,Qfo];exact e
theorem Qnu:∀fuel i p j,de.layClean.free mask owner fuel i p=some j->owner.getD j (some 0)=none
 |0,i,p,j,h=>by cases h
 |fuel+1,i,p,j,h=>by
  unfold de.layClean.free at h;split at h
  .rename_i k m;cases h;have:=List.find?_some m;simpa[Option.isNone_iff_eq_none] using this
  .exact Qnu fuel _ _ j h
theorem QhF(hf:owner.getD f (some 0)=none):∀fuel i p,(∃s,s<fuel/\(Qae mask s (i,p)).1=f)->∃j,de.layClean.free mask owner fuel i p=some j
 |0,i,p,⟨s,hs,_⟩=>by omega
 |fuel+1,i,p,⟨s,hs,e⟩=>by
  unfold de.layClean.free;split
  .exact⟨_,rfl⟩
  .rename_i hn;cases s with
   |zero =>
    have e:i=f:=e;subst e;have z:=List.find?_eq_none.mp hn 0 (by rw[dC];unfold de.runEnd;split<;>omega);rw[Nat.add_zero,hf]at z;simp at z
   |succ s=>exact QhF hf fuel _ _ ⟨s,by omega,e⟩
theorem fm_set:∀(l:List (Option Nat)) j k,l[j]?=some none->((l.set j (some k)).filterMap id).Perm (k::l.filterMap id)
 |[],j,k,h=>by simp at h
 |x::l,0,k,h=>by
  have :=by simpa using h
  subst this;simp
 |x::l,j+1,k,h=>by
  have m:=fm_set l j k (by simpa using h);cases x with
  |none=>simpa using m
  |some y =>
   exact(m.cons y).trans (.swap _ _ _)
theorem Qnw:∀(l:List (Option Nat)),(∀x∈l,x≠none)->(l.filterMap id).length=l.length
 |[],_=>rfl
 |x::l,h=>by
  cases x with
  |none=>exact absurd rfl (h none (by simp))
  |some y=>simp[Qnw l λx j=>h x (by simp[j])]
def laySt(mask:Nat)(G:Option (Array (Option Nat)×Nat))(h:Int):Option (Array (Option Nat)×Nat):=do
 let (owner,k) <-G;let j <-de.layClean.free mask owner (gh mask) (fy h%(mask+1)) (fy h)
 pure (owner.setIfInBounds j (some k),k+1)
def lay_step(hm:Mk2 (mask+1))(h1:owner.size=mask+1)(h2:(owner.toList.filterMap id).Perm (az k))(O:k<=mask) h :
  ∃G,laySt mask (some (owner,k)) h=some (G,k+1)/\G.size=mask+1/\(G.toList.filterMap id).Perm (az (k+1)):=by
 obtain⟨f,hf,D⟩:∃f,f<mask+1/\owner.getD f (some 0)=none:=by
  apply c0;intro E;have all:∀x∈owner.toList,x≠none:=λx J z=>by
   obtain⟨i,hi,e⟩:=eU.mp J;rw[bf]at hi;refine E ⟨i,by omega,?_⟩;rw[ft,aI hi];rw[Array.getElem_toList]at e;rw[e,z];rfl
  have l1:=Qnw _ all;have l2:=h2.length_eq;rw[aq]at l2;have Q:owner.toList.length=owner.size:=bf;omega
 have L:fy h<2^64:=by
  unfold fy;omega
 obtain⟨j,I⟩:=QhF D (gh mask) _ _ (leaps hm (aP _ (by omega)) L hf);have m:=Qnu _ _ _ _ I;have B:j<owner.size:=by
  apply c0;intro M;rw[ft,cV (by omega)]at m;cases m
 have H:owner.toList[j]?=some none:=by
  rw[ft,aI B]at m;rw[bR,aI B];exact congrArg some m
 refine⟨owner.setIfInBounds j (some k),?_,by rw[Array.size_setIfInBounds];exact h1,?_⟩
 .show(de.layClean.free mask owner (gh mask) (fy h%(mask+1)) (fy h)).bind _=_;rw[I];rfl
 .rw[Array.toList_setIfInBounds];refine(fm_set _ _ _ H).trans ?_;rw[lX];exact(h2.cons k).trans (List.perm_append_comm (l₁:=[k]))
theorem Qkx(hm:Mk2 (mask+1)):∀(hs:List Int) owner k,owner.size=mask+1->(owner.toList.filterMap id).Perm (az k)->k+hs.length<=mask+1 ->
  ∃G,hs.foldl (laySt mask) (some (owner,k))=some (G,k+hs.length)/\G.size=mask+1/\(G.toList.filterMap id).Perm (az (k+hs.length))
 |[],owner,k,h1,h2,j=>⟨owner,rfl,h1,h2⟩
 |h::hs,owner,k,h1,h2,j=>by
  rw[aK]at j;obtain⟨o',e,m,B⟩:=lay_step hm h1 h2 (by omega) h;obtain⟨D,e2,E,H⟩:=Qkx hm hs o' (k+1) m B (by omega);refine⟨D,?_,E,?_⟩
  .rw[lY,e,e2,aK];congr 2;omega
  .rw[aK,show k+(hs.length+1)=k+1+hs.length by omega];exact H
def QjD(hm:Mk2 (mask+1)) hs (hn:hs.size<=mask+1):∃owner,de.layClean mask hs=some owner/\owner.size=mask+1/\(owner.toList.filterMap id).Perm (az hs.size):=by
 obtain⟨o,e,j,m⟩:=Qkx hm hs.toList (l5 (mask+1) none) 0 (by simp) (by simp) (by grind);refine⟨o,?_,j,by grind⟩;show(hs.foldl (laySt mask) (some (l5 (mask+1) none,0))).map (·.1)=_;grind
def Qkm(owner:Array (Option Nat)) n (h:owner.size=n):(((az n).filterMap λj=>(owner.getD j none).map (j,·)).map (·.2))=owner.toList.filterMap id:=by
 subst h;rw[List.map_filterMap];have:owner.toList=(az owner.size).map λj=>owner.getD j none:=by
  apply lO
  .simp
  .intro i h1 h2;simp[ aI (show i<owner.size by simpa using h1)]
 rw[this,fG];congr 1;funext j;simp[ Option.map_map];cases owner[j]?.getD none<;>rfl
def Qnl{led plain:Bool}(hm:Mk2 (mask+1)) hs (hn:hs.size<=mask) :
  ∃t order,iQ mask finger moves led plain hs=some (t,order)/\order.toList.Perm (az hs.size)/\t.led=led/\Up t.place/\t.fits hs.size=true/\t.mask=mask/\t.dummies = #[]:=by
 obtain⟨o,e,m,B⟩:=QjD hm hs (by omega);have l:((az (mask+1)).filterMap λj=>(o.getD j none).map (j,·)).length=hs.size:=by
  have:=congrArg di (Qkm o (mask+1) m);rw[aj]at this;rw[this,B.length_eq,aq]
 have e2:iQ mask finger moves led plain hs=some ({ mask:=mask,place:=(((az (mask+1)).filterMap λj=>(o.getD j none).map (j,·)).map (·.1)).toArray,dummies := #[],finger:=finger,led:=led,moves:=moves,plain:=plain },(((az (mask+1)).filterMap λj=>(o.getD j none).map (j,·)).map (·.2)).toArray):=by
  unfold iQ;rw[e];rfl
 refine⟨_,_,e2,?_,rfl,?_,?_,rfl,rfl⟩
 .rw[kJ,Qkm o (mask+1) m];exact B
 .exact QcG (λj=>o.getD j none) _
 .unfold kZ k8;rw[aF,aj,l];simp[hn]
section
variable{prog:aN}{w:bg}{A:bG}{E:Value->ap->Prop}{s:ap}
def keyS:Value->Str
 |.str k _=>k
 |_=>""
def QdM(h:(strKind prog w).is k v=true):keyS v=k:=by
 cases v with
 |str y t=>exact(strKind prog w).inj (.str y t) y k (kb _ _ _ _) h
 |_=>exact absurd h (by simp[fS,ei])
def Xl(h:j7 (strKind prog w) l)(he:e∈l):(strKind prog w).is (keyS e.2) e.2=true/\e.1=(strKind prog w).hash (keyS e.2)/\e.2.scannable=true:=by
 obtain⟨⟨k,h1,h2⟩,j⟩:=h e he;rw[QdM h1];exact⟨h1,h2,j⟩
structure SetK (prog:aN) (w:bg) (L:Bool) (h:Heap) (a:Addr) (o:Obj) (es:Array (Int×Value)) (ep:Nat) (t:de) (M:List Str):Prop where
 ho:h.get? a=some o
 ex:o.ExactSet
 hd:o.data = .set es ep t
 el:j7 (strKind prog w) es.toList
 ks:(es.toList.map λe=>keyS e.2).Perm M
 nd:M.Nodup
 sb:es.size<dW
 hf:t.fits es.size=true
 kp:Kept L t
def Yn.toK(x:Yn prog w L h a M):∃o es ep t,SetK prog w L h a o es ep t M:=by
 obtain⟨o,es,ep,t,h1,h2,B,D,E,G,H,J,m,j⟩:=x;refine⟨o,es,ep,t,h1,h2,B,D,?_,m,G,H,j⟩;refine Qbm m (λk I=>?_) (by rw[aj,bf];omega);obtain⟨e,he,q⟩:=(E k).mp I;exact bw.mpr ⟨e,he,QdM q⟩
def SetK.toL(x:SetK prog w L h a o es ep t M):Yn prog w L h a M:=by
 refine⟨o,es,ep,t,x.ho,x.ex,x.hd,x.el,λk=>⟨λj=>?_,λ⟨e,he,q⟩=>?_⟩,x.sb,x.hf,?_,x.nd,x.kp⟩
 .obtain⟨e,he,rfl⟩:=bw.mp (x.ks.mem_iff.mpr j);exact⟨e,he,(Xl x.el he).1⟩
 .exact x.ks.mem_iff.mp (bw.mpr ⟨e,he,QdM q⟩)
 .have:=x.ks.length_eq;rw[aj,bf]at this;exact this
def find_K(x:SetK prog w L s.heap a o es ep t M)(fin:∀r,(∀i,r=some i->∃e,es.toList[i]?=some e/\keyS e.2=k)->(r=none->k∉M)->Q r s):av (model prog w) A (setFind a (.str k tk) ((strKind prog w).hash k)) Q E s:=by
 have B:(strKind prog w).is k (.str k tk)=true:=kb _ _ _ _;refine aa (aT x.ho x.hd x.hf ?_);dsimp only;rw[byScan_of (rfl) x.sb x.el,ak rfl];refine aa (fg (aa (wpAny_setScan_of B x.ho x.hd x.hf x.el ?_)));cases m:List.findIdx? (λe=>(strKind prog w).is k e.2) es.toList with
 |some j =>
  obtain⟨D,G,_⟩:=iz.mp m;refine af (fin _ (λi hi=>?_) λz=>by cases z);cases hi;rw[iD];exact⟨_,aU D,QdM G⟩
 |none =>
  refine af (fin _ (λi hi=>by cases hi) λ_ z=>?_);obtain⟨e,he,rfl⟩:=bw.mp (x.ks.mem_iff.mpr z);have:=jn.mp m e he;rw[(Xl x.el he).1]at this;cases this
def QaK(xs:Array α) i:(fm xs i).toList=xs.toList.eraseIdx i:=by
 grind[fm,Array.toList_extract,cU]
theorem Qgp{t:de}:t.fits n=true↔t.place.size=n/\t.place.size+t.dummies.size<=t.mask:=by
 show(t.place.size==n&&decide (t.place.size+t.dummies.size<=t.mask))=true↔_;grind
theorem Qfn(f:α->G):∀(l:List α) i,(l.eraseIdx i).map f=(l.map f).eraseIdx i
 |[],_=>rfl
 |x::l,0=>rfl
 |x::l,i+1=>by
  show f x::(l.eraseIdx i).map f=f x::(l.map f).eraseIdx i;rw[Qfn f l i]
def QjG xs p (x:α):(gE xs p x).size=xs.size+1:=by
 grind[QbO,aJ]
theorem Qft(xs:Array α)(h:i<xs.size):(fm xs i).size=xs.size-1:=by
 rw[<-bf,QaK,gX,ak (by exact h),bf]
theorem QlG{t:de}(h:i<t.place.size):(t.drop i).place=fm t.place i/\(t.drop i).dummies.size=t.dummies.size+1/\(t.drop i).mask=t.mask:=by
 unfold de.drop;rw[aI h];exact⟨rfl,QjG _ _ _,rfl⟩
def QoO{t:de}(h:t.fits n=true)(hi:i<n):(t.drop i).fits (n-1)=true:=by
 grind[Qgp,QlG,Qft]
def QoN(k:Kept L t) i:Kept L (t.drop i):=by
 unfold de.drop;split
 .refine⟨k.1,?_⟩;unfold Up;rw[QaK];exact k.2.sublist (List.eraseIdx_sublist _ _)
 .exact k
def QoP(x:SetK prog w L s.heap a o es ep t M)(fin:∀b h',bF a s.heap h'->(∃o es ep t,SetK prog w L h' a o es ep t (M.erase k))->Q b { s with heap:=h' }):av (model prog w) A (setDiscardHashed a (.str k tk) ((strKind prog w).hash k)) Q E s:=by
 refine aa (find_K x λr h1 h2=>?_);cases r with
 |none =>
  refine af ?_;have z:=fin false s.heap (dE a s.heap) ⟨o,es,ep,t,by rw[List.erase_of_not_mem (h2 rfl)];exact x⟩;exact z
 |some i =>
  obtain⟨e,he,D⟩:=h1 i rfl;have hi :=by
   have:=(al.mp he).1
   rwa [bf]at this
  refine aa (aT x.ho x.hd x.hf ?_);have sz:=Qft es hi;have G:=QfH x.ho x.hd (fm es i) (t.drop i);refine aa (gz x.ho x.hd ?_ (d1 (by have:=x.sb;omega)));refine aa (wpAny_point (af (fin true _ (cX s.heap a _) ⟨_,_,_,_,G,x.ex,rfl,?_,?_,x.nd.erase k,by have:=x.sb;omega,?_,QoN x.kp i⟩)))
  .intro J j;rw[QaK]at j;exact x.el J (List.mem_of_mem_eraseIdx j)
  .rw[QaK,Qfn];have H:(es.toList.map λe=>keyS e.2)[i]?=some k:=by rw[a0,he];exact congrArg some D
   obtain⟨m,B⟩:=al.mp H;have p1:=QaJ m;rw[B]at p1;have I:k∈M:=x.ks.mem_iff.mp (by rw[<-B];exact bZ m);exact(List.perm_cons k).mp ((p1.trans x.ks).trans (gU I))
  .rw[sz];exact QoO x.hf hi
def walk_K(x:SetK prog w (!byT w) s.heap a o es ep t M)(fin:∀ys d,ys.toList.Perm es.toList->Q ys { s with drawn:=d }):av (model prog w) A (setWalk a) Q E s:=by
 refine aa (aT x.ho x.hd x.hf ?_);refine aa (aa (b5 (af ?_)));refine(show av _ A (if byT w=true then _ else _) _ E s from ?_);cases T:byT w with
 |true =>
  exact aa (b5 (af (fin _ s.drawn (QbG _ _))))
 |false =>
  refine(show av _ A (if Qdc es t=true then _ else _) _ E s from ?_);cases D:Qdc es t with
  |true =>
   exact aa (Qgs _ _ _ _ (by rw[bf]) λys d p=>af (fin _ d (by exact p)))
  |false =>
   have j :=by have:=x.kp.1;rw[T]at this;exact this
   refine aa (show av _ A (if (!t.led&&decide (es.size>1))=true then unsupported _ else pure ()) _ E s from ?_);rw[j,ar (by simp)];exact af (af (fin es s.drawn (.refl _)))
def QmU(h:∀a∈G,∃L o es ep t M,SetK prog w L s.heap a o es ep t M)(fin:Q true s):av (model prog w) A (setsQuiet G) Q E s:=by
 refine aa (wpAny_forIn_list _ (λrest b s'=>b=⟨none,⟨⟩⟩/\s'=s/\∀a∈rest,a∈G) _ ?_ ?_ _ _ ⟨rfl,rfl,λa m=>m⟩)
 .rintro a rest b s' ⟨rfl,B,hs⟩;obtain rfl:=B.symm;obtain⟨L,o,es,ep,t,M,x⟩:=h a (hs a (by simp));refine aa (aa (aT x.ho x.hd x.hf (af ?_)));refine aa (iU _ (λr b j=>b=⟨none,⟨⟩⟩/\s=j/\∀e∈r,e∈es.toList) _ ?_ ?_ _ _ ⟨rfl,rfl,λe he=>he⟩)
  .rintro⟨n,v⟩ r b j ⟨rfl,rfl,D⟩;have H:=(Xl x.el (D (n,v) (by simp))).1;cases v with
   |str y t=>exact af ⟨rfl,rfl,λe he=>D e (by simp[he])⟩
   |_=>exact absurd H (by simp[fS,ei])
  .rintro b j ⟨rfl,rfl,_⟩;exact af ⟨rfl,rfl,λa m=>hs a (by simp[m])⟩
 .rintro b s' ⟨rfl,rfl,_⟩;exact af fin
end
theorem QkI:∀l:List α,(az l.length).filterMap (λi=>l[i]?)=l
 |[]=>rfl
 |x::l=>by
  rw[aK,gx,b6 (a:=0) (b:=x) rfl,fG];exact congrArg (x :: ·) (QkI l)
def Qnv{α:Type}{es:Array α}{order:Array Nat}(h:order.toList.Perm (az es.size)):(order.filterMap (es[·]?)).toList.Perm es.toList:=by
 rw[Array.toList_filterMap];have z:=h.filterMap (λi=>es[i]?);have e :=by
  have:=QkI es.toList;simpa using this
 rwa [e]at z
def Qhp{xs ys:Array α}(h:xs.toList.Perm ys.toList):xs.size=ys.size:=by
 have:=h.length_eq;grind
def Qex(h:n<256):Mk2 (bq n)/\n<bq n:=by
 have key:∀n<256,(bq n=8\/bq n=16\/bq n=32\/bq n=64\/bq n=128\/bq n=256)/\n<bq n:=by decide+kernel
 exact key n h
section
variable{prog:aN}{w:bg}{A:bG}{E:Value->ap->Prop}{s:ap}
def Qpd(x:SetK prog w L s.heap a o es ep t M)(el:j7 (strKind prog w) G.toList)(ks:(G.toList.map λe=>keyS e.2).Perm N)(nd:N.Nodup)(sb:G.size<dW)(hf:t'.fits G.size=true)(kp:Kept L t')(fin:∀h' o' J,bF a s.heap h'->SetK prog w L h' a o' G J t' N->Q () { s with heap:=h' }):av (model prog w) A (storeSet a G t') Q E s :=
 gz x.ho x.hd (fin _ _ _ (cX s.heap a _) ⟨QfH x.ho x.hd G t',x.ex,rfl,el,ks,nd,sb,hf,kp⟩) (d1 sb)
def QmP{L:Bool}{a:Addr}{o:Obj}{es:Array (Int×Value)}{ep:Nat}{t:de}{M:List Str}{wanted:Nat}{Q:Unit->ap->Prop}(x:SetK prog w L s.heap a o es ep t M)(hw:wanted<256)(hn:es.size<=wanted)(fin:∀h' o' J G t',bF a s.heap h'->SetK prog w L h' a o' J G t' M->t'.mask+1=bq wanted->t'.dummies = #[]->Q () { s with heap:=h' }):av (model prog w) A (setRelay a wanted) Q E s:=by
 obtain⟨m1,m2⟩:=Qex hw;refine aa (aT x.ho x.hd x.hf ?_);dsimp only;have line:¬bq wanted>ax:=by
  rw[eL];unfold Mk2 at m1;omega
 rw[ar line];have pos:bq wanted-1+1=bq wanted:=by omega
 obtain⟨t',order,e1,e2,e3,m,j,H,B⟩:=Qnl (by rw[pos];exact m1) (es.map (·.1)) (by rw[dU];omega);rw[dU]at e2 j;have D:t.relaid (es.map (·.1)) wanted=some (t',order):=e1;rw[D];have p:=Qnv e2;have ps:=Qhp p;refine aa (show av _ A (if ((order.filterMap (es[·]?)).size != es.size)=true then (unsupported _ >>= λ_=>pure (order.filterMap (es[·]?),t')) else pure (order.filterMap (es[·]?),t')) _ E s from ?_);rw[ar (by rw[ps];simp)];refine af (Qpd x (x.el.perm p) ((p.map _).trans x.ks) x.nd (by rw[ps];exact x.sb) (by rw[ps];exact j) ⟨e3.trans x.kp.1,m⟩ λh' o' G sb y=>fin h' o' _ G t' sb y (by omega) B)
def tidy_K(x:SetK prog w L s.heap a o es ep t M)(hn:M.length<64)(fin:∀h',bF a s.heap h'->(∃o es ep t,SetK prog w L h' a o es ep t M)->Q () { s with heap:=h' }):av (model prog w) A (setTidy a) Q E s:=by
 have j:=x.ks.length_eq;rw[aj,bf]at j;refine aa (aT x.ho x.hd x.hf ?_);dsimp only;split
 .have g:da es.size=es.size*4:=by
   unfold da;rw[ar (by omega)]
  exact QmP x (by omega) (by omega) λh' o' m B t' sb y _ _=>fin h' sb ⟨_,_,_,_,y⟩
 .exact af (fin s.heap (dE a s.heap) ⟨_,_,_,_,x⟩)
def SetK.at(x:SetK prog w L h a o es ep t M)(e:h'.get? a=h.get? a):SetK prog w L h' a o es ep t M :=
 ⟨e.trans x.ho,x.ex,x.hd,x.el,x.ks,x.nd,x.sb,x.hf,x.kp⟩
def SetK.len(x:SetK prog w L h a o es ep t M):es.size=M.length:=by
 have j:=x.ks.length_eq;grind
def room_K(x:SetK prog w L s.heap a o #[] ep t [])(hm:t.mask=7)(hd:t.dummies = #[])(hn:n<128)(fin:∀h' o' G t',bF a s.heap h'->SetK prog w L h' a o' #[] G t' []->Mk2 (t'.mask+1)->n<=t'.mask->t'.dummies = #[]->Q () { s with heap:=h' }):av (model prog w) A (setRoomFor a n) Q E s:=by
 have j:t.place.size=0:=(Qgp.mp x.hf).1;refine aa (aT x.ho x.hd x.hf ?_);unfold de.roomFor k8;rw[j,hd,hm];by_cases h:(0+(#[]:Array Nat).size+n)*5>=7*3
 .rw[ak h];refine QmP x (by omega) (by show 0<=_;omega) λh' o' m G t' sb y B D=>?_;have H :=iN y.len;subst H;obtain⟨m1,m2⟩:=Qex (n:=(0+n)*2) (by omega);exact fin h' o' G t' sb y (by rw[B];exact m1) (by omega) D
 .rw[ar h];exact af (fin s.heap o ep t (dE a s.heap) x (by rw[hm];exact .inl rfl) (by omega) hd)
def merge_K{L:Bool}{a r:Addr}{o ro:Obj}{es:Array (Int×Value)}{ep G:Nat}{t rt:de}{M:List Str}{Q:Unit->ap->Prop}(x:SetK prog w L s.heap a o es ep t M)(y:SetK prog w L s.heap r ro #[] G rt [])(ne:r≠a)(hm:rt.mask=7)(hd:rt.dummies = #[])(hn:M.length<128)(fin:∀h',bF r s.heap h'->(∃o es ep t,SetK prog w L h' r o es ep t M)->Q () { s with heap:=h' }):av (model prog w) A (setMerge r a) Q E s:=by
 have T:=x.len;unfold setMerge;rw[ar (by simpa using ne)];refine aa (aT x.ho x.hd x.hf ?_);dsimp only;by_cases h0:es.isEmpty=true
 .rw[ak h0];have:es.size=0:=by simpa using h0
  have:M=[]:=List.eq_nil_of_length_eq_zero (by omega);subst this;exact af (fin s.heap (dE r s.heap) ⟨_,_,_,_,y⟩)
 .rw[ar h0];refine aa (room_K y hm hd (by omega) λh1 U J t1 B j k1 k2 k3=>?_);refine aa (aT j.ho j.hd j.hf ?_);have D :=(Qgp.mp j.hf).1;have m:t1.road t=if (t1.mask==t.mask&&t.dummies.isEmpty)=true then .slotForSlot else .clean:=by
   unfold de.road k8;rw[D,k3];rfl
  rw[m];have led:(t1.led&&t.led)=L:=by rw[j.kp.1,x.kp.1,Bool.and_self]
  by_cases h2:(t1.mask==t.mask&&t.dummies.isEmpty)=true
  .rw[ak h2];exact Qpd j x.el x.ks x.nd x.sb x.hf ⟨led,x.kp.2⟩ λh' o' H sb z=>fin h' (B.trans sb) ⟨_,_,_,_,z⟩
  .rw[ar h2];obtain⟨t',order,e1,e2,e3,O,I,Y,e7⟩:=Qnl k1 (es.map (·.1)) (by rw[dU];omega);rw[dU]at e2 I;rw[e1];have p:=Qnv e2;have ps:=Qhp p;refine aa (show av _ A (if ((order.filterMap (es[·]?)).size != es.size)=true then (unsupported _ >>= λ_=>pure (order.filterMap (es[·]?),t')) else pure (order.filterMap (es[·]?),t')) _ E _ from ?_);rw[ar (by rw[ps];simp)];exact af (Qpd j (x.el.perm p) ((p.map _).trans x.ks) x.nd (by rw[ps];exact x.sb) (by rw[ps];exact I) ⟨e3.trans led,O⟩ λh' o' H sb z=>fin h' (B.trans sb) ⟨_,_,_,_,z⟩)
def Qji(x:SetK prog w (!byT w) s.heap a o es ep t M)(h:∀b∈Qau,∃L o es ep t M,SetK prog w L s.heap b o es ep t M)(fin:∀ys d,ys.toList.Perm es.toList->Q ys { s with drawn:=d }):av (model prog w) A (setWalkUnseen a Qau none) Q E s:=by
 refine aa (aT x.ho x.hd x.hf ?_);refine aa (aa (b5 (af ?_)));split
 .exact walk_K x fin
 .refine aa (QmU (λb j=>?_) ?_)
  .rcases ao.mp j with rfl | j
   .exact⟨_,_,_,_,_,_,x⟩
   .exact h b j
  .exact aa (fg (af (fin es s.drawn (.refl _))))
def Qjh(x:SetK prog w (!byT w) s.heap a o es ep t M)(y:SetK prog w (!byT w) s.heap f fo G J O N)(h:∀b∈Qau,∃L o es ep t M,SetK prog w L s.heap b o es ep t M)(fin:∀ys h' d,ys.toList.Perm es.toList->bF f s.heap h'->(∃o es ep t,SetK prog w (!byT w) h' f o es ep t N)->Q ys { s with heap:=h',drawn:=d }):av (model prog w) A (setWalkUnseen a Qau (some f)) Q E s:=by
 have j:∀ys d,ys.toList.Perm es.toList->Q ys { s with drawn:=d }:=by grind[dE]
 refine aa (aT x.ho x.hd x.hf ?_);refine aa (aa (b5 (af ?_)));split
 .exact walk_K x j
 .refine aa (QmU (λb B=>?_) ?_)
  .grind
  .refine aa (fg ?_);refine aa (aT y.ho y.hd y.hf ?_);dsimp only;split
   .refine aa (Qpd y y.el y.ks y.nd y.sb y.hf ⟨?_,y.kp.2⟩ λh' o' m sb z=>af (fin es h' s.drawn (.refl _) sb ⟨_,_,_,_,z⟩));rw[y.kp.1,x.kp.1,Bool.and_self]
   .exact af (j es s.drawn (.refl _))
def SetK.ty(x:SetK prog w L s.heap a o es ep t M):s.TypeIs (.ref a) "set":=⟨o,x.ho,x.ex.1⟩
def Qdt(G:s.TypeIs (.ref a) "set")(h:Q true s):av (model prog w) A (iJ.Frozenset.isAnySet (.ref a)) Q E s:=by
 refine aa (gO G i7 ?_);exact af h
def new_K(fin:∀h' o,h'=s.heap.push o->SetK prog w (!byT w) h' s.heap.objs.size o #[] 0 (.fresh 0 0 (!byT w)) []->Q (.ref s.heap.objs.size) { s with heap:=h' }) :
  av (model prog w) A (newSet (.type "set")) Q E s:=by
 refine aa (aa (b5 (af ?_)));refine a9 (fin _ _ rfl ?_);refine⟨aB _ rfl,⟨rfl,rfl,rfl⟩,rfl,λe he=>by simp at he,.refl _,.nil,by decide,by rfl,rfl,by unfold Up;simp[de.fresh]⟩
def base_K(G:s.TypeIs (.ref a) "set")(h:Q (.type "set") s):av (model prog w) A (iJ.Frozenset.baseOf a) Q E s:=by
 exact aa (gO G i7 (af h))
def copy_K(x:SetK prog w (!byT w) s.heap a o es ep t M)(hn:M.length<128)(fin:∀h',(∀b o,s.heap.get? b=some o->h'.get? b=some o)->(∃o es ep t,SetK prog w (!byT w) h' s.heap.objs.size o es ep t M)->Q (.ref s.heap.objs.size) { s with heap:=h' }):av (model prog w) A (iJ.Frozenset.copyOf a) Q E s:=by
 have j :=ay x.ho;refine aa (base_K x.ty (aa (new_K λh' o' e y=>?_)));subst e;refine aa (af ?_);refine aa (merge_K (x.at ?_) y (dY j) rfl rfl hn λm sb z=>af (fin m (λb ob B=>?_) z))
 .exact(ag _ x.ho).trans x.ho.symm
 .exact(sb.2 b (aC (ay B))).trans (ag _ B)
def SetK.ext(x:SetK prog w L h a o es ep t M)(e:∀b o,h.get? b=some o->h'.get? b=some o):SetK prog w L h' a o es ep t M :=
 x.at ((e _ _ x.ho).trans x.ho.symm)
def Qbi{id:String}(x:SetK prog w L s.heap a o es ep t M)(h:Q () s):av (model prog w) A (iJ.Frozenset.unchanged id a ep) Q E s:=by
 refine aa (aa (aT x.ho x.hd x.hf (af ?_)));rw[ar (by simp)];exact af h
def QiQ(x:SetK prog w L s.heap a o es ep t M)(h:Q M.length s):av (model prog w) A (iJ.Frozenset.sizeOf a) Q E s:=by
 refine aa (dJ x.ho x.hd x.hf (af ?_));rw[x.len];exact h
def Qny(x:SetK prog w L s.heap a o es ep t M)(h:Q ep s):av (model prog w) A (l9 a) Q E s:=by
 exact aa (aT x.ho x.hd x.hf (af h))
def Qer{M N K:List Str}(G:M.Nodup)(J:K.Nodup)(h:∀j,j∈K↔j∈M/\j∉N):K.Perm (M.filter λj=>decide (j∉N)) :=
 (je J (G.filter _)).mpr λj=>by rw[h,bP,ce]
def update_K{id:String}{r a:Addr}{ro o:Obj}{J es:Array (Int×Value)}{O ep:Nat}{rt t:de}{M N:List Str}{Q:Unit->ap->Prop}(x:SetK prog w (!byT w) s.heap r ro J O rt M)(y:SetK prog w (!byT w) s.heap a o es ep t N)(ne:r≠a)(hM:M.length<64)(hN:¬N.length/8>M.length)(fin:∀h' d K,bF r s.heap h'->(∃o es ep t,SetK prog w (!byT w) h' r o es ep t K)->K.Perm (M.filter λj=>decide (j∉N))->Q () { s with heap:=h',drawn:=d }):av (model prog w) A (i3 id r (.ref a)) Q E s:=by
  unfold i3;have nb:((cr a)==.ref r)=false:=by
    rw[cv];exact λe=>ne (by cases e;rfl)
  rw[nb,ar (by decide)];refine aa (Qdt y.ty ?_);refine aa (af (aa (QiQ y (aa (QiQ x ?_)))));rw[ar hN];refine aa (Qny y (aa (bd (aa (Qji y (λb Y=>?_) λys d py=>?_)))))
  · rw[aA]at Y
    subst Y;exact⟨_,_,_,_,_,_,x⟩
  · refine aa (iU _ (λrest b s'=>∃D h' K,D++rest=ys.toList/\s'={ s with heap:=h',drawn:=d }/\bF r s.heap h'/\(∃o es ep t,SetK prog w (!byT w) h' r o es ep t K) /\
        ∀j,j∈K↔j∈M/\j∉D.map λe=>keyS e.2) _ ?_ ?_ _ _ ⟨[],s.heap,M,rfl,rfl,dE _ _,⟨_,_,_,_,x⟩,λj=>by simp⟩)
    · rintro⟨n,v⟩ rest b s' ⟨D,h',K,e1,rfl,sb,⟨o1,H,I,t1,G⟩,mem⟩
      have L:(n,v)∈es.toList:=py.mem_iff.mp (by rw[<-e1];simp);obtain⟨v1,v2,v3⟩:=Xl y.el L;cases v with
      |str k tk =>
        have T:n=(strKind prog w).hash k:=v2;subst T;dsimp only;refine aa (bd (QoP (s:={ s with heap:=h',drawn:=d }) G λbb m B z=>?_));have y2:SetK prog w (!byT w) m a o es ep t N:=y.at ((B.2 a (Ne.symm ne)).trans (sb.2 a (Ne.symm ne)));refine aa (Qbi (s:={ s with heap:=m,drawn:=d }) y2 (af ?_));refine⟨D++[((strKind prog w).hash k,.str k tk)],m,K.erase k,by rw[<-e1];simp,rfl,sb.trans B,z,λj=>?_⟩;rw[G.nd.mem_erase_iff,mem,bH,aO];show _↔j∈M/\¬(_\/j∈[k]);rw[aA];constructor
        · rintro⟨q1,U,q3⟩
          exact⟨U,λq=>q.elim q3 q1⟩
        · rintro⟨U,q⟩
          exact⟨λz=>q (.inr z),U,λz=>q (.inl z)⟩
      |_=>exact absurd v1 (by simp[fS,ei])
    · rintro b s' ⟨D,h',K,e1,rfl,sb,⟨o1,H,I,t1,G⟩,mem⟩
      rw[bQ]at e1;subst e1;have pk:K.Perm (M.filter λj=>decide (j∉N)):=Qer x.nd G.nd λj=>by
        rw[mem,((py.map λe:Int×Value=>keyS e.2).trans y.ks).mem_iff]
      have kl:K.length<64:=by
        have:=pk.length_eq;have:=dN (λj=>decide (j∉N)) M;omega
      exact af (tidy_K (s:={ s with heap:=h',drawn:=d }) G kl λm B z=>fin m d K (sb.trans B) z pk)
def Qil{id:String}{a b:Addr}{o bo:Obj}{es G:Array (Int×Value)}{ep J:Nat}{t bt:de}{M N:List Str}{Q:Value->ap->Prop}(x:SetK prog w (!byT w) s.heap a o es ep t M)(y:SetK prog w (!byT w) s.heap b bo G J bt N)(hM:M.length<64)(fin:∀h' d K,(∀b o,s.heap.get? b=some o->h'.get? b=some o)->Yn prog w (!byT w) h' s.heap.objs.size K->K.Perm (M.filter λj=>decide (j∉N))->Q (.ref s.heap.objs.size) { s with heap:=h',drawn:=d }) :
  av (model prog w) A (jT id a (.ref b)) Q E s:=by
 unfold jT;have blt:b<s.heap.objs.size:=ay y.ho;have D:a<s.heap.objs.size:=ay x.ho;refine aa (Qdt y.ty ?_);refine aa (af ?_);refine aa (QiQ y (aa (QiQ x ?_)));by_cases hs:M.length/4>N.length
 .rw[ak hs];refine aa (fg (aa (copy_K x (by omega) λh' ext ⟨o1,L,O,t1,x1⟩=>?_)));refine aa (af (aa (bd ?_)));refine update_K x1 (y.ext ext) (dY blt) hM (by omega) λT d K sb ⟨o2,es2,ep2,t2,z⟩ pk=>af ?_;exact fin T d K (λc B hc=>(sb.2 c (aC (ay hc))).trans (ext c B hc)) z.toL pk
 .rw[ar hs];refine aa (base_K x.ty (aa (new_K λh' o' e z=>?_)));have ext:∀c B,s.heap.get? c=some B->h'.get? c=some B:=λc B hc=>by rw[e];exact ag _ hc
  have U:=x.ext ext;have y':=y.ext ext;refine aa (af (aa (Qny (s:={ s with heap:=h' }) U (aa (bd ?_)))));rw[ak rfl];refine aa (Qjh (s:={ s with heap:=h' }) U z (λc hc=>?_) λys h1 d Y sb1 ⟨o1,L,O,t1,z1⟩=>?_)
  .simp only[ao,dZ,iC]at hc;rcases hc with rfl | rfl
   .exact⟨_,_,_,_,_,_,y'⟩
   .exact⟨_,_,_,_,_,_,z⟩
  .refine aa (iU _ (λrest _ s'=>∃m h2 K,m++rest=ys.toList/\s'={ s with heap:=h2,drawn:=d }/\bF s.heap.objs.size h' h2/\Yn prog w (!byT w) h2 s.heap.objs.size K/\K.Nodup/\K.length<=m.length /\
    ∀j,j∈K↔(j∈m.map λe:Int×Value=>keyS e.2)/\j∉N) _ ?_ ?_ _ _ ⟨[],h1,[],rfl,rfl,sb1,z1.toL,.nil,am _,λj=>by simp⟩)
   .rintro⟨n,v⟩ rest _ s' ⟨m,h2,K,e1,rfl,sb,I,nd,kl,mem⟩;have hin:(n,v)∈es.toList:=Y.mem_iff.mp (by rw[<-e1];simp);obtain⟨v1,v2,v3⟩:=Xl x.el hin;have ln:m.length+1<=M.length:=by
     have q1:=congrArg di e1;have q2:=Y.length_eq;have q3:=(bf (xs:=es)).trans x.len;rw[aJ,aK]at q1;omega
    cases v with
    |str k tk =>
     have v2':n=(strKind prog w).hash k:=v2;subst v2';dsimp only;have y2:SetK prog w (!byT w) h2 b bo G J bt N:=y'.at (sb.2 b (aC blt));have x2:SetK prog w (!byT w) h2 a o es ep t M:=U.at (sb.2 a (aC D));refine aa (bd ?_);rw[ak rfl];refine aa (find_K (s:={ s with heap:=h2,drawn:=d }) y2 λrr f1 f2=>aa (af ?_));cases rr with
     |some i =>
      obtain⟨e,he,hk⟩:=f1 i rfl;have kN:k∈N:=y.ks.mem_iff.mp (bw.mpr ⟨e,dh he,hk⟩);rw[ar (by simp)];refine af (aa (Qbi (s:={ s with heap:=h2,drawn:=d }) x2 (af ?_)));refine⟨m++[((strKind prog w).hash k,.str k tk)],h2,K,by rw[<-e1];simp,rfl,sb,I,nd,by rw[aJ];omega,λj=>?_⟩;rw[mem,bH,aO];show _↔(_\/j∈[k])/\_;rw[aA];exact⟨λq=>⟨.inl q.1,q.2⟩,λq=>⟨q.1.elim (λz=>z) λz=>absurd (z▸kN) q.2,q.2⟩⟩
     |none =>
      have kN:=f2 rfl;rw[ak (by simp)];refine aa (add_LS (s:={ s with heap:=h2,drawn:=d }) I (by have:dW=4096:=rfl;omega) λbb h3 H z3=>af ?_);have x3:SetK prog w (!byT w) h3 a o es ep t M:=x2.at (H.2 a (aC D));refine aa (Qbi (s:={ s with heap:=h3,drawn:=d }) x3 (af ?_));refine⟨m++[((strKind prog w).hash k,.str k tk)],h3,Yw K k,by rw[<-e1];simp,rfl,sb.trans H,z3,Xy nd k,?_,λj=>?_⟩
      .have:=Qhv K k;rw[aJ];show _<=m.length+1;omega
      .rw[Qhw,mem,bH,aO];show _↔(_\/j∈[k])/\_;rw[aA];exact⟨λq=>q.elim (λq=>⟨.inl q.1,q.2⟩) λq=>⟨.inr q,q▸kN⟩,λq=>q.1.elim (λz=>.inl ⟨z,q.2⟩) .inr⟩
    |_=>exact absurd v1 (by simp[fS,ei])
   .rintro _ s' ⟨m,h2,K,e1,rfl,sb,I,nd,kl,mem⟩;rw[bQ]at e1;subst e1;refine af (af (fin h2 d K (λc B hc=>(sb.2 c (aC (ay hc))).trans (ext c B hc)) I (Qer x.nd nd λj=>?_)));rw[mem,((Y.map λe:Int×Value=>keyS e.2).trans x.ks).mem_iff]
end
section
variable{prog:aN}{w:bg}{A:bG}{E:Value->ap->Prop}{s:ap}{D:Addr}
set_option maxHeartbeats 3200000 in
def QlK{l:Addr}{G:Array Value}{ns:List Str}{Q:Value->ap->Prop}(calm:A.handled=none)(hl:s.heap.IsList l G)(hi:QeQ G.toList ns)(hb:G.size+1<dW)(fin:∀(h':Heap) (tk:Nat),Yn prog w (!byT w) h' s.heap.objs.size (Qbj (λi=>ns.getD i "") G.size)->(∀b o,b<s.heap.objs.size->s.heap.get? b=some o->h'.get? b=some o)->Q (.ref s.heap.objs.size) { s with heap:=h',toks:=tk }) :
  av (model prog w) A (call (.type "set") [.ref l]) Q E s:=by
 obtain⟨c,tl,hmro⟩:=a8.mro;have hmade:=a8.made;have hsub:=a8.sub;refine g0 (ig ?_);show av _ _ (callAny (.type "set") _) _ _ _;refine af ⟨dQ _ (by decide+kernel),cI jD ?_⟩;rw[bG.under_plain (lS "set" [.ref l] []) rfl];have h1:=a8.notType;have h2:=a8.canCreate;have hct:=jM (.ref l);repeat (any_goals (first | assumption | wp_step))
 refine dP (setNew (.ref l) (E:=E) (Q₁:=λobj B=>obj = .ref s.heap.objs.size/\B={ s with heap:=s.heap.push { cls := .type "set",dict:=none,data := .set #[] 0 (.fresh 0 0 (!byT w)) } }) ⟨rfl,rfl⟩) λr B hr=>?_;cases r with
 |error e=>exact hr
 |ok fl =>
  cases fl with
  |ret obj =>
   obtain⟨rfl,rfl⟩:=hr;have M:(s.heap.push { cls := .type "set",dict:=none,data := .set #[] 0 (.fresh 0 0 (!byT w)) }).get? s.heap.objs.size=some { cls := .type "set",dict:=none,data := .set #[] 0 (.fresh 0 0 (!byT w)) }:=aB _ rfl;have hT:kY { s with heap:=s.heap.push { cls := .type "set",dict:=none,data := .set #[] 0 (.fresh 0 0 (!byT w)) } } (.ref s.heap.objs.size) "set":=⟨_,M,rfl⟩
   have hli:=a8.init.lookup;have hbi:=a8.init.bind (.ref s.heap.objs.size);repeat (any_goals (first | assumption | wp_step))
   refine dP (dz (R:=wants (λr D=>r = .none/\∃h' tk,D={ s with heap:=h',toks:=tk }/\Yn prog w (!byT w) h' s.heap.objs.size (Qbj (λi=>ns.getD i "") G.size) /\
     (∀b o,b<s.heap.objs.size->s.heap.get? b=some o->h'.get? b=some o)) E) a8.init.plain jN (check_set_init_1 hT ?_)) λO D j=>?_
   .obtain⟨ol,T,U,nl,Y⟩:=hl;obtain⟨ocls,H,odata,m⟩:=ol;simp only at U Y;subst U;subst Y;have lold:(s.heap.push { cls := .type "set",dict:=none,data := .set #[] 0 (.fresh 0 0 (!byT w)) }).get? l=some { cls := .type "list",dict:=H,data := .seq G nl,slots:=m }:=ag _ T;have hsls:=PySem.F.sub_list_set;have hslf:=PySem.F.sub_list_frozenset;have hne:(Value.type "list"==Value.type "dict")=false:=by decide
    have lis:(s.heap.push { cls := .type "set",dict:=none,data := .set #[] 0 (.fresh 0 0 (!byT w)) }).IsList l G:=⟨_,lold,rfl,nl,rfl⟩
    unfold iJ.«set.__init__» noKeywords jS;generalize hPI:ke=PI
    wp_walk
    subst hPI;refine i6 lis (aa (iA ?_));have llt:l<s.heap.objs.size:=ay T;have I:A.in1.in1.in1.handled=none:=by simp[calm]
    have ne1:l≠(s.heap.push { cls := .type "set",dict:=none,data := .set #[] 0 (.fresh 0 0 (!byT w)) }).objs.size:=by
     rw[a7];exact aC (bC llt)
    have nin:s.heap.objs.size∉[(s.heap.push { cls := .type "set",dict:=none,data := .set #[] 0 (.fresh 0 0 (!byT w)) }).objs.size,l]:=by
     rw[a7];intro z;rcases ao.mp z with z | z
     .exact absurd z (aC (cW _))
     .rw[aA]at z;exact absurd z (dY llt)
    have hval:∀(i:Nat)(v:Value),G[i]?=some v->∃t,v = .str ((λi=>ns.getD i "") i) t:=λi v hv=>QeQ.str_at hi i v (by rw[bR];exact hv);refine QfT (L := !byT w) ((Walks.list I _ l ne1 G).toS) s.heap.objs.size nin (λi=>ns.getD i "") hval hb (G.size-0) 0 _ (by omega) (bz _) ⟨⟨_,aB _ rfl,rfl,rfl⟩,lis.push _⟩ ?Xg ?fin;case Xg=>exact QkE (ag _ M)
    case fin =>
     intro s' hm z;obtain⟨h',g',d',tk',os'⟩:=s';obtain rfl:g'=s.gens:=hm.gens;obtain rfl:d'=s.drawn:=hm.drawn;obtain rfl:os'=s.os:=hm.os;show av _ _ _ _ _ _;refine af ?_;show av _ _ (ret cm) _ _ _;refine af ⟨rfl,h',tk',rfl,z,λb o hb e=>?_⟩;refine hm.heap b o (λq=>?_) (ag _ (ag _ e));rw[a7]at q;rcases ao.mp q with q | q
     .exact absurd q (aC hb)
     .rw[aA]at q;exact absurd q (aC (bC hb))
   .cases O with
    |error e=>exact j
    |ok J =>
     cases J with
     |ret r =>
      obtain⟨rfl,h',tk,rfl,z,k⟩:=j;repeat (any_goals (first | assumption | wp_step))
      exact fin _ _ z k
     |_=>exact j.elim
  |_=>exact hr.elim
def Qjo{M:List Str}{Q:Value->ap->Prop}(calm:A.handled=none)(hS:Yn prog w (!byT w) s.heap D M)(h64:M.length<64)(fin:∀(L:Addr) h' tk d G ns e,(∀b o,s.heap.get? b=some o->h'.get? b=some o)->s.heap.objs.size<=L->h'.get? L=some (cF "list" G e)->jr G.toList ns->ns.Perm M->sortedS ns=true ->
   Q (.ref L) { s with heap:=h',toks:=tk,drawn:=d }):av (model prog w) A (call (.builtin "sorted") [.ref D]) Q E s:=by
 obtain⟨o,es,ep,t,ho,hex,hd,B,hm,Y,hf,hn,H,I⟩:=hS;have hC:SetC s.heap D es ep t:=⟨o,ho,hex,hd,hf⟩
 refine gy kind_sorted plain_sorted entry_sorted (args_sorted1 _) ?_;refine aa (af ?_);refine aa (QjP calm hC I Y λh1 tk d ord k1 O J=>?_);have ol:ord.length=M.length:=by
  have:=J.length_eq;rw[this,<-hn];simp
 have x:SetK prog w (!byT w) s.heap D o es ep t M:=by
  refine⟨ho,hex,hd,B,?_,H,Y,hf,I⟩;refine Qbm H (λk hk=>?_) (by rw[aj,bf];omega);obtain⟨e,he,q⟩:=(hm k).mp hk;exact bw.mpr ⟨e,he,QdM q⟩
 have j:jr (ord.map (·.2)) (ord.map λe=>keyS e.2):=by
  have key:∀e∈ord,(strKind prog w).is (keyS e.2) e.2=true:=λe he=>(Xl B (J.mem_iff.mp he)).1;clear J ol;induction ord with
  |nil=>exact .nil
  |cons y l ih =>
   obtain⟨n,v⟩:=y;have hy:=key (n,v) bp;cases v with
   |str k tk=>exact .cons k tk (ih λe he=>key e (aw _ he))
   |_=>exact absurd hy (by simp[fS,ei])
 have kM:(ord.map λe=>keyS e.2).Perm M:=(J.map _).trans x.ks;refine aa (gJ ?_);have vl:(ord.map (·.2)).length<64:=by rw[aj];omega
 have m:(h1.push (cF "list" (ord.map (·.2)).toArray 0)).get? h1.objs.size=some (cF "list" (ord.map (·.2)).toArray 0):=aB _ rfl;refine aa (bd (bD slot_list_sort ⟨_,m,rfl⟩ lT (list_sort_treeK strKind_oneLt m j.keysOf (λv₁ v₂ rest e=>keyKind_strs (by rw[<-e];exact j)) vl λst' a1 a2=>⟨_,rfl,?_⟩) (args_list_sort _)));obtain⟨T,b1,b2,b3⟩:=sorted_out_str j a1 a2;obtain⟨e,U⟩:=sortedHeap_at m;refine af ⟨_,rfl,fin h1.objs.size _ tk d _ T e (λb o q=>?_) O U b1 (b2.trans kM) b3⟩;have q1:=k1 b o q;have bl:=ay q1;rw[sortedHeap_old (aC bl) (by rw[a7];exact bC bl)];exact ag _ q1
def QgH:mf table "set.__sub__"=some iJ.«frozenset.__sub__» :=
 kh (id' := "frozenset.__sub__") (by kernel_rfl) rfl (by decide+kernel) (by kernel_rfl)
def sub_sets(x:Yn prog w (!byT w) s.heap a M)(y:Yn prog w (!byT w) s.heap b N)(G:M.length<64)(fin:∀h' d K,(∀b o,s.heap.get? b=some o->h'.get? b=some o)->Yn prog w (!byT w) h' s.heap.objs.size K->K.Perm (M.filter λj=>decide (j∉N))->Q (.ref s.heap.objs.size) { s with heap:=h',drawn:=d }) :
  av (model prog w) A (bV .Sub (.ref a) (.ref b)) Q E s:=by
 obtain⟨o,es,ep,t,x⟩:=x.toK;obtain⟨D,m,B,H,y⟩:=y.toK;refine wpAny_binaryOp_same x.ty y.ty PySem.F.fills_set_sub kq ?_;refine bD kq x.ty QgH ?_ (PySem.F.args_set_sub_2 _ _);refine aa (af ?_);refine aa (aa (Qdt x.ty (Qdt y.ty ?_)));refine aa (af (aa (Qil x y G λh' d K k1 k2 k3=>af ⟨_,rfl,by simp,fin h' d K k1 k2 k3⟩)))
end
section
variable{X:Cx}{e a b c:Expr}{es:List Expr}{ms ns ls:List Nat}{m m1 m2 m3:MEx}{ma mb:PEnv->Option (List PV)}{pos p p1 p2 p3 pos' pos2 pos3:Pos}{x:Str}{id T:String}
def Qct(hc:X.calm=true):Qah X (.type "set") (λvs H Q=>∃l ns,vs=[.ref l]/\SqL X.K H l (ns.map V.str)/\ns.length<1000/\∀p M,H p=none->M.Perm (once ns)->Q (.ref p) (upd H p (ZZ X p M))):=by
 intro pins s σ H vs us Q I rs h;obtain⟨l,ns,rfl,D,hn,q⟩:=h;obtain⟨u,rfl,E⟩:=YD rs;cases E;obtain⟨m,B,G,_⟩:=I.list D;have j:=B.length;rw[aj]at j;refine QlK (I.ok.hd hc) G.isList (by simpa using QfU B) (by show m.length+1<4096;omega) λh' tk z k=>?_;have e:m.toArray.size=ns.length:=by exact j.symm
 rw[e]at z;refine⟨.ref s.heap.objs.size,upd H s.heap.objs.size (ZZ X s.heap.objs.size _),I.laid (λb o q=>k b o (ay q) q) (am _) ⟨z,?_,λh1 h2 J k1=>J.at k1⟩,rfl,q _ _ I.fresh (Qfh ns)⟩;obtain⟨o,_,_,_,ho,_⟩:=z;exact⟨o,ho⟩
def QdA(hc:X.calm=true):Qah X (.builtin "sorted") (λvs H Q=>∃D M,vs=[.ref D]/\H D=some (ZZ X D M)/\M.length<64/\∀l ns,H l=none->ns.Perm M->sortedS ns=true->Q (.ref l) (upd H l (.lst (ns.map V.str)))):=by
 intro pins s σ H vs us Q I rs h;obtain⟨D,M,rfl,G,j,q⟩:=h;obtain⟨u,rfl,J⟩:=YD rs;cases J;obtain⟨z,_,_⟩:=I.hok D _ G;refine Qjo (I.ok.hd hc) z j λL h' tk d m ns e k B O hi E hs=>?_;have hn :=I.hok.fresh B;have T:=QbD hi;refine⟨.ref L,upd H L (.lst (ns.map V.str)),(I.laid (o := .lst (ns.map V.str)) k B ⟨?_,m.toList,e,T,by simp_all⟩).drawn d,rfl,q L ns hn E hs⟩;rw[aj,E.length_eq];exact bS (ew j (by decide))
def Qlm:OpR X (bV .Sub) (λv u H Q=>∃a b M N,v = .ref a/\u = .ref b/\H a=some (ZZ X a M)/\H b=some (ZZ X b N)/\M.length<64/\∀p K,H p=none->K.Perm (M.filter λj=>decide (j∉N))->Q (.ref p) (upd H p (ZZ X p K))):=by
 intro pins s σ H v u U Y Q I m B h;obtain⟨a,b,M,N,rfl,rfl,D,E,G,q⟩:=h;cases m;cases B;obtain⟨J,_,_⟩:=I.hok a _ D;obtain⟨L,_,_⟩:=I.hok b _ E;refine sub_sets J L G λh' d K k z O=>?_;refine⟨.ref s.heap.objs.size,upd H s.heap.objs.size (ZZ X s.heap.objs.size K),(I.laid (o:=ZZ X s.heap.objs.size K) k (am _) ⟨z,?_,λh1 h2 T k1=>T.at k1⟩).drawn d,rfl,q _ _ I.fresh O⟩;obtain⟨o,_,_,_,ho,_⟩:=z;grind
end
def QbI:List PV->List PV->Option (List PV)
 | [.lst xs],[.lst ys]=>match ZI xs,ZI ys with
  |some ns,some ks=>if ns.length<1000/\ks.length<1000/\(once ns).length<64 then some ((Ze ((once ns).filter λj=>decide (j∉ks))).map .str) else none
  |_,_=>none
 |_,_=>none
def Qed(ma mb:PEnv->Option (List PV)):PEnv->Option (List PV):=λγ=>(ma γ).bind λx=>(mb γ).bind λy=>QbI x y
def QbJ:List PV->Option PV
 | [.lst xs]=>match ZI xs with
  |some ns=>if ns.length<1000 then some (.int (once ns).length) else none
  |none=>none
 |_=>none
section
variable{X:Cx}{e a b c:Expr}{es:List Expr}{ms ns ls:List Nat}{m m1 m2 m3:MEx}{ma mb:PEnv->Option (List PV)}{pos p p1 p2 p3 pos' pos2 pos3:Pos}{x:Str}{id T:String}
def Qmp{K:ac}(h:RepL K F [.lst xs] vs):∃l us,vs=[.ref l]/\SqL K F l us/\RepL K F xs us:=by
 obtain⟨v,t,rfl,j,m⟩:=h;subst m;obtain⟨l,us,rfl,B,D⟩:=j;exact⟨l,us,rfl,B,D⟩
def QjJ(hc:X.calm=true)(hg:Gl X "set")(hm:X.mg "set"=none)(Y:Gl X "sorted")(hm2:X.mg "sorted"=none)(ha:AM X ms [a] ma)(hb:AM X ns [b] mb)(hs:ai [a] X.env=(false,eval a X.env)::ai [] X.env:=by rfl)(hpl:(bB pos (ai [] X.env)).any (·.1)=false:=by rfl)(hsb:ai [b] X.env=(false,eval b X.env)::ai [] X.env:=by rfl)(G:(bB pos2 (ai [] X.env)).any (·.1)=false:=by rfl)(J:ai [.BinOp (.Call (.Name "set" p1) [a] [] pos) .Sub (.Call (.Name "set" p3) [b] [] pos2) pos3] X.env=(false,eval (.BinOp (.Call (.Name "set" p1) [a] [] pos) .Sub (.Call (.Name "set" p3) [b] [] pos2) pos3) X.env)::ai [] X.env:=by rfl)(O:(bB pos' (ai [] X.env)).any (·.1)=false:=by rfl) :
  EO X (ms++ns) (.Call (.Name "sorted" p2) [.BinOp (.Call (.Name "set" p1) [a] [] pos) .Sub (.Call (.Name "set" p3) [b] [] pos2) pos3] [] pos') (Qed ma mb) :=
 PE.imp (YX (QdA hc) Y hm2 (by kernel_rfl) (ZF (pe_op Qlm (Xk (Qct hc) hg hm (by kernel_rfl) ha (by decide) (by decide) hs hpl) (Xk (Qct hc) hg hm (by kernel_rfl) hb (by decide) (by decide) hsb G)) Qbf J) (by decide) (by decide) J O) λσ H Q ⟨F,γ,r,k1,k2,k3,w⟩=>by
  obtain⟨qs,e1,k3⟩:=Qe k3;obtain⟨rs,e2,k3⟩:=Qe k3;refine⟨F,γ,qs,k1,k2.left,e1,λvs H1 F1 E q1=>?_⟩;unfold QbI at k3;split at k3
  .obtain⟨l,us,rfl,sl,rl⟩:=Qmp q1;split at k3
   .rename_i ns ks hns hks;obtain⟨⟨c1,c2,c3⟩,rfl⟩:=Qt k3;have e2':=Yp hns rl;subst e2';refine⟨l,ns,rfl,E.sub.seq sl,c1,λp M hp hM=>?_⟩;have g2:Grow F1 H1 F1 (upd H1 p (ZZ X p M)) := .side E.sub hp;refine⟨F1,γ,_,g2.sub,k2.right.mono E.ext,e2,λvs2 H2 F2 T q2=>?_⟩;obtain⟨l2,us2,rfl,sl2,rl2⟩:=Qmp q2;have e3:=Yp hks rl2;subst e3;refine⟨l2,ks,rfl,T.sub.seq sl2,c2,λm N hp' hN=>?_⟩;have g4:Grow F2 H2 F2 (upd H2 m (ZZ X m N)) := .side T.sub hp';refine⟨p,m,M,N,rfl,rfl,g4.same p _ (T.same p _ Qk),Qk,by rw[hM.length_eq];exact c3,λB K I hK=>?_⟩;have g5:Grow F2 (upd H2 m (ZZ X m N)) F2 (upd (upd H2 m (ZZ X m N)) B (ZZ X B K)) := .side g4.sub I;have L:K.Perm ((once ns).filter λj=>decide (j∉ks)):=by
     refine(hK.trans (hM.filter _)).trans ?_;rw[lA (q:=λj=>decide (j∉ks)) λj _=>gc.mpr (not_congr (hN.mem_iff.trans Qcp))]
    refine⟨B,K,rfl,Qk,?_,λl3 zs D hz hsz=>?_⟩
    .have:=dN (λj=>decide (j∉ks)) (once ns);have:=L.length_eq;lia
    have ez:zs=Ze ((once ns).filter λj=>decide (j∉ks)):=Qdh (hz.trans L) (YR _ hsz);subst ez;have U:=(g2.trans T).trans (g4.trans g5);have g6:=U.trans (.side (o := .lst ((Ze ((once ns).filter λj=>decide (j∉ks))).map V.str)) U.sub D);exact w l3 _ _ F2 (E.trans g6) (E.same.free (U.same.free D)) (U.sub.free D) Qk (Yo _)
   .cases k3
  .cases k3
def QjK(hc:X.calm=true)(hg:Gl X "set")(hm:X.mg "set"=none)(O:Gl X "len")(U:X.mg "len"=none)(ha:AM X ms [a] ma)(hs:ai [a] X.env=(false,eval a X.env)::ai [] X.env:=by rfl)(Y:(bB pos (ai [] X.env)).any (·.1)=false:=by rfl)(G:ai [.Call (.Name "set" p1) [a] [] pos] X.env=(false,eval (.Call (.Name "set" p1) [a] [] pos) X.env)::ai [] X.env:=by rfl)(J:(bB pos' (ai [] X.env)).any (·.1)=false:=by rfl) :
  EM X ms (.Call (.Name "len" p2) [.Call (.Name "set" p1) [a] [] pos] [] pos') (Qg QbJ ma) :=
 PE.imp (YX QbU O U fD (ZF (Xk (Qct hc) hg hm (by kernel_rfl) ha (by decide) (by decide) hs Y) Qbf G) (by decide) (by decide) G J) λσ H Q ⟨F,γ,r,k1,k2,k3,w⟩=>by
  obtain⟨D,e1,k3⟩:=Qe k3;refine⟨F,γ,D,k1,k2,e1,λvs H1 j m E=>?_⟩;unfold QbJ at k3;split at k3
  .obtain⟨l,us,rfl,I,L⟩:=Qmp E;split at k3
   .rename_i ns B;obtain⟨T,rfl⟩:=Qt k3;have e2:=Yp B L;subst e2;refine⟨l,ns,rfl,m.sub.seq I,T,λp M hp hM=>?_⟩;refine⟨p,M,rfl,Qk,?_⟩;have g2:Grow j H1 j (upd H1 p (ZZ X p M)) := .side m.sub hp;rw[hM.length_eq];exact w _ _ j (m.trans g2) (QL _)
   .cases k3
  .cases k3
end
section
variable{prog:aN}{w:bg}{A:bG}{E:Value->ap->Prop}{s:ap}
def Qns{α:Type}{l:List α}{d:α}(h:i<l.length):l.getD i d=l[i]:=by
 rw[jh,aU h];rfl
theorem Qen:∀{vs:List Value}{ns:List Str},jr vs ns->∀i,i<vs.length->∃G,vs[i]?=some (.str (ns.getD i "") G)
 |_,_,.nil,i,h=>by simp at h
 |_,_,.cons y t r,0,h=>⟨t,rfl⟩
 |_,_,.cons y t r,i+1,h=>by
  obtain⟨G,e⟩:=Qen r i (by simpa using h);exact⟨G,by simpa using e⟩
def QnQ{l:Addr}{vs:List Value}{ns:List Str}{k:Str}{t:Tok}{Q:Value->ap->Prop}(J:jR s.heap l vs.toArray)(hi:jr vs ns)(O:k∈ns)(h:Q (.int (ns.idxOf k) s.toks) { s with toks:=s.toks+1 }):av (model prog w) A (call (.builtin "tuple.index") [.ref l,.str k t]) Q E s:=by
 obtain⟨o,ho,hc,n,hd⟩:=J;refine bD js ⟨_,ho,hc⟩ PySem.F.entry_tuple_index ?_ (PySem.F.args_tuple_index_2 _ _);refine aa (af ?_);refine aa (wpAny_tupleItemsOf ho hd (aa (af (aa (af (aa ?_))))));have H :=hi.length;have I :=fW.mpr O;rw[Std.Legacy.Range.forIn_eq_forIn_range'];refine wpAny_forIn_list _ (λrest b s'=>b=⟨none,⟨⟩⟩/\s=s'/\∃i,rest=cw i (vs.length-i)/\i<=ns.idxOf k) _ ?_ ?_ _ _ ⟨rfl,rfl,0,?_,bz _⟩
 .rintro x rest b s' ⟨rfl,rfl,i,m,B⟩;have D:i<vs.length:=by omega
  have e1:vs.length-i=(vs.length-(i+1))+1:=by omega
  rw[e1,lM]at m;obtain⟨rfl,rfl⟩:=List.cons.inj m;obtain⟨L,M⟩:=Qen hi x D;have G:vs.toArray[x]?=some (.str (ns.getD x "") L):=by simpa using M
  rw[G];refine aa (eqBool_str ?_);by_cases he:ns.getD x ""=k
  .have T:x=ns.idxOf k:=by
    by_cases j:x<ns.idxOf k
    .have:=List.not_of_lt_findIdx j;rw[Qns (show x<ns.length by omega)]at he;rw[he]at this;simp at this
    .omega
   rw[ak (by simpa using he)];subst T;refine aa (aa (wpAny_mkInt (af (af (af ⟨_,rfl,h⟩)))))
  .rw[ar (by simpa using he)];refine af ⟨rfl,rfl,x+1,rfl,?_⟩;have:x≠ns.idxOf k:=λq=>he (by rw[q,Qns I,ir]);omega
 .rintro b s' ⟨rfl,rfl,i,m,B⟩;have:=congrArg di m;rw[c7,List.length_range']at this;omega
 .simp[Std.Legacy.Range.size]
end
def QaT:PV->List PV->Option PV
 | .tup xs,[.str k]=>match ZI xs with
  |some ns=>if k∈ns then some (.int (ns.idxOf k)) else none
  |none=>none
 |_,_=>none
def Qmq:PV->Bool
 |.tup (.int _::_)=>false
 |.tup _=>true
 |_=>false
def mMtT(g:PV->List PV->Option PV)(m:MEx)(ma:PEnv->Option (List PV)):MEx:=λγ=>(m γ).bind λp=>if Qmq p=true then (ma γ).bind λps=>g p ps else none
def tBT(K:ac)(r:V->List V->Hp->VK->Prop)(to:TE)(t:TA):TE:=λσ H Q=>to σ H λx H1=>(∃a xs,x = .ref a/\SqT K H1 a xs/\∀i y,xs≠[V.int i,y])/\t σ H1 λxs H2=>r x xs H2 Q
section
variable{X:Cx}{o e a b c:Expr}{es:List Expr}{ms ns ls:List Nat}{m m1 m2 m3:MEx}{ma mb:PEnv->Option (List PV)}{to:TE}{t:TA}{name:Str}{apos cpos:Pos}{id:String}{r:V->List V->Hp->VK->Prop}
def pe_bmT(slot:lc "tuple" name id)(Y:typeOf (.builtin id)=pure (.type "method_descriptor"))(hm:MtR X id r)(ho:PE X o to)(ha:PA X (e::es) t)(J:cQ o name X.env (eval o X.env)=eval o X.env:=by rfl)(U:((bB cpos (ai (e::es) X.env)).all (λx => !x.1)&&(gS cpos (eM [] X.env)).all (λx=>x.1.isSome)
   && decide ((e::es).length+([]:List dL).length+(if ([]:List dL).isEmpty then 0 else 1)<30))=true:=by rfl)(O:(apos.endLine==cpos.line)=true:=by rfl)(hs:ai (e::es) X.env=(false,eval e X.env)::ai es X.env:=by rfl)(G:(bB cpos (ai es X.env)).any (·.1)=false:=by rfl) :
  PE X (.Call (.Attribute o name apos) (e::es) [] cpos) (tBT X.K r to t):=by
 intro pins s σ H Q I h;refine hB J U O rfl (thn (ho pins s σ H _ I h) λv s1 ⟨x,H1,m,B,⟨a,xs,E,L,M⟩,T⟩=>?_);subst E;have j:=B;cases B;obtain⟨its,rv,⟨ob,p1,p2,p3,p4⟩,_⟩:=m.tupleD L;have p3:ob.dict=none:=by
  rcases p3 with z|⟨i,y,z⟩
  .exact z
  .exact absurd z (M i y)
 refine⟨"tuple",id,PySem.F.plainAttrs_tuple,slot,Y,⟨ob,p1,p2⟩,λa e=>by cases e;exact⟨ob,p1,p3⟩,?_⟩;have D:=ha cpos pins s1 σ H1 _ m T;rw[hs]at D |-;refine ia (by show(false||(bB cpos (ai es X.env)).any (·.1))=false;rw[G]<;>rfl) (iH ?_);exact thn D λus s2 ⟨vs,H2,I2,r2,q2⟩=>hm pins s2 σ H2 _ vs _ us Q I2 j r2 q2
def em_mtT(h:EM X ms o m)(O:AM X ns (e::es) ma)(G:PE X (.Call (.Attribute o name apos) (e::es) [] cpos) (tBT X.K (rMt X.K g) (tM X.K ms m) (tMA X.K ns ma))):EM X (ms++ns) (.Call (.Attribute o name apos) (e::es) [] cpos) (mMtT g m ma) :=
 PE.imp G λσ H Q ⟨F,γ,r,k1,k2,k3,w⟩=>by
  obtain⟨p,e1,k3⟩:=Qe k3;cases p with
  |tup xs =>
   have T:Qmq (.tup xs)=true:=by
    grind
   rw[ak T]at k3;obtain⟨ps,e2,k3⟩:=Qe k3;refine⟨F,γ,.tup xs,k1,k2.left,e1,λv H1 I j E=>⟨?_,I,γ,ps,j.sub,k2.right.mono j.ext,e2,λvs H2 F2 B J=>?_⟩⟩
   .obtain⟨a,vs,rfl,L,D⟩:=E;refine⟨a,vs,rfl,j.sub.seqT L,λi y z=>?_⟩;cases xs with
    |nil=>grind[RepL]
    |cons p ps =>
     obtain⟨U,t1,M,D,_⟩:=D;cases M;cases p<;>unfold Rep at D<;>first | (cases T;done) | grind | grind | grind
   .exact⟨F2,.tup xs,ps,r,B.sub,E.mono B.ext,J,k3,w.go (j.trans B)⟩
  |_=>cases k3
def Qop:MtR X "tuple.index" (rMt X.K QaT):=by
 intro pins s σ H x xs v us Q I D rs h;obtain⟨F,p,ps,r,h1,h2,m,j,w⟩:=h;unfold QaT at j;split at j
 .split at j
  .rename_i ys B;obtain⟨c,rfl⟩:=Qt j;obtain⟨a,ws,rfl,k2,k3⟩:=h2;cases D;obtain⟨O,T,rfl,m,E⟩:=m;subst E;subst m;obtain⟨u,rfl,G⟩:=YD rs;obtain⟨tk,rfl⟩:=G;have e3:=Yp B k3;subst e3;obtain⟨J,L,M,_⟩:=I.tuple (h1.seqT k2);exact QnQ M (YK L) c ⟨.int _,H,I.tok _,⟨_,rfl⟩,w.here h1 (QL _)⟩
  .cases j
 .cases j
def Qei(h:EM X ms o m)(Y:AM X ns (e::es) ma)(J:cQ o "index" X.env (eval o X.env)=eval o X.env:=by rfl)(U:((bB cpos (ai (e::es) X.env)).all (λx => !x.1)&&(gS cpos (eM [] X.env)).all (λx=>x.1.isSome)
   && decide ((e::es).length+([]:List dL).length+(if ([]:List dL).isEmpty then 0 else 1)<30))=true:=by rfl)(O:(apos.endLine==cpos.line)=true:=by rfl)(hs:ai (e::es) X.env=(false,eval e X.env)::ai es X.env:=by rfl)(G:(bB cpos (ai es X.env)).any (·.1)=false:=by rfl) :
  EM X (ms++ns) (.Call (.Attribute o "index" apos) (e::es) [] cpos) (mMtT QaT m ma) :=
 em_mtT h Y (pe_bmT js PySem.F.type_tuple_index Qop h Y J U O hs G)
def sExE(ms:List Nat)(m:MEx):MSt:=λγ=>(m γ).map λr=>.nx (Qw (flat r) ms γ)
end
end L2.PM
namespace L2.PM
open PySem PySem.Spec PyProof.Rows HT
theorem QkJ:∀{l:List α},(∀x∈l,f x=g x)->l.filterMap f=l.filterMap g
 |[],_=>rfl
 |x::l,h=>by
  rw[dw,dw,h x (by simp),QkJ λy j=>h y (by simp[j])]
section
variable{prog:aN}{w:bg}{A:bG}{E:Value->ap->Prop}{s:ap}
def Qdu{G:Addr}{u:Tok}{n:Nat}{Q:Int×Int×Nat->ap->Prop}(hs:s.heap.IsSliceOf G .none .none (.int (-1) u))(h:Q (((n:Int)-1),-1,n) s):av (model prog w) A (gt (.ref G) (pure (n:Int))) Q E s:=by
 obtain⟨os,j,B,m⟩:=id hs;unfold gt iJ.Slice.sliceFields;refine aa (aa (cE j m (x := .none) rfl (aa (cE j m (x := .none) rfl (aa (cE j m (x := .int (-1) u) rfl (af ?_)))))));refine aa (slicePart_int ?_);show av _ _ (if ((-1:Int)==0)=true then _ else _) _ _ s;rw[ar (by decide)];refine aa (jk (aa (jk (aa (af ?_)))));show av _ _ (pure ((n:Int)-1,(-1:Int),b7 ((n:Int)-1) (-1) (-1))) _ _ s;have e:b7 ((n:Int)-1) (-1) (-1)=n:=by
  unfold b7;rw[ar (by decide)];by_cases h0:n=0
  .subst h0;rfl
  .rw[ak (by omega)];have:((n:Int)-1 - -1-1)/(- -1)+1=n:=by
    have e1:(- -1:Int)=1:=by decide
    rw[e1,Int.ediv_one];omega
   rw[this];rfl
 rw[e];exact af h
def pick_key(l:List Value):(az l.length).filterMap (λ(m:Nat)=>l[((l.length:Int)-1+(m:Int) * -1).toNat]?)=l.reverse:=by
  have e:(az l.length).filterMap (λ(m:Nat)=>l[((l.length:Int)-1+(m:Int) * -1).toNat]?)=(az l.length).filterMap (λ(m:Nat)=>l.reverse[m]?):=by
   refine QkJ λm hm=>?_;have hm:=dC.mp hm;rw[List.getElem?_reverse hm];congr 1;omega
  rw[e];have z:∀l:List Value,(az l.length).filterMap (λi=>l[i]?)=l:=by
   intro l;induction l with
   |nil=>rfl
   |cons x l j =>
    rw[aK,gx,b6 (f:=λi=>(x::l)[i]?) (a:=0) (b:=x) rfl,fG];exact congrArg (x :: ·) j
  have:=z l.reverse
  rwa [h8]at this
def pick_rev(xs:Array Value):((az xs.size).filterMap λ(m:Nat)=>xs[((xs.size:Int)-1+(m:Int) * -1).toNat]?).toArray=xs.toList.reverse.toArray:=by
 congr 1;have:=pick_key xs.toList;rw[bf]at this;simpa using this
def QcB(G:jR s.heap t items)(hs:s.heap.IsSliceOf J .none .none (.int (-1) u))(h:Q (.ref s.heap.objs.size) { s with heap:=s.heap.push { cls := .type "tuple",data := .seq items.toList.reverse.toArray } })(O:items.size<=ax):av (model prog w) A (gC (.ref t) (.ref J)) Q E s:=by
 have j :=by
  show items.toList.reverse.toArray.size<=ax;grind
 obtain⟨os,m,B,D⟩:=id hs;have T:s.TypeIs (.ref J) "slice":=⟨os,m,B⟩
 unfold gC
 try with_reducible refine bd ?_
 first | refine aa (af ?_) | skip
 refine aa (i5 G.typeIs (by decide) ?_);refine aa (cn G.typeIs ba
  (bD ba G.typeIs jA ?_ (jV _ _)))
 show av _ _ (gs (.ref t) >>= _) _ _ s;refine aa (tupleItemsOf_ G ?_);refine aa (eT T ?_);refine aa (Qdu hs ?_);show av _ _ (if (((items.size:Int)-1)==0&&(-1)==1&&items.size==items.size)=true then _ else _) _ _ s;rw[ar (by simp),pick_rev];first
  |exact aa (a9 (af ⟨_,rfl,af h⟩) j)
  |exact aa (a9 (aa (af (af ⟨_,rfl,af h⟩))) j)
  |exact aa (aa (a9 (af (af ⟨_,rfl,af h⟩)) j))
  |exact aa (aa (a9 (af ⟨_,rfl,af h⟩) j))
end
section
variable{X:Cx}{e st:Expr}{te ts:TE}{p2 pos:Pos}
def RvR(X:Cx)(r:V->Hp->VK->Prop):Prop :=
 ∀pins s (σ:St) H x v j u Q,Inv X pins σ H s->RelV x v->s.heap.IsSliceOf j .none .none (.int (-1) u)->r x H Q ->
  ∃T id,j9 (.type T) "__getitem__"=pure (some (.builtin id))/\s.TypeIs v T/\av (model X.prog X.w) X.A (gC v (.ref j)) (EP X pins σ Q) X.xe s
def tRv(r:V->Hp->VK->Prop)(te ts:TE):TE:=λσ H Q=>te σ H λx H1=>ts σ H1 λy H2=>y = .int (-1)/\r x H2 Q
def pe_rev(J:RvR X r)(he:PE X e te)(G:PE X st ts):PE X (.Subscript e (.Slice none none (some st) p2) pos) (tRv r te ts):=by
 intro pins s σ H Q I h;refine Subscript_ (thn (he pins s σ H _ I h) λv s1 ⟨x,H1,B,D,E⟩=>?_);refine wpAny_Slice ?_;refine af (af ?_);refine(thn (G pins s1 σ H1 _ B E) λvs j ⟨y,m,L,M,O,U⟩=>?_);subst O;obtain⟨u,rfl⟩:=M;have Y:Inv X pins σ m { j with heap:=j.heap.push { cls := .type "slice",data := .fields #[.none,.none,.int (-1) u] } }:=L.kept λb ob q=>ag _ q;obtain⟨T,id,hT,ht,hg⟩:=J pins { j with heap:=j.heap.push { cls := .type "slice",data := .fields #[.none,.none,.int (-1) u] } } σ m x v j.heap.objs.size u Q Y D (Heap.IsSliceOf.new ..) U;exact tail_any ht hT hg (by with_unfolding_all rfl)
def rRvT(K:ac):V->Hp->VK->Prop:=λx H Q=>∃a xs,x = .ref a/\SqT K H a xs/\∀p,H p=none->Q (.ref p) (upd H p (.tup xs.reverse))
def vals_rev(h:Vals xs us):Vals xs.reverse us.reverse:=by
 induction h with
 |nil=>exact .nil
 |cons r _ j =>
  rw[dO,dO];exact j.append (.cons r .nil)
def rv_tup:RvR X (rRvT X.K):=by
 intro pins s σ H x v G u Q I D hs h;obtain⟨a,xs,rfl,E,q⟩:=h;cases D;obtain⟨m,r,B,hz⟩:=I.tuple E;have j:m.toArray.size=xs.length:=by rw[aF];exact r.length.symm
 refine⟨"tuple",_,ba.lookup,B.typeIs,?_⟩;refine QcB B hs ?_ (by rw[j];exact hz);refine⟨.ref s.heap.objs.size,_,I.laid (t':=s.toks) (o := .tup xs.reverse) (λb ob q=>ag _ q) (am _) ?_,rfl,q _ (I.hok.fresh (am _))⟩;exact⟨by rw[h8];exact hz,_,vals_rev r,Xd.new _ _ _⟩
end
def pRvT:PV->Option PV
 |.tup xs=>some (.tup xs.reverse)
 |_=>none
theorem Qki{K:ac}:∀{xs:List PV}{vs:List V},RepL K F xs vs->RepL K F xs.reverse vs.reverse
 |[],vs,h=>by
  grind[RepL]
 |x::xs,vs,h=>by
  obtain⟨v,r,rfl,h1,h2⟩:=h;rw[dO,dO];exact(Qki h2).append (.cons h1 .nil)
section
variable{X:Cx}{e st:Expr}{ms ns:List Nat}{m mst:MEx}{p2 pos:Pos}
def em_revT(he:EM X ms e m)(G:EM X [] st mst)(hm:∀γ,mst γ=some (.int (-1))):EM X ms (.Subscript e (.Slice none none (some st) p2) pos) (un1 pRvT m) :=
 PE.imp (pe_rev rv_tup he G) λσ H Q ⟨F,γ,r,h1,h2,B,w⟩=>by
  obtain⟨x,e1,B⟩:=Qe B;refine⟨F,γ,x,h1,h2,e1,λL H1 I D J=>⟨I,γ,_,D.sub,(λi hi=>by cases hi),hm γ,λM H2 F2 j O=>⟨by grind[Rep],?_⟩⟩⟩;cases x with
  |tup xs =>
   cases B;obtain⟨a,vs,rfl,k2,k3⟩:=J;refine⟨a,vs,rfl,j.sub.seqT (j.ext.seqT k2),λp E=>?_⟩;have g:=D.trans j;refine w _ _ (upd F2 p (.tup vs.reverse)) (g.trans (.laid j.sub E)) ?_;exact⟨p,_,rfl,.of Qk,(Qki k3).mono (j.ext.trans (Grow.laid j.sub E).ext)⟩
  |_=>cases B
end
section
variable{prog:aN}{w:bg}{A:bG}{E:Value->ap->Prop}{s:ap}
def Qbw{t J:Addr}{items:Array Value}{O U:Value}{lo hi:Option Int}{Q:Value->ap->Prop}(G:jR s.heap t items)(hs:s.heap.IsSliceOf J O U .none)(Y:gM O lo)(pu:gM U hi)(hw:sIx items.size 0 lo=0/\sIx items.size items.size hi=items.size)(h:Q (.ref t) s):av (model prog w) A (gC (.ref t) (.ref J)) Q E s:=by
 obtain⟨os,j,m,B⟩:=id hs;have T:s.TypeIs (.ref J) "slice":=⟨os,j,m⟩
 unfold gC
 try with_reducible refine bd ?_
 first | refine aa (af ?_) | skip
 refine aa (i5 G.typeIs (by decide) ?_);refine aa (cn (name:=lF "__getitem__") G.typeIs ba
  (bD ba G.typeIs jA ?_ (jV _ _)))
 show av _ _ (gs (.ref t) >>= _) _ _ s;refine aa (tupleItemsOf_ G ?_);refine aa (eT T ?_);rw[ak (by decide)];refine aa (XJ hs Y pu ?_);show av _ _ (if (((sIx items.size 0 lo:Nat):Int)==0&&(1:Int)==1&&(sIx items.size items.size hi-sIx items.size 0 lo)==items.size)=true then _ else _) _ _ s;rw[ak (by rw[hw.1,hw.2];simp)];unfold iJ.Tuple.tupleIsExact;refine aa (aa (eT G.typeIs (af ?_)));rw[ak (by decide)];exact aa (fg (af ⟨_,rfl,af h⟩))
end
def Qci:PV->Option Int->Option Int->Option PV
 |.tup xs,lo,hi=>some (.tup (cutP xs lo hi))
 |_,_,_=>none
section
variable{X:Cx}{e:Expr}{ms ns ls:List Nat}{m:MEx}{p2 pos:Pos}{lo hi:Option Expr}{ml mh:PEnv->Option (Option Int)}
def rSlT2(K:ac):V->Option Int->Option Int->Hp->VK->Prop:=λx lo hi H Q=>∃a xs,x = .ref a/\SqT K H a xs /\
 ((HT.sIx xs.length 0 lo=0/\HT.sIx xs.length xs.length hi=xs.length)->Q (.ref a) H)/\(¬(HT.sIx xs.length 0 lo=0/\HT.sIx xs.length xs.length hi=xs.length)->∀p,H p=none->Q (.ref p) (upd H p (.tup (cutV xs lo hi))))
def sl_tup2:SlR X (rSlT2 X.K):=by
 intro pins s σ H x v L M lo hi O Q I B hs D E h;obtain⟨a,xs,rfl,G,T,U⟩:=h;by_cases hw:HT.sIx xs.length 0 lo=0/\HT.sIx xs.length xs.length hi=xs.length
 .cases B;obtain⟨m,r,J,hz⟩:=I.tuple G;have j:m.toArray.size=xs.length:=by rw[aF];exact r.length.symm
  refine⟨"tuple",_,ba.lookup,J.typeIs,?_⟩;exact Qbw J hs D E (by rw[j];exact hw) ⟨.ref a,H,I,rfl,T hw⟩
 .exact sl_tup pins s σ H _ v L M lo hi O Q I B hs D E ⟨a,xs,rfl,G,hw,U hw⟩
def QkO(he:EM X ms e m)(O:OM X ns lo ml)(U:OM X ls hi mh):EM X (ms++(ns++ls)) (.Subscript e (.Slice lo hi none p2) pos) (sl3 Qci m ml mh):=by
 refine PE.imp (Qgf sl_tup2 he O U) λσ H Q ⟨F,γ,r,h1,h2,j,w⟩=>?_;obtain⟨x,e1,j⟩:=Qe j;obtain⟨l,e2,j⟩:=Qe j;obtain⟨h,e3,j⟩:=Qe j;refine⟨F,γ,x,h1,h2.left,e1,λY H1 M D I=>⟨M,γ,l,D.sub,h2.right.left.mono D.ext,e2,λH2 F2 E=>⟨F2,γ,h,E.sub,h2.right.right.mono (D.ext.trans E.ext),e3,λH3 J B=>?_⟩⟩⟩;have g:=D.trans (E.trans B);cases x with
 |tup xs =>
  cases j;have G:=I;obtain⟨a,vs,rfl,k2,k3⟩:=I;have gg:=E.ext.trans B.ext;refine⟨a,vs,rfl,B.sub.seqT (gg.seqT k2),λhw=>?_,λc p L=>?_⟩
  .refine w _ _ J g ?_;have T:cutP xs l h=xs:=by
    unfold cutP;rw[k3.length]at hw;grind
   rw[T];exact G.mono gg
  .refine w _ _ (upd J p (.tup (cutV vs l h))) (g.trans (.laid B.sub L)) ?_;refine⟨p,_,rfl,.of Qk,?_⟩;unfold cutV cutP;rw[k3.length];exact((k3.drop _).take _).mono (gg.trans (Grow.laid B.sub L).ext)
 |_=>cases j
end
end L2.PM
namespace L2.PM
open PySem PySem.Spec PyProof.Rows
def sExM(ms:List Nat)(i:Nat)(m:MEx):MSt:=λγ=>(m γ).bind λr=>match r with
 |.tup _=>sExt ms i m γ
 |_=>sExl ms i m γ
section
variable{X:Cx}{e:Expr}{ms:List Nat}{m:MEx}{pos p2:Pos}
def rExtM(K:ac):V->List V->Hp->VK->Prop:=λx xs H Q=>rExtT K x xs H Q\/rExtL K x xs H Q
def mt_exM:MtM X "list.extend" (rExtM X.K):=λpins s σ H x xs v us Q I j rs h=>h.elim (mt_extT pins s σ H x xs v us Q I j rs) (mt_exl pins s σ H x xs v us Q I j rs)
def sm_exM(U:PE X (.Name x p2) (tVar i))(h:EM X ms e m)(ps:PS X (.Expr (.Call (.Attribute (.Name x p2) "extend" apos) [e] [] cpos) pos) (QlV (tBM X.K "list" (rExtM X.K) (tVar i) (tMA X.K ms (Qa m aNil))))) :
  SM X (.Expr (.Call (.Attribute (.Name x p2) "extend" apos) [e] [] cpos) pos) (sExM ms i m):=PS.imp ps λD σ H ⟨B,F₀,F,γ,o,S,e,ok⟩=>by
 obtain⟨T,Y,e⟩:=Qe e;split at e
 .obtain⟨r,e1,e⟩:=Qe e;unfold extK at e;split at e
  .rename_i ys xs hi;obtain⟨⟨G,c⟩,rfl⟩:=Qt e;obtain⟨a,vs,h1,h2,_⟩:=S.ow i xs hi;obtain⟨I,S1,O,J⟩:=S.see ms;refine⟨.ref a,h1,Qbx (.of h2),I,γ,[.tup ys],S1.sub,J,by simp[Qa,aNil,e1],λus H' F' g q=>?_⟩;obtain⟨v,t,rfl,q,L⟩:=q;subst L;obtain⟨F2,S2,M⟩:=S.val S1 g q;have j:=Qaa (k:=flat (.tup ys)) hi (by rw[c];exact eG _);obtain⟨Q,E,k1,k2,k3,_⟩:=S2.ow i xs j;rw[h1]at k1;cases k1;obtain⟨b,ws,rfl,sb,rb⟩:=M;refine .inl ⟨a,b,E,ws,rfl,rfl,k2,S2.sub.seqT sb,?_,?_⟩
   .rw[k3.length,rb.length];exact bS (aG G QU)
   .exact ok _ _ F2 (S2.write j h1 (k3.append rb))
  .cases e
 .obtain⟨r,e1,e⟩:=Qe e;unfold exlK at e;split at e
  .rename_i ys xs hi;obtain⟨⟨G,c⟩,rfl⟩:=Qt e;obtain⟨a,vs,h1,h2,_⟩:=S.ow i xs hi;obtain⟨I,S1,O,J⟩:=S.see ms;refine⟨.ref a,h1,Qbx (.of h2),I,γ,[.lst ys],S1.sub,J,by simp[Qa,aNil,e1],λus H' F' g q=>?_⟩;obtain⟨v,t,rfl,q,L⟩:=q;subst L;obtain⟨F2,S2,M⟩:=S.val S1 g q;have j:=Qaa (k:=flat (.lst ys)) hi (by rw[c];exact eG _);obtain⟨Q,E,k1,k2,k3,_⟩:=S2.ow i xs j;rw[h1]at k1;cases k1;obtain⟨b,ws,rfl,sb,rb⟩:=M;refine .inr ⟨a,b,E,ws,rfl,rfl,k2,S2.sub.seq sb,?_,?_⟩
   .rw[k3.length,rb.length];exact bS (aG G QU)
   .exact ok _ _ F2 (S2.write j h1 (k3.append rb))
  .cases e
end
def QiU:List PV->Option (List PV)
 |[.str x]=>if x.length<LIM then some ((signs x).map .str) else none
 |_=>none
theorem Qel:∀xs us,xs.length=us.length->(∀(j:Nat) v,us[j]?=some v->∃y,xs[j]?=some y/\RelV y v)->Vals xs us
 |[],[],_,_=>.nil
 |x::xs,u::us,m,h=>by
  obtain⟨y,e,r⟩:=h 0 u rfl;cases e;exact .cons r (Qel xs us (by simpa using m) λj v e=>h (j+1) v (by simpa using e))
 |[],_::_,m,_=>by simp at m
 |_::_,[],m,_=>by simp at m
section
variable{X:Cx}
def co_listS(hc:X.calm=true):Qic X (.type "list") QiU:=by
 intro pins s σ H vs us Q I rs h;obtain⟨F,ps,r,h1,h2,D,w⟩:=h;unfold QiU at D;split at D
 .rename_i x;obtain⟨c,rfl⟩:=Qt D;unfold RepL at h2;obtain⟨v,t,rfl,h2,M⟩:=h2;unfold RepL at M;subst M;unfold Rep at h2;subst h2;obtain⟨u,rfl,O⟩:=YD rs;obtain⟨tk,rfl⟩:=O;have hz:x.cps.size<=ax:=bS (aG c QU);refine call_list_str (I.ok.hd hc) x tk (hn:=hz) λh' E m T U G B=>?_;have J:Vals ((signs x).map V.str) m.toList:=by
   refine Qel _ _ (by have:=B.1;simp[signs];omega) λj v J=>?_;obtain⟨Y,u1,L,rfl⟩:=B.2 j v (by simpa using J);exact⟨.str ⟨#[Y]⟩,by simp[signs,L],⟨_,rfl⟩⟩
  have hl:((signs x).map V.str).length<=ax:=by simpa[signs] using hz
  refine⟨.ref s.heap.objs.size,upd H s.heap.objs.size (.lst ((signs x).map V.str)),I.laid (t':=E) (λb o q=>U b o q) (am _) ⟨hl,m.toList,T,J,by simpa using G⟩,rfl,?_⟩;exact w _ _ _ F (.side h1 I.fresh) I.fresh (h1.free I.fresh) Qk (Yo _)
 .cases D
end
end L2.PM
namespace L2.PM
open PySem PySem.Spec PyProof.Rows PySem.W
section
variable{cmp:Nat->Nat->(Bool->ap->Prop)->ap->Prop}{lt:Nat->Nat->Bool}{n:Nat}{s:ap}
def Qcd(cmp:Nat->Nat->(Bool->ap->Prop)->ap->Prop)(lt:Nat->Nat->Bool)(n:Nat)(s:ap):Prop:=∀i j C,i<n->j<n->C (lt i j) s->cmp i j C s
def Qag(lt:Nat->Nat->Bool)(p:Array Nat)(k:Nat):Prop:=∀a b,a<=b->b<k->lt (p.getD b 0) (p.getD a 0)=false
def Within(p:Array Nat)(n:Nat):Prop:=∀a,a<p.size->p.getD a 0<n
theorem Qge(G:∀i j k,lt i j=false->lt j k=false->lt i k=false)(an:Qcd cmp lt n s)(U:k<p.size)(J:Within p n)(hs:Qag lt p k) :
  ∀f l r,r-l<=f->l<=r->r<=k->(∀a,a<l->lt (p.getD k 0) (p.getD a 0)=false)->(∀b,r<=b->b<k->lt (p.getD k 0) (p.getD b 0)=true) ->
   (∀O,O<=k->(∀a,a<O->lt (p.getD k 0) (p.getD a 0)=false)->(∀b,O<=b->b<k->lt (p.getD k 0) (p.getD b 0)=true)->Q O s)->(kas_place p k f l r).kasWp cmp Q s
 |0,l,r,hf,H,B,h1,h2,fin=>by
  obtain rfl:l=r:=by omega
  exact fin l B h1 h2
 |f+1,l,r,hf,H,B,h1,h2,fin=>by
  unfold kas_place;by_cases m:l>=r
  .rw[ak m];obtain rfl:l=r:=by omega
   exact fin l B h1 h2
  .rw[ar m];have D:l<=(l+r)/2:=by omega
   refine an _ _ _ (J k U) (J _ (by omega)) ?_;cases c:lt (p.getD k 0) (p.getD ((l+r)/2) 0) with
   |true =>
    refine(?_);refine Qge G an U J hs f l ((l+r)/2) (by omega) D (by omega) h1 (λb I E=>?_) fin;cases d:lt (p.getD k 0) (p.getD b 0) with
    |true=>rfl
    |false=>rw[G _ _ _ d (hs _ b I E)]at c;cases c
   |false =>
    refine(?_);refine Qge G an U J hs f ((l+r)/2+1) r (by omega) (by omega) B (λa L=>?_) h2 fin;exact G _ _ _ c (hs a _ (by omega) (by omega))
def Qbr(G:k<p.size)(J:l<=k) j:(bubble p k (k-l)).getD j 0=if j=l then p.getD k 0 else if l<j/\j<=k then p.getD (j-1) 0 else p.getD j 0:=by
 have e:k-(k-l)=l:=by omega
 have g:∀(q:Array Nat) i,q.getD i 0=(q[i]?).getD 0:=λq i=>by
  by_cases h:i<q.size
  .simp[ h]
  .simp[ h]
 rw[g,getElem?_bubble G (k-l) (by omega) j,e,g,g,g];by_cases h1:j=l
 .rw[ak h1,ak h1]
 .rw[ar h1,ar h1];by_cases h2:l<j/\j<=k
  .rw[ak h2,ak h2]
  .rw[ar h2,ar h2]
def Qoe(J:∀i,lt i i=false)(G:∀i j,lt i j=true->lt j i=false)(O:k<p.size)(U:l<=k)(hs:Qag lt p k)(h1:∀a,a<l->lt (p.getD k 0) (p.getD a 0)=false)(h2:∀b,l<=b->b<k->lt (p.getD k 0) (p.getD b 0)=true):Qag lt (bubble p k (k-l)) (k+1):=by
 intro a b m D;rw[Qbr O U,Qbr O U];by_cases e1:b=l
 .rw[ak e1];by_cases e2:a=l
  .rw[ak e2];exact J _
  .rw[ar e2,ar (by omega)];exact h1 a (by omega)
 .rw[ar e1];by_cases e2:a=l
  .rw[ak e2,ak (by omega)];exact G _ _ (h2 (b-1) (by omega) (by omega))
  .rw[ar e2];by_cases e3:l<b/\b<=k
   .rw[ak e3];by_cases B:l<a/\a<=k
    .rw[ak B];exact hs (a-1) (b-1) (by omega) (by omega)
    .rw[ar B];exact hs a (b-1) (by omega) (by omega)
   .rw[ar e3,ar (by omega)];exact hs a b m (by omega)
theorem bin_wp(J:∀i,lt i i=false)(G:∀i j,lt i j=true->lt j i=false)(O:∀i j k,lt i j=false->lt j k=false->lt i k=false)(an:Qcd cmp lt n s) :
  ∀f p k,k+f=p.size->Within p n->Qag lt p k->(∀U,U.Perm p->Qag lt U p.size->Q U s)->(kas_bin f p k).kasWp cmp Q s
 |0,p,k,hf,m,hs,fin=>fin p (.refl p) (by grind)
 |f+1,p,k,hf,m,hs,fin=>by
  have B:k<p.size:=by lia
  unfold kas_bin;rw[f7];refine Qge O an B m hs k 0 k (by lia) (bz _) (am _) (by grind) (by grind) λl D h1 h2=>?_;have sz:(bubble p k (k-l)).size=p.size:=bubble_size _ _ _;refine bin_wp J G O an f _ (k+1) (by grind) (λa E=>?_) (Qoe J G B D hs h1 h2) λU pp L=>fin U (pp.trans (bubble_perm _ _ _)) (by grind);rw[sz]at E;rw[Qbr B D];by_cases H:a=l
  .rw[ak H];exact m k B
  .rw[ar H];by_cases I:l<a/\a<=k
   .rw[ak I];exact m _ (by lia)
   .rw[ar I];exact m a E
theorem Qmy(G:∀i,lt i i=false)(J:∀i j k,lt i j=false->lt j k=false->lt i k=false)(an:Qcd cmp lt n s)(O:Within p n) :
  ∀f k,1<=k->k+f<=p.size->Qag lt p k->(∀m,k<=m->m<=k+f->Qag lt p m->(m<k+f->lt (p.getD m 0) (p.getD (m-1) 0)=true)->Q m s)->(kas_asc p f k).kasWp cmp Q s
 |0,k,h1,D,hs,fin=>fin k (am _) (am _) hs λh=>absurd h (bX _)
 |f+1,k,h1,D,hs,fin=>by
  refine an _ _ _ (O k (by omega)) (O _ (by omega)) ?_;cases c:lt (p.getD k 0) (p.getD (k-1) 0) with
  |true=>exact fin k (am _) (by omega) hs λ_=>c
  |false =>
   refine(?_);refine Qmy G J an O f (k+1) (by omega) (by omega) (λa b B I=>?_) λm h2 L E H=>fin m (by omega) (by omega) E λh=>H (by omega);by_cases e:b=k
   .subst e;by_cases e2:a=b
    .rw[e2];exact G _
    .exact J _ _ _ c (hs a (b-1) (by omega) (by omega))
   .exact hs a b B (by omega)
def Falls(lt:Nat->Nat->Bool)(p:Array Nat)(k:Nat):Prop:=∀a b,a<b->b<k->lt (p.getD b 0) (p.getD a 0)=true
theorem QnD(trans:∀i j k,lt i j=true->lt j k=true->lt i k=true)(an:Qcd cmp lt n s)(J:Within p n)(G:∀a b,a<b->b<p.size->lt (p.getD b 0) (p.getD a 0)=false->lt (p.getD a 0) (p.getD b 0)=true) :
  ∀f k,1<=k->k+f<=p.size->Falls lt p k->(∀m,k<=m->m<=k+f->Falls lt p m->Q (p,m,0) s)->(kas_desc f p k 0).kasWp cmp Q s
 |0,k,h1,D,hs,fin=>fin k (am _) (am _) hs
 |f+1,k,h1,D,hs,fin=>by
  refine an _ _ _ (J k (by omega)) (J _ (by omega)) ?_;cases c:lt (p.getD k 0) (p.getD (k-1) 0) with
  |true =>
   refine(?_);refine QnD trans an J G f (k+1) (by omega) (by omega) (λa b B H=>?_) λm h2 I E=>fin m (by omega) (by omega) E;by_cases e:b=k
   .subst e;by_cases e2:a=b-1
    .rw[e2];exact c
    .exact trans _ _ _ c (hs a (b-1) (by lia) (by omega))
   .exact hs a b B (by omega)
  |false =>
   refine(?_);refine an _ _ _ (J _ (by omega)) (J k (by omega)) ?_;rw[G (k-1) k (by lia) (by omega) c];exact fin k (am _) (by omega) hs
def Qgb(G:k<=p.size) j:(kG p 0 k).getD j 0=if j<k then p.getD (k-1-j) 0 else p.getD j 0:=by
 have g:∀(q:Array Nat) i,q.getD i 0=(q[i]?).getD 0:=λq i=>by
  by_cases h:i<q.size
  .simp[ h]
  .simp[ h]
 unfold kG;rw[g,getElem?_mirror_all G j,g,g];by_cases h:j<k
 .rw[ak ⟨bz _,h⟩,ak h,iD]
 .rw[ar (λz=>h z.2),ar h]
def Qod(J:∀i,lt i i=false)(G:∀i j,lt i j=true->lt j i=false)(O:k<=p.size)(h:Falls lt p k):Qag lt (kG p 0 k) k:=by
 intro a b m B;rw[Qgb O,Qgb O,ak B,ak (by omega)];by_cases e:a=b
 .rw[e];exact J _
 .exact G _ _ (h (k-1-b) (k-1-a) (by omega) (by omega))
def sort_wp(G:∀i,lt i i=false)(J:∀i j,lt i j=true->lt j i=false)(O:∀i j k,lt i j=false->lt j k=false->lt i k=false)(trans:∀i j k,lt i j=true->lt j k=true->lt i k=true)(U:∀i j,i<n->j<n->i≠j->lt i j=false->lt j i=true)(an:Qcd cmp lt n s)(h2:2<=n){Q:Array Nat->ap->Prop}(fin:∀p,p.Perm (az n).toArray->Qag lt p n->Q p s):(kas_sort n).kasWp cmp Q s:=by
 unfold kas_sort;have E:(az n).toArray.size=n:=by simp
 have hg:∀a,a<n->(az n).toArray.getD a 0=a:=λa L=>by simp[Array.getD,L]
 have I:Within (az n).toArray n:=λa L=>by rw[E]at L;rw[hg a L];exact L
 generalize (az n).toArray=p at *;have B:∀(m:Nat)(H:Array Nat),H.Perm p->1<=m->m<=n->Within H n->Qag lt H m->KasT.kasWp cmp (if m<n then kas_bin (n-max m 1) H (max m 1) else .ret H) Q s:=λm H pp h1 hm hw hr=>by
  have sz:H.size=n:=by rw[pp.size_eq];exact E
  by_cases M:m<n
  .rw[ak M,Nat.max_eq_left h1];exact bin_wp G J O an (n-m) H m (by omega) hw hr λp'' q1 q2=>fin p'' (q1.trans pp) (by rw[<-sz];exact q2)
  .rw[ar M];obtain rfl:m=n:=by omega
   exact fin H pp hr
 have D:∀a b,a<b->b<p.size->lt (p.getD b 0) (p.getD a 0)=false->lt (p.getD a 0) (p.getD b 0)=true:=λa b T Y e=>by
  rw[E]at Y;rw[hg a (by omega),hg b Y]at e |-;exact U b a Y (by omega) (by omega) e
 rw[f7];unfold kas_count;rw[f7];refine Qmy G O an I (n-1) 1 (am _) (by omega) (λa b T Y=>by rw[show a=b by omega];exact G _) λm m1 m2 m3 m4=>?_;by_cases e1:(m==n)=true
 .rw[ak e1];exact B m p (.refl p) m1 (by omega) I m3
 .rw[ar e1];by_cases e2:m>1
  .rw[ak e2];refine an _ _ _ (I 0 (by omega)) (I _ (by omega)) ?_;rw[D 0 (m-1) (by omega) (by omega) (m3 0 (m-1) (by omega) (by omega))];exact B m p (.refl p) m1 (by omega) I m3
  .rw[ar e2];obtain rfl:m=1:=by omega
   have c:=m4 (by omega);unfold kas_descPart;rw[f7];refine QnD trans an I D (n-(1+1)) (1+1) (by omega) (by omega) (λa b T Y=>?_) λk k1 k2 k3=>?_
   .obtain rfl:a=0:=by omega
    obtain rfl:b=1:=by omega
    exact c
   .refine(show KasT.kasWp cmp (kas_tail3 k n p) _ s from ?_);unfold kas_tail3;rw[f7];have rs:(kG p 0 k).size=n:=by unfold kG;rw[mirror_size];exact E
    have rw_:Within (kG p 0 k) n:=λa L=>by
     rw[rs]at L;rw[Qgb (by omega)];by_cases h:a<k
     .rw[ak h];exact I _ (by omega)
     .rw[ar h];exact I a (by omega)
    refine Qmy G O an rw_ (n-k) k (by omega) (by omega) (Qod G J (by omega) k3) λm' q1 q2 q3 q4=>?_;exact B m' _ (mirror_perm _ _ _ _) (by omega) (by omega) rw_ q3
end
abbrev Tri:=Str×Str×Str
def tri0:Tri:=("","","")
def sLt(a b:Str):Bool:=decide (a.cps.toList<b.cps.toList)
def QgA(h:Heap)(v:Value)(t:Tri):Prop:=∃a o n k1 k2 k3,v = .ref a/\h.get? a=some o/\o.cls = .type "tuple"/\o.data = .seq #[.str t.1 k1,.str t.2.1 k2,.str t.2.2 k3] n
def Tris(h:Heap)(vs:List Value)(ts:List Tri):Prop:=vs.length=ts.length/\∀i,i<ts.length->QgA h (vs.getD i .none) (ts.getD i tri0)
def ltT(ts:List Tri)(i j:Nat):Bool:=sLt (ts.getD i tri0).2.1 (ts.getD j tri0).2.1
def Tris.tl(x:Tris h (v::vs) (t::ts)):QgA h v t/\Tris h vs ts :=
 ⟨x.2 0 (by simp),by have:=x.1;simpa using this,λi hi=>x.2 (i+1) (by simpa using hi)⟩
section
variable{prog:aN}{w:bg}{A:bG}{E:Value->ap->Prop}{s:ap}
def tri_lt{v u:Value}{x y:Tri}{C:Bool->ap->Prop}(G:QgA s.heap v x)(J:QgA s.heap u y)(e1:x.1=y.1)(e2:x.2.1=y.2.1->x=y)(h:C (sLt x.2.1 y.2.1) s) :
  av (model prog w) A (keyLt' (tuples' true) v u) C E s:=by
 obtain⟨a,o,n,k1,k2,k3,rfl,j,_,hd⟩:=G;obtain⟨b,p,m,H,I,L,rfl,B,_,he⟩:=J;refine kat_lt j hd B he ?_;refine kat_cons (gP ?_);rw[aE e1];refine kat_yes (kat_cons (gP ?_));by_cases c:x.2.1=y.2.1
 .rw[aE c];have e3:=e2 c;refine kat_yes (kat_cons (gP ?_));rw[aE (show x.2.2=y.2.2 by rw[e3])];refine kat_yes (kat_nil ?_);have D:sLt x.2.1 y.2.1=false:=by rw[c];exact aH (jg _)
  rw[D]at h;exact h
 .rw[aH c];exact kat_no (kat_one _ _ (PyProof.Rows.lt_str h))
theorem Qem:∀{vs:List Value}{ts:List Tri},Tris h vs ts->∃fs,KatTups h vs fs/\fs.length=vs.length/\∀v∈fs,∃x t,v = .str x t
 |[],[],_=>⟨[],.nil,rfl,λ_ h=>nomatch h⟩
 |[],_::_,x=>by have:=x.1;simp at this
 |_::_,[],x=>by have:=x.1;simp at this
 |v::vs,t::ts,x=>by
  obtain⟨⟨a,o,n,k1,k2,k3,rfl,m,hc,hd⟩,y⟩:=x.tl;obtain⟨fs,h1,h2,B⟩:=Qem y;refine⟨.str t.1 k1::fs,KatTups.cons m hc hd rfl h1,by simp[h2],λv j=>?_⟩;rcases ao.mp j with rfl | j
  .exact⟨_,_,rfl⟩
  .exact B v j
def Qjj(G:Tris s.heap vs ts)(J:∀t∈ts,t.1=k)(hn:(ts.map (·.2.1)).Nodup):Qcd (kas_ask prog w A (tuples' true) vs) (ltT ts) vs.length s:=by
 intro i j C hi m h;rw[G.1]at hi m;have B:ts.getD i tri0=ts[i]:=by simp[ hi]
 have D:ts.getD j tri0=ts[j]:=by simp[ m]
 refine tri_lt (G.2 i hi) (G.2 j m) ?_ (λe=>?_) h
 .rw[B,D,J _ (bZ hi),J _ (bZ m)]
 .rw[B,D]at e |-;have :=by
   have q:=(jf.mp hn)
   by_cases c:i=j
   .exact c
   .exfalso;rw[cZ]at q;rcases lf c with c | c
    .exact q i j (by simpa using hi) (by simpa using m) c (by simpa using e)
    .exact q j i (by simpa using m) (by simpa using hi) c (by simpa using e.symm)
  subst this;rfl
def ltT_laws ts:(∀i,ltT ts i i=false)/\(∀i j,ltT ts i j=true->ltT ts j i=false)/\(∀i j k,ltT ts i j=false->ltT ts j k=false->ltT ts i k=false)/\(∀i j k,ltT ts i j=true->ltT ts j k=true->ltT ts i k=true):=by
 unfold ltT sLt;refine⟨λi=>aH (jg _),λi j h=>?_,λi j k h1 h2=>?_,λi j k h1 h2=>?_⟩
 .rw[c9]at h;exact aH λh'=>jg _ (List.lt_trans h h')
 .rw[decide_eq_false_iff_not]at *;exact List.le_trans h2 h1
 .rw[c9]at *;exact List.lt_trans h1 h2
def Qii{a:Addr}{vs:List Value}{ts:List Tri}{k:Str}{n:Nat}{P:PySem.Fin->ap->Prop}(ho:s.heap.get? a=some (cF "list" vs.toArray n))(hT:∀h' ,(∀b o,b≠a->s.heap.get? b=some o->h'.get? b=some o)->Tris h' vs ts)(hk:∀t∈ts,t.1=k)(hn:(ts.map (·.2.1)).Nodup)(O:vs.length<64)(h:∀p ,p.Perm (az vs.length).toArray->Qag (ltT ts) p vs.length->P (.done (.ret .none)) { s with heap:=sortedHeap s.heap a vs (p.toList.map λi=>vs.getD i cm).toArray }) :
  av (model prog w) A (iJ.«list.sort» ⟨[.ref a],[]⟩) P E s:=by
 rw[list_sort_plain];refine aa (listItems_at ho rfl ?_);refine aa (jI ho rfl ?_);obtain⟨e1,H⟩:∃e1,(s.heap.update a (bK λ_ => #[])).get? a=some (cF "list" #[] e1):=⟨_,get?_update_seq ho (λ_ => #[])⟩
 refine aa (seqEpoch_at H rfl ?_);refine aa (wpAny_newTuple ?_);refine aa (gJ ?_);refine bd ?_;have B:(((s.heap.update a (bK λ_ => #[])).push (cF "tuple" vs.toArray 0)).push (cF "list" #[] 0)).get? a=some (cF "list" #[] e1):=ag _ (ag _ H);have U:=hT (((s.heap.update a (bK λ_ => #[])).push (cF "tuple" vs.toArray 0)).push (cF "list" #[] 0)) λb o hb q=>ag _ (ag _ (by rw[Heap.get?_update_ne _ _ _ _ hb];exact q));dsimp only;have I:vs.toArray.size=vs.length:=by simp
 have fin:∀(m:SortSt)(p:Array Nat),p.Perm (az vs.length).toArray->Qag (ltT ts) p vs.length->arrOf m=p.map (kas_item (vs.toArray.zip vs.toArray)) ->
   P (.done (.ret .none)) { s with heap:=sortedHeap s.heap a vs ((arrOf m).map (·.2)) }:=λm p h1 h2 h3=>by
  rw[kat_snds rfl h3];exact h p h1 h2
 obtain⟨l1,l2,l3,l4⟩:=ltT_laws ts;by_cases h2:vs.toArray.size<2
 .rw[ak h2,ak h2];refine aa (af ?_);rw[StateT.run_pure];refine aa (af ?_);dsimp only;refine aa (seqEpoch_at B rfl ?_);refine aa (jI B rfl ?_ (hsz2:=by rw[dU];show(pairsOf vs).size<=_;rw[pairsOf_size,eL];omega));simp only[fM,cD,gQ];refine af (fin (SortSt.mk' general' (vs.toArray.zip vs.toArray) #[] 7 none) (az vs.length).toArray (Array.Perm.refl _) (λi j J L=>?_) ?_)
  .rw[I]at h2;have:i=j:=by omega
   subst this;exact l1 _
  .have e:=kas_range (vs.toArray.zip vs.toArray);rw[show(vs.toArray.zip vs.toArray).size=vs.length by simp]at e;exact e.symm
 .rw[ar h2,ar h2];rw[I]at h2;obtain⟨fs,f1,f2,f3⟩:=Qem U;refine aa (kat_kind (T:=Value.type "str") f1 (by omega) (λv hv=>?_) rfl ?_)
  .obtain⟨x,t,rfl⟩:=f3 v hv;exact Looks.now
  .rw[show(Value.type "str" != Value.type "tuple")=true from rfl];refine aa (b8 (kat_run (κ:=tuples' true) (vs:=vs) (ks:=vs) (Q:=λm s'=>s'={ s with heap:=((s.heap.update a (bK λ_ => #[])).push (cF "tuple" vs.toArray 0)).push (cF "list" #[] 0) }/\failedOf m=none/\∃p:Array Nat,p.Perm (az vs.length).toArray/\Qag (ltT ts) p vs.length/\arrOf m=p.map (kas_item (vs.toArray.zip vs.toArray)))
    (G:=λp s'=>s'={ s with heap:=((s.heap.update a (bK λ_ => #[])).push (cF "tuple" vs.toArray 0)).push (cF "list" #[] 0) }/\p.Perm (az vs.length).toArray/\Qag (ltT ts) p vs.length)
    rfl (by omega) O (λp m s' _ a2 a3 Y=>⟨Y.1,a3,p,Y.2.1,Y.2.2,a2⟩) ?_) ?_ λ_ _ e=>e)
   .refine sort_wp l1 l2 l3 l4 (λi j hi L J D=>?_) (Qjj U hk hn) (by omega) λp M q2=>⟨rfl,M,q2⟩
    rw[U.1]at hi L;have gi:ts.getD i tri0=ts[i]:=by simp[jF,hi]
    have gj:ts.getD j tri0=ts[j]:=by simp[jF,L]
    have ne:ts[i].2.1≠ts[j].2.1:=λe=>by
     have q:=cZ.mp (jf.mp hn);rcases lf J with c | c
     .exact q i j (by simpa using hi) (by simpa using L) c (by simpa using e)
     .exact q j i (by simpa using L) (by simpa using hi) c (by simpa using e.symm)
    unfold ltT sLt at D |-;rw[gi,gj]at D;rw[gi,gj];rw[decide_eq_false_iff_not]at D;rw[c9];apply c0;intro c;have e:(ts[i].2.1).cps.toList=(ts[j].2.1).cps.toList:=List.le_antisymm (α:=Nat) c D;apply ne;generalize ts[i].2.1=x at *;generalize ts[j].2.1=y at *;obtain⟨x⟩:=x;obtain⟨y⟩:=y;have e':x=y:=by simpa using e
    rw[e']
   .rintro⟨⟨⟩,m⟩ s' ⟨rfl,hf,p,M,q2,q3⟩;dsimp only;have ps:p.size=vs.length:=by rw[M.size_eq];simp
    refine aa (seqEpoch_at B rfl ?_);refine aa (jI B rfl ?_ (hsz2:=by rw[dU,q3,dU,ps,eL];omega));rw[hf];simp only[fM,cD,gQ];exact af (fin m p M q2 q3)
def QgA.mono(x:QgA h v t)(k:∀b o,h.get? b=some o->o.cls = .type "tuple"->h'.get? b=some o):QgA h' v t:=by
 obtain⟨a,o,n,k1,k2,k3,e,j,hc,hd⟩:=x;exact⟨a,o,n,k1,k2,k3,e,k a o j hc,hc,hd⟩
def QnV{l:Addr}{vs:List Value}{ts:List Tri}{k:Str}{Q:Value->ap->Prop}(O:s.heap.IsList l vs.toArray)(J:Tris s.heap vs ts)(U:∀t∈ts,t.1=k)(hn:(ts.map (·.2.1)).Nodup)(G:vs.length<64)(h:∀p ,p.Perm (az vs.length).toArray->Qag (ltT ts) p vs.length->Q (.ref (s.heap.objs.size+1)) { s with heap:=sortedAll s.heap vs (p.toList.map λi=>vs.getD i cm).toArray }) :
  av (model prog w) A (call (.builtin "sorted") [.ref l]) Q E s:=by
 refine gy kind_sorted plain_sorted entry_sorted (args_sorted1 _) ?_;refine aa (af ?_);refine aa (collect_list O ?_);refine aa (gJ ?_);have j:((s.heap.push (cF "list" #[] 0)).update s.heap.objs.size (bK (·++vs.toArray))).objs.size=s.heap.objs.size+1:=by
  rw[Heap.size_update,size_push']
 have L:(((s.heap.push (cF "list" #[] 0)).update s.heap.objs.size (bK (·++vs.toArray))).push (cF "list" vs.toArray 0)).get? (s.heap.objs.size+1)=some (cF "list" vs.toArray 0):=by
  rw[<-j];exact aB _ rfl
 have keep:∀b o,s.heap.get? b=some o->(((s.heap.push (cF "list" #[] 0)).update s.heap.objs.size (bK (·++vs.toArray))).push (cF "list" vs.toArray 0)).get? b=some o:=λb o q=>by
  have m:b<s.heap.objs.size:=ay q;exact ag _ (by rw[Heap.get?_update_ne _ _ _ _ (aC m)];exact ag _ q)
 rw[j];refine aa (bd (bD slot_list_sort ⟨_,L,rfl⟩ lT (Qii L (λh' k=>⟨J.1,λi hi=>?_⟩) U hn G λp B D=>⟨_,rfl,?_⟩) (args_list_sort _)))
 .refine(J.2 i hi).mono λb o q _=>k b o (aC (bC (ay q))) (keep b o q)
 .exact af ⟨_,rfl,h p B D⟩
end
def triV(t:Tri):PV := .tup [.str t.1,.str t.2.1,.str t.2.2]
def tri?:PV->Option Tri
 |.tup [.str a,.str b,.str c]=>some (a,b,c)
 |_=>none
def QlU:List PV->Option (List Tri)
 |[]=>some []
 |x::xs=>(tri? x).bind λt=>(QlU xs).bind λts=>some (t::ts)
def tri?_get(h:tri? x=some t):x=triV t:=by
 unfold tri? at h;split at h
 .cases h;rfl
 .cases h
theorem Qhe:∀{xs:List PV}{ts:List Tri},QlU xs=some ts->xs=ts.map triV
 |[],_,h=>by cases h;rfl
 |x::xs,ts,h=>by
  obtain⟨t,h1,h⟩:=Qe h;obtain⟨j,h2,h⟩:=Qe h;cases h;rw[aL,tri?_get h1,Qhe h2]
theorem Qhd:∀ts,QlU (ts.map triV)=some ts
 |[]=>rfl
 |t::ts=>by
  show(tri? (triV t)).bind _=_;rw[show tri? (triV t)=some t from rfl,Qhd ts];rfl
def tLe(a b:Tri):Bool:=sLe a.2.1 b.2.1
def QdP(ts:List Tri):List Tri:=ts.mergeSort tLe
def QaD ts:(QdP ts).Perm ts:=hV _ _
def tsort_le ts:(QdP ts).Pairwise (λa b=>tLe a b=true):=gl (λa b c h1 h2=>QdX a.2.1 b.2.1 c.2.1 h1 h2) (λa b=>Qhl a.2.1 b.2.1) ts
abbrev triOk(ts:List Tri):Prop:=(∀t∈ts,t.1=(ts.getD 0 tri0).1)/\(ts.map (·.2.1)).Nodup
def nodup_at{ts:List Tri}(hn:(ts.map (·.2.1)).Nodup)(G:a∈ts)(J:b∈ts)(e:a.2.1=b.2.1):a=b:=by
 induction ts with
 |nil=>cases G
 |cons t ts j =>
  rw[aL,bO]at hn;rcases ao.mp G with h1 | h1<;>rcases ao.mp J with h2 | h2
  .rw[h1,h2]
  .subst h1;exact absurd (bw.mpr ⟨b,h2,e.symm⟩) hn.1
  .subst h2;exact absurd (bw.mpr ⟨a,h1,e⟩) hn.1
  .exact j hn.2 h1 h2
def tsort_eq(hn:(ts.map (·.2.1)).Nodup)(G:us.Perm ts)(hs:us.Pairwise (λa b=>tLe a b=true)):us=QdP ts :=
 fZ (λx y j m h1 h2=>nodup_at hn (G.mem_iff.mp j) ((QaD ts).mem_iff.mp m) (QfY h1 h2)) hs (tsort_le ts) (G.trans (QaD ts).symm)
def QfL:List PV->Option (List PV)
 | [.lst xs]=>match QlU xs with
  |some ts=>if ts.length<64 then (if triOk ts then some ((QdP ts).map triV) else none) else none
  |none=>none
 |_=>none
section
variable{X:Cx}
def tri_rep(I:Inv X pins σ H s)(hs:Same F H)(r:Rep X.K F (triV t) v)(q:RelV v u):QgA s.heap u t:=by
 obtain⟨a,vs,rfl,k2,k3⟩:=r;cases q;have e3 :=Xj (ns:=[t.1,t.2.1,t.2.2]) k3;subst e3;obtain⟨m,j,⟨o,B,D,n,E⟩,_⟩:=I.tuple (hs.seqT k2);cases j with
 | cons G j=>cases j with
  | cons J j=>cases j with
   |cons L j =>
    cases j;obtain⟨t1,rfl⟩:=G;obtain⟨t2,rfl⟩:=J;obtain⟨M,rfl⟩:=L;exact⟨a,o,n,t1,t2,M,rfl,B,D,by rw[E]⟩
theorem QjZ(I:Inv X pins σ H s)(hs:Same F H):∀{ts:List Tri}{vs:List V}{us:List Value},RepL X.K F (ts.map triV) vs->Vals vs us->Tris s.heap us ts
 |[],vs,us,r,q=>by
  subst r;cases q;exact⟨rfl,λi hi=>by simp at hi⟩
 |t::ts,vs,us,r,q=>by
  obtain⟨v,G,rfl,m,B⟩:=r;cases q with
  |cons D E =>
   have j:=QjZ I hs B E;refine⟨by simp[j.1],λi hi=>?_⟩;cases i with
   |zero=>exact tri_rep I hs m D
   |succ i=>exact j.2 i (by simpa using hi)
theorem QmO{K:ac}:∀{ts:List Tri}{vs:List V},RepL K F (ts.map triV) vs->vs.length=ts.length/\∀i,i<ts.length->Rep K F (triV (ts.getD i tri0)) (vs.getD i .non)
 |[],vs,r=>by
  subst r;exact⟨rfl,λi hi=>by simp at hi⟩
 |t::ts,vs,r=>by
  obtain⟨v,D,rfl,m,B⟩:=r;have j:=QmO B;refine⟨by simp[j.1],λi hi=>?_⟩;cases i with
  |zero=>exact m
  |succ i=>exact j.2 i (by simpa using hi)
theorem Qhm{K:ac}{ts:List Tri}{vs:List V}(r:∀i,i<ts.length->Rep K F (triV (ts.getD i tri0)) (vs.getD i .non)):∀{p:List Nat},(∀i∈p,i<ts.length)->RepL K F ((p.map λi=>ts.getD i tri0).map triV) (p.map λi=>vs.getD i .non)
 |[],_=>by grind[RepL]
 |i::p,h=>by
  exact⟨_,_,rfl,r i (h i bp),Qhm r λj m=>h j (aw _ m)⟩
theorem Qhc(r:Vals vs us):∀{p:List Nat},(∀i∈p,i<us.length)->Vals (p.map λi=>vs.getD i .non) (p.map λi=>us.getD i .none)
 |[],_=>.nil
 |i::p,h=>by
  refine .cons ?_ (Qhc r λj m=>h j (aw _ m));have hi:=h i bp;clear h;induction r generalizing i with
  |nil=>simp at hi
  | cons q r B=>cases i with
   |zero=>exact q
   |succ i=>exact B i (by simpa using hi)
def QjQ:Qic X (.builtin "sorted") QfL:=by
 intro pins s σ H vs us Q I rs h;obtain⟨F,ps,r,h1,h2,m,w⟩:=h;unfold QfL at m;split at m
 .obtain⟨v,t,rfl,h2,Y⟩:=h2;subst Y;obtain⟨a,ws,rfl,k2,k3⟩:=h2;obtain⟨u,rfl,ru⟩:=YD rs;cases ru;obtain⟨B,L,pl,_⟩:=I.list (h1.seq k2);split at m
  .rename_i ts D;obtain⟨c,m⟩:=Yx m;obtain⟨E,m⟩:=Yx m;cases m;have e2:=Qhe D;subst e2;have T:=QjZ I h1 k3 L;have R:=QmO k3;refine QnV pl.isList T E.1 E.2 (by rw[T.1];exact c) λp G M=>?_;rw[T.1]at G M;have pp :=by
    have:=Array.perm_iff_toList_perm.mp G;simpa using this
   have O:∀i∈p.toList,i<ts.length:=λi hi=>dC.mp (pp.mem_iff.mp hi);have ps:p.size=ts.length:=by rw[G.size_eq];simp
   have eo:(p.toList.map λi=>ts.getD i tri0)=QdP ts:=by
    refine tsort_eq E.2 ?_ ?_
    .have e:=pp.map λi=>ts.getD i tri0;have e':(az ts.length).map (λi=>ts.getD i tri0)=ts:=by
      apply lO
      .simp
      .intro i h1 h2;simp[ h2]
     rw[e']at e;exact e
    .rw[lx,cZ];intro i j hi U J;have q:=M i j (bS J) (by rw[<-ps];simpa using U);have gi:p.getD i 0=p.toList[i]:=by
      have :=by simpa using hi
      simp[ this]
     have gj:p.getD j 0=p.toList[j]:=by
      have :=by simpa using U
      simp[ this]
     rw[gi,gj]at q;unfold tLe sLe;unfold ltT sLt at q;rw[q];rfl
   obtain⟨k,he⟩:=sortedAll_at s.heap B (p.toList.map λi=>B.getD i cm).toArray;have hn :=I.hok.fresh (cf _);refine⟨.ref (s.heap.objs.size+1),upd H (s.heap.objs.size+1) (.lst (p.toList.map λi=>ws.getD i .non)),I.laid (λb o q=>sortedAll_old q) (cf _) ⟨?_,(p.toList.map λi=>B.getD i cm),k,Qhc L (λi hi=>by rw[T.1];exact O i hi),?_⟩,rfl,?_⟩
   .rw[aj,bf,ps];exact bS (ew c (by decide))
   .simpa[cF] using he
   .refine w _ (p.toList.map λi=>ws.getD i .non) _ F (.side h1 hn) hn (h1.free hn) Qk ?_;rw[<-eo];exact Qhm R.2 O
  .cases m
 .cases m
end
section
variable{prog:aN}{w:bg}{A:bG}{E:Value->ap->Prop}{s:ap}
def Qim(G:s.heap.get? l=some o)(hc:o.cls = .type "tuple")(hd:o.data = .seq vs.toArray n)(hz:vs.length<64)(h:Q vs { s with heap:=(s.heap.push (cF "list" #[] 0)).update s.heap.objs.size (bK (·++vs.toArray)) }):av (model prog w) A (collect (.ref l)) Q E s:=by
 refine aa (iA (cI entry_proto_collect' ?_));refine aa (gJ (af ⟨dQ _ (by decide+kernel),cI entry_list_iadd' ?_⟩));show av _ _ (f8 (.ref s.heap.objs.size) (.ref l) (.ref s.heap.objs.size)) _ _ { s with heap:=s.heap.push (cF "list" #[] 0) };have q:(s.heap.push (cF "list" #[] 0)).get? l=some o:=ag _ G;have z:(s.heap.push (cF "list" #[] 0)).get? s.heap.objs.size=some (cF "list" #[] 0):=aB _ rfl;refine aa (eT ⟨o,q,hc⟩ ?_);rw[ak (by simp)];refine aa (listItems_at q hd (aa (listItems_at z rfl ?_)));refine aa (jI z rfl (af ?_) (bz _) (by simp;rw[eL];omega));refine aa (wpAny_load (get?_update_seq z _) ?_);exact af (by simpa using h)
def Qjn(Y:s.heap.get? l=some o)(hc:o.cls = .type "tuple")(hd:o.data = .seq vs.toArray n)(U:jr vs ss)(J:vs.length<64)(h:∀O G,jr O.toList G->G.Perm ss->sortedS G=true->Q (.ref (s.heap.objs.size+1)) { s with heap:=sortedAll s.heap vs O }) :
  av (model prog w) A (call (.builtin "sorted") [.ref l]) Q E s:=by
 refine gy kind_sorted plain_sorted entry_sorted (args_sorted1 _) ?_;refine aa (af (aa (Qim Y hc hd J (aa (gJ ?_)))));have j:((s.heap.push (cF "list" #[] 0)).update s.heap.objs.size (bK (·++vs.toArray))).objs.size=s.heap.objs.size+1:=by rw[Heap.size_update,size_push']
 have L:(((s.heap.push (cF "list" #[] 0)).update s.heap.objs.size (bK (·++vs.toArray))).push (cF "list" vs.toArray 0)).get? (s.heap.objs.size+1)=some (cF "list" vs.toArray 0):=by
  rw[<-j];exact aB _ rfl
 rw[j];refine aa (bd (bD slot_list_sort ⟨_,L,rfl⟩ lT (list_sort_treeK strKind_oneLt L U.keysOf (λm B rest e=>keyKind_strs (by rw[<-e];exact U)) J λD H I=>⟨_,rfl,af ⟨_,rfl,?_⟩⟩) (args_list_sort _)));obtain⟨G,M,T,b3⟩:=sorted_out_str U H I;exact h _ G M T b3
end
def QeU:List PV->Option (List PV)
 | [.tup xs]=>match ZI xs with
  |some j=>if j.length<64 then some ((Ze j).map .str) else none
  |none=>none
 |ps=>Qgx ps
section
variable{X:Cx}
def Qcs:Qic X (.builtin "sorted") QeU:=by
 intro pins s σ H vs us Q I rs h;obtain⟨F,ps,r,h1,h2,m,w⟩:=h;unfold QeU at m;split at m
 .obtain⟨v,t,rfl,h2,L⟩:=h2;subst L;obtain⟨a,ws,rfl,k2,k3⟩:=h2;obtain⟨u,rfl,M⟩:=YD rs;cases M;obtain⟨D,G,⟨o,O,T,n,U⟩,_⟩:=I.tuple (h1.seqT k2);split at m
  .rename_i ss E;obtain⟨c,rfl⟩:=Qt m;have e2:=XY E;subst e2;have e3:=Xj k3;subst e3;have Y:=G.length;rw[aj]at Y;refine Qjn O T U (YK G) (by omega) λB j a1 J a3=>?_;have e4:=Qdh J (YR _ a3);obtain⟨k,he⟩:=sortedAll_at s.heap D B;have hn :=I.hok.fresh (cf _);refine⟨.ref (s.heap.objs.size+1),upd H (s.heap.objs.size+1) (.lst (j.map V.str)),I.laid (λb o q=>sortedAll_old q) (cf _) ⟨?_,B.toList,k,QbD a1,?_⟩,rfl,?_⟩
   .rw[aj,J.length_eq];exact bS (ew c (by decide))
   .simpa[cF] using he
   .rw[<-e4]at w;exact w _ (j.map V.str) _ F (.side h1 hn) hn (h1.free hn) Qk (Yo j)
  .cases m
 .exact Qek pins s σ H vs us Q I rs ⟨F,_,r,h1,h2,m,w⟩
end
end L2.PM
namespace L2.PM
open PySem PySem.Spec PyProof.Rows
def QgR:PV->PV->Option PV
 |.tup a,.tup b=>if a.length+b.length<=LIM then some (.tup (a++b)) else none
 |_,_=>none
section
variable{X:Cx}
def op_cat0:OpR X (bV .Add) (λx y H Q=>∃a b ys,x = .ref a/\y = .ref b/\SqT X.K H a []/\SqT X.K H b ys/\Q (.ref b) H):=by
 intro pins s σ H x y v u Q I L M h;obtain⟨a,b,ys,rfl,rfl,O,T,q⟩:=h;cases L;cases M;obtain⟨U,Y,p1,_⟩:=I.tuple O;obtain⟨j,r2,p2,_⟩:=I.tuple T;cases Y;obtain⟨⟨cls,dd,data,sl⟩,ho,hc,n,hd⟩:=p1;obtain⟨⟨J,B,data2,D⟩,m,E,n2,G⟩:=p2;subst hc hd E G;exact i9 ⟨_,ho,rfl⟩ ⟨_,m,rfl⟩ jq kW gv gk (fV _ _)
  (tuple_addW0 a b [].toArray j.toArray n n2 dd B sl D rfl) ⟨ho,m,⟨.ref b,H,I,rfl,q⟩⟩
def om_catT2:OpM X (bV .Add) QgR:=by
 intro pins s σ H x y v u Q I E G h;obtain⟨F,p,q,r,h1,h2,m,j,w⟩:=h;cases p<;>cases q<;>first
  | (exfalso;cases j;done)
  |skip
 rename_i xs ys;have j:(if xs.length+ys.length<=LIM then some (PV.tup (xs++ys)) else none)=some r:=j;obtain⟨c,rfl⟩:=Qt j;have B:=h2;have D:=m;unfold Rep at h2 m;obtain⟨a,vs,rfl,sa,J⟩:=h2;obtain⟨b,us,rfl,sb,rb⟩:=m;have L:=J.length;have M:=rb.length;by_cases n1:vs=[]
 .subst n1;obtain rfl:xs=[]:=dD.mp (by simpa using L.symm);exact op_cat0 pins s σ H _ _ v u Q I E G ⟨a,b,us,rfl,rfl,h1.seqT sa,h1.seqT sb,w.here h1 D⟩
 .refine op_catT pins s σ H _ _ v u Q I E G ⟨a,b,vs,us,rfl,rfl,h1.seqT sa,h1.seqT sb,n1,by rw[L,M];exact aS c QU,λe=>?_,λ_ p O=>?_⟩
  .subst e;obtain rfl:ys=[]:=dD.mp (by simpa using M.symm);rw[bQ]at w;exact w.here h1 B
  .refine w _ _ _ (.laid h1 O) ?_;unfold Rep;exact⟨p,_,rfl,.of Qk,(J.append rb).mono (Grow.laid h1 O).ext⟩
end
section
variable{X:Cx}{e k:Expr}{ms ns:List Nat}{m mk:MEx}{p2 pos:Pos}
def Qgm(G:EM X ns k mk)(he:EM X ms e m)(h1:ai [k,e] X.env=(false,eval k X.env)::ai [e] X.env:=by rfl)(h2:ai [e] X.env=(false,eval e X.env)::ai [] X.env:=by rfl) :
  PA X [k,e] (QlW (tM X.K ns mk) (QlW (tM X.K ms m) tNil)):=ZF G (ZF he Qbf h2) h1
def Qiv(hx:PE X (.Name x p2) (tVar i))(ps:PS X (.Expr (.Call (.Attribute (.Name x p2) "insert" apos) [k,e] [] cpos) pos) (QlV (tBM X.K "list" QmS (tVar i) (QlW (tM X.K ns mk) (QlW (tM X.K ms m) tNil))))) :
  SM X (.Expr (.Call (.Attribute (.Name x p2) "insert" apos) [k,e] [] cpos) pos) (sIns ms i mk m):=PS.imp ps λD σ H ⟨B,F₀,F,γ,o,S,e,ok⟩=>by
 unfold sIns at e;split at e
 .rename_i xs hi;obtain⟨Q,T,U⟩:=Qe e;obtain⟨r,e1,e2⟩:=Qe U;cases Q with
  |int j =>
   have e3 :=e2;obtain⟨⟨Y,c1,c2,c⟩,rfl⟩:=Qt e3;obtain⟨a,vs,h1,h2,_⟩:=S.ow i xs hi;obtain⟨F1,S1,x1,er⟩:=S.see ns;refine⟨.ref a,h1,Qbx (.of h2),F1,γ,.int j,S1.sub,er,T,λv0 H' F' g L=>?_⟩;obtain⟨F2,S2,q2⟩:=S.val S1 g L;subst L;obtain⟨F3,M,x3,G⟩:=S2.see ms;refine⟨F3,γ,r,M.sub,G,e1,λv H2 F4 g2 q=>?_⟩;obtain⟨F5,O,q5⟩:=S2.val M g2 q;have E:=Qaa hi c;obtain⟨a2,I,k1,k2,k3,_⟩:=O.ow i xs E;rw[h1]at k1;cases k1;have J :=k3.length;refine⟨a,I,v,j,rfl,rfl,k2,Y,by grind,?_,by grind,?_⟩
   .rw[J];exact iq c2 (by decide)
   .exact ok _ _ F5 (O.write E h1 ((k3.take _).append (.cons q5 (k3.drop _))))
  |_=>cases e2
 .cases e
end
end L2.PM
namespace L2
open PySem PySem.Spec PyProof.Rows
section
variable{κ:Type}[DecidableEq κ]
def valV(kvs:List (κ×V))(k : κ):Option V:=(kvs.find? λkv=>decide (kv.1=k)).map (·.2)
def putK(kvs:List (κ×V))(k : κ)(v:V):List (κ×V) :=
 if (kvs.any λkv=>decide (kv.1=k))=true then kvs.map (λkv=>if kv.1=k then (kv.1,v) else kv) else kvs++[(k,v)]
def QfR{k : κ}(e:p.1=k):valV (p::r) k=some p.2:=by grind[valV]
def QfS{k : κ}(e:¬p.1=k):valV (p::r) k=valV r k:=by grind[valV]
theorem QjY k:∀kvs:List (κ×V),(kvs.any λkv=>decide (kv.1=k))=(valV kvs k).isSome
 |[]=>rfl
 |p::r=>by
  rw[fX];by_cases e:p.1=k
  .simp only[QfR e,aE e,Bool.true_or,Option.isSome_some]
  .rw[QfS e,aH e,jz];exact QjY k r
theorem Qep(kvs:List (κ×V))(k : κ)(v:V):(putK kvs k v).length<=kvs.length+1:=by
 unfold putK;split
 .rw[aj];omega
 .rw[aJ,aK,c7];omega
def RelO.isSome_eq(r:RelO o u):o.isSome=u.isSome:=by
 cases o with
 | none=>cases u with
  |none=>rfl
  |some _=>exact(r).elim
 | some _=>cases u with
  |none=>exact(r).elim
  |some _=>rfl
def RelO.getD(r:RelO o u)(rd:RelV d G):RelV (o.getD d) (u.getD G):=by
 cases o with
 | none=>cases u with
  |none=>exact rd
  |some _=>exact(r).elim
 | some _=>cases u with
  |none=>exact(r).elim
  |some _=>exact r
def KV.val{kvs:List (κ×V)}{vs:List (κ×Value)}(r:KV kvs vs)(k : κ):RelO (valV kvs k) (jU vs k):=by
 unfold KV at r;induction r with
 |nil=>exact dm
 |@cons p q ps j h t B =>
  obtain⟨h1,h2⟩:=h;by_cases e:p.1=k
  .have m:q.1=k:=h1.symm.trans e;have b:jU (q::j) k=some q.2:=by simp[jU,gH,m]
   rw[QfR e,b];exact h2
  .have m:¬q.1=k:=λz=>e (h1.trans z);have b:jU (q::j) k=jU j k:=by simp[jU,gH,m]
   rw[QfS e,b];exact B
def KV.any{kvs:List (κ×V)}{vs:List (κ×Value)}(r:KV kvs vs)(k : κ):(kvs.any λkv=>decide (kv.1=k))=vs.any λkv=>decide (kv.1=k):=by
 unfold KV at r;induction r with
 |nil=>rfl
 |cons h t j=>rw[fX,fX,j,h.1]
def KV.repl{kvs:List (κ×V)}{vs:List (κ×Value)}(r:KV kvs vs)(k : κ){y:V}{u:Value}(G:RelV y u) :
  KV (kvs.map λkv=>if kv.1=k then (kv.1,y) else kv) (vs.map λkv=>if kv.1=k then (kv.1,u) else kv):=by
 unfold KV at r |-;induction r with
 |nil=>exact .nil
 |@cons p q ps m h t j =>
  rw[aL,aL];refine .cons ?_ j;obtain⟨h1,h2⟩:=h;by_cases e:p.1=k
  .rw[ak e,ak (h1.symm.trans e)];exact⟨h1,G⟩
  .rw[ar e,ar (λz=>e (h1.trans z))];exact⟨h1,h2⟩
def KV.put{vs:List (κ×Value)}(r:KV kvs vs) k (G:RelV y u):KV (putK kvs k y) (stored vs k u):=by
 unfold putK stored;rw[r.any k];by_cases e:(vs.any λkv=>decide (kv.1=k))=true
 .rw[ak e,ak e];exact r.repl k G
 .rw[ar e,ar e];exact lH.snoc r ⟨rfl,G⟩
theorem KV.length{vs:List (κ×Value)}(r:KV kvs vs):kvs.length=vs.length:=iT r
end
def kV_is{P:aN}{w:bg}{k:Key}{u:Value}(r:RelV (kV k) u):(ZS P w).is k u=true:=by
 cases k with
 |inl i=>obtain⟨t,e⟩:=(show ∃t,u=Value.int i t from r);subst e;exact QjC P w i t
 |inr x=>obtain⟨t,e⟩:=(show ∃t,u=gb x t from r);subst e;exact QjB P w x t
theorem QhB:∀{ks:List Key}{us:List Value},Vals (ks.map kV) us->ItemsAre (ZS P w) ks us
 |[],_,r=>by cases r;exact .nil
 |k::ks,_,r=>by
  cases r with
  |cons h t=>exact .cons (kV_is h) (QhB t)
abbrev KT(H:Hp):List (List Key×V)->List (List Key×Addr×Value)->Prop:=lH λp q=>p.1=q.1/\H q.2.1=some (.tup (p.1.map kV))/\RelV p.2 q.2.2
def KT.val{H:Hp}{kvs:List (List Key×V)}{xs:List (List Key×Addr×Value)}(r:KT H kvs xs)(k:List Key):RelO (valV kvs k) ((lv xs k).map (·.2)):=by
 induction r with
 |nil=>exact dm
 |@cons p q ps j h t B =>
  obtain⟨h1,_,h2⟩:=h;by_cases e:p.1=k
  .have m:q.1=k:=h1.symm.trans e;have b:lv (q::j) k=some q.2:=by simp[lv,gH,m]
   rw[QfR e,b];exact h2
  .have m:¬q.1=k:=λz=>e (h1.trans z);have b:lv (q::j) k=lv j k:=by simp[lv,gH,m]
   rw[QfS e,b];exact B
def KT.repl{H:Hp}{kvs:List (List Key×V)}{xs:List (List Key×Addr×Value)}(r:KT H kvs xs)(k:List Key){y:V}{u:Value}(G:RelV y u) :
  KT H (kvs.map λkv=>if kv.1=k then (kv.1,y) else kv) (xs.map (putAt k u)):=by
 induction r with
 |nil=>exact .nil
 |@cons p q ps B h t j =>
  rw[aL,aL];refine .cons ?_ j;obtain⟨h1,h2,m⟩:=h;unfold putAt;by_cases e:p.1=k
  .rw[ak e,ak (h1.symm.trans e)];exact⟨h1,h2,G⟩
  .rw[ar e,ar (λz=>e (h1.trans z))];exact⟨h1,h2,m⟩
def KT.put(r:KT H kvs xs) k (J:H b=some (.tup (k.map kV))) (G:RelV y u) :
  KT H (putK kvs k y) (storedH xs k b u):=by
 have e:(kvs.any λkv=>decide (kv.1=k))=(lv xs k).isSome:=by
  rw[QjY,(r.val k).isSome_eq,Option.isSome_map]
 unfold putK storedH;rw[e];by_cases q:(lv xs k).isSome=true
 .rw[ak q,ak q];exact r.repl k G
 .rw[ar q,ar q];exact lH.snoc r ⟨rfl,J,G⟩
def KT.keeps{H H':Hp}{kvs:List (List Key×V)}{xs:List (List Key×Addr×Value)}(r:KT H kvs xs)(G:∀b ys,H b=some (.tup ys)->H' b=some (.tup ys)):KT H' kvs xs :=
 lH.mapP r λ_ _ z=>⟨z.1,G _ _ z.2.1,z.2.2⟩
section
variable{P:aN}{w:bg}{H:Hp}{h:Heap}{a:Addr}
def rd_of(ok:HOk P w H h)(e:Rd H a u):ZY P w H h a u:=e.ok ok
def dk_rd(ok:HOk P w H h)(e:Rd H a (.dK kvs)):kvs.length<=ax/\(a==d4)=false/\∃vs,KV kvs vs/\h.DictOf (ZS P w) a vs :=
 rd_of ok e
def dk_of(ok:HOk P w H h)(e:H a=some (.dK kvs)):kvs.length<=ax/\(a==d4)=false/\∃vs,KV kvs vs/\h.DictOf (ZS P w) a vs:=dk_rd ok (.inl e)
def key_of(ok:HOk P w H h)(e:H a=some (.tup (ks.map kV))):(jp (ZS P w)).is h ks a:=by
 obtain⟨_,j,r,o,h1,h2,_,n,m⟩:=(ok a _ e)
 exact⟨o,j.toArray,n,h1,h2,m,by simpa using QhB r⟩
def dt_rd{kvs:List (List Key×V)}(ok:HOk P w H h)(e:Rd H a (.dT kvs)):kvs.length<=ax/\(a==d4)=false /\
  ∃xs,KT H kvs xs/\h.DictOfH (jp (ZS P w)) a xs:=by
 obtain⟨z,y,xs,r,o,es,ep,h1,h2,D,E,G⟩:=(show ZY P w H h a (.dT kvs) from rd_of ok e)
 refine⟨z,y,xs,r,o,es,ep,h1,h2,D,E,λx j=>?_,G⟩;have all:∀{l:List (List Key×V)}{m:List (List Key×Addr×Value)},KT H l m->∀x∈m,(jp (ZS P w)).is h x.1 x.2.1:=by
  intro l m q;induction q with
  |nil=>intro x j;exact nomatch j
  |@cons p q ps J B t I =>
   intro x j;rcases ao.mp j with e | j
   .subst e;exact key_of ok (by rw[<-B.1];exact B.2.1)
   .exact I x j
 exact all r x j
def dt_of(ok:HOk P w H h)(e:H a=some (.dT kvs)):kvs.length<=ax/\(a==d4)=false /\
  ∃xs,KT H kvs xs/\h.DictOfH (jp (ZS P w)) a xs:=dt_rd ok (.inl e)
end
def DGet(H:Hp)(a:Addr)(y:V)(r:Option V):Prop :=
 (∃kvs k,Rd H a (.dK kvs)/\y=kV k/\r=valV kvs k)\/∃kvs k b,Rd H a (.dT kvs)/\y = .ref b/\H b=some (.tup (k.map kV))/\r=valV kvs k
def DPut(H:Hp)(a:Addr)(y v:V)(H':Hp):Prop :=
 (∃kvs k,H a=some (.dK kvs)/\y=kV k/\kvs.length<ax/\H'=upd H a (.dK (putK kvs k v))) \/
 ∃kvs k b,H a=some (.dT kvs)/\y = .ref b/\H b=some (.tup (k.map kV))/\kvs.length<ax/\H'=upd H a (.dT (putK kvs k v))
def DGet.k{k:Key}(e:H a=some (.dK kvs)):DGet H a (kV k) (valV kvs k) := .inl ⟨kvs,k,.inl e,rfl,rfl⟩
def DGet.t{k:List Key}(e:H a=some (.dT kvs))(G:H b=some (.tup (k.map kV))):DGet H a (.ref b) (valV kvs k) := .inr ⟨kvs,k,b,.inl e,rfl,G,rfl⟩
def DPut.k{k:Key}(e:H a=some (.dK kvs))(G:kvs.length<ax):DPut H a (kV k) v (upd H a (.dK (putK kvs k v))) := .inl ⟨kvs,k,e,rfl,G,rfl⟩
def DPut.t{k:List Key}(e:H a=some (.dT kvs))(G:H b=some (.tup (k.map kV)))(J:kvs.length<ax) :
  DPut H a (.ref b) v (upd H a (.dT (putK kvs k v))) := .inr ⟨kvs,k,b,e,rfl,G,J,rfl⟩
section
variable{X:Cx}{pins:List (Addr×Obj)}{σ:St}{H:Hp}{s:ap}{a:Addr}{y v:V}{u r:Value}{o:Option V}{A:bG}{E:Value->ap->Prop}
def Inv.big(I:Inv X pins σ H s):d4<s.heap.objs.size:=by
 have h :=(I.mod.glob.keeps I.bk).lt;exact ew (by decide) h
def QnE(I:Inv X pins σ H s)(G:Mut (H a))(hs:bF a s.heap h')(he:∃q,h'.get? a=some q)(new:ZY X.prog X.w (upd H a ob) h' a ob) :
  Inv X pins σ (upd H a ob) { s with heap:=h',toks:=t' } :=
 I.write G (.inl rfl) (λb q j z=>(hs.2 b j).trans z) he new
def dk_new(z:kvs.length<=ax)(hd:(a==d4)=false)(rel:KV kvs vs)(dd:h'.DictOf (ZS P w) a vs) :
  ZY P w H' h' a (.dK kvs):=⟨z,hd,vs,rel,dd⟩
def QoQ(U:A.units+1<gd)(I:Inv X pins σ H s)(g:DPut H a y v H')(J:RelV y u)(O:RelV v r)(h:∀s',Inv X pins σ H' s'->Q () s') :
  av (model X.prog X.w) A (setItem (.ref a) u r) Q E s:=by
 rcases g with⟨kvs,k,e,B,l,D⟩|⟨kvs,k,b,e,B,L,l,D⟩
 .subst B D;obtain⟨z,hd,vs,rel,dd⟩:=dk_of I.hok e;have hz:vs.length<=ax:=by rw[<-rel.length];exact z
  have G:(putK kvs k v).length<=ax:=by grind[Qep]
  refine wpAny_setItem_pairs (kV_is J) dd λh' j hs=>h _ ?_;have he:∃q,h'.get? a=some q:=let ⟨q,_,_,m,_⟩:=j;⟨q,m⟩;exact QnE I (by rw[e];exact dm) hs he (dk_new G hd (rel.put k O) j)
 .subst B D;cases (J);obtain⟨z,hd,xs,rel,dd⟩:=dt_of I.hok e;have hz:xs.length<=ax:=by grind[iT]
  have G:(putK kvs k v).length<=ax:=by grind[Qep]
  refine wpAny_setItem_heap (tupleKind_room_in1 U) (key_of I.hok L) dd λh' j hs=>h _ ?_;obtain⟨q,es,ep,m,h2,M,T,_,Y⟩:=j;refine QnE I (by rw[e];exact dm) hs ⟨q,m⟩ ⟨G,hd,_,(rel.put k L O).keeps λc ys ec=>?_,q,es,ep,m,h2,M,T,Y⟩;rw[Qj (by grind)];exact ec
end
section
variable{X:Cx}{pins:List (Addr×Obj)}{σ:St}{H:Hp}{s:ap}{a:Addr}{kvs:List (Key×V)}{k:Key}{u:Value}{A:bG}{E:Value->ap->Prop}
def d_len{Q:Value->ap->Prop}(I:Inv X pins σ H s)(e:Rd H a (.dK kvs))(h:∀t s',Inv X pins σ H s'->Q (.int kvs.length t) s'):av (model X.prog X.w) A (call (.builtin "len") [.ref a]) Q E s:=by
 obtain⟨z,hd,vs,rel,dd⟩:=dk_rd I.hok e;refine call_len_dict hd dd (by rw[<-rel.length];rw[eL]at z;omega) ?_;rw[<-rel.length];exact h _ _ (I.tok _)
end
def sDPut(td ty tv:TE):TS:=λD σ H=>tv σ H λv H1=>td σ H1 λx H2=>ty σ H2 λy m=>∃a j,x = .ref a/\DPut m a y v j/\D.nx σ j
section
variable{X:Cx}{o i e value:Expr}{pos pos' tpos:Pos}{td ty tv:TE}
def ps_dput(G:X.A.units+1<gd)(ho:PE X o td)(hi:PE X i ty)(J:PE X value tv)(hs:cp value (some (.Subscript o i pos')) pos.line X.env=pure false) :
  PS X (.Assign [.Subscript o i pos'] value pos) (sDPut td ty tv):=by
 intro pins s σ H D I h;refine wpAny_Assign_Subscript (thn (J pins s σ H _ I h) λr s1 ⟨v,H1,j,m,B⟩=>thn (ho pins s1 σ H1 _ j B) λu s2 ⟨x,H2,E,L,M⟩=>thn (hi pins s2 σ H2 _ E M) λiv s3 ⟨y,H3,O,Q,a,T,ex,g,U⟩=>?_) hs;subst ex;obtain rfl:u=cr a:=L;exact QoQ G O g Q m λs4 Y=>⟨σ,T,Y,U⟩
end
def dk_empty(h:Heap)(G:d4<h.objs.size):ZY P w H (h.push { cls := .type "dict",data := .dict #[] }) h.objs.size (.dK []) :=
 ⟨bz _,cv.mpr (Ne.symm (aC G)),[],.nil,Heap.DictOf.new h⟩
def tDNewK:TE:=λ_ H Q=>∀p,H p=none->Q (.ref p) (upd H p (.dK []))
section
variable{X:Cx}{pos:Pos}
def pe_dnewK:PE X (.Dict [] [] pos) tDNewK:=λpins s σ H Q I h =>
 wpAny_Dict_empty ⟨.ref s.heap.objs.size,_,I.laid (λ_ _ q=>ag _ q) (am _) (dk_empty s.heap I.big),rfl,h _ (I.hok.fresh (am _))⟩
end
end L2
namespace Att
open PySem PySem.W PySem.Calls PyProof.Rows
end Att
namespace L2
open PySem PySem.Spec PyProof.Rows
end L2
namespace L2
open PySem PySem.Spec PyProof.Rows
end L2
namespace L2.PM
open PySem PySem.Spec PyProof.Rows
def dvOf:PV->Option (Bool ⊕ Int)
 |.bl b=>some (.inl b)
 |.int i=>some (.inr i)
 |_=>none
def dcOf:PV->Option (List (Str×(Bool ⊕ Int)))
 |.dct kvs=>some kvs
 |.dcw kvs=>some kvs
 |_=>none
def putD(kvs:List (Str×(Bool ⊕ Int)))(k:Str)(v:Bool ⊕ Int):List (Str×(Bool ⊕ Int)) :=
 if (kvs.any λp=>decide (p.1=k))=true then kvs.map (λp=>if p.1=k then (p.1,v) else p) else kvs++[(k,v)]
def dv_rep{K:ac}(h:dvOf p=some x)(r:Rep K F p v):v=dvV x/\flat p=true:=by
 cases p<;>first
  | (cases h;done)
  | (cases h;exact⟨r,rfl⟩)
def dc_rd{K:ac}(h:dcOf p=some kvs)(r:Rep K F p v):∃a,v = .ref a/\Rd F a (.dK (dvK kvs)):=by
 cases p with
 |dct l =>
  cases h;obtain⟨a,o,rfl,e⟩:=r;exact⟨a,rfl,.inr ⟨o,e⟩⟩
 |dcw l =>
  cases h;obtain⟨a,_,rfl,e⟩:=r;exact⟨a,rfl,e.rd⟩
 |_=>cases h
def any_dv(kvs:List (Str×(Bool ⊕ Int)))(k:Str):((dvK kvs).any λkv=>decide (kv.1=(du k:Key)))=kvs.any λp=>decide (p.1=k):=by
 unfold dvK;rw[fr];congr 1;funext p;show decide ((du p.1:Key)=du k)=decide (p.1=k);exact gc.mpr ⟨du.inj,congrArg _⟩
def put_dv(kvs:List (Str×(Bool ⊕ Int)))(k:Str)(x:Bool ⊕ Int):dvK (putD kvs k x)=putK (dvK kvs) (du k) (dvV x):=by
 unfold putD putK;rw[any_dv];split
 .unfold dvK;rw[bc,bc];refine hZ λp _=>?_;by_cases c:p.1=k
  .simp[c]
  .have j:¬(du p.1:Key)=du k:=λz=>c (du.inj z);simp[c,j]
 .unfold dvK;rw[bH];rfl
def QnB(kvs:List (Str×(Bool ⊕ Int))):(dvK kvs).length=kvs.length:=by unfold dvK;rw[aj]
def QhY:List PV->Option PV
 |[d]=>(dcOf d).map λkvs=>.int kvs.length
 |_=>none
section
variable{X:Cx}{e a b c i o:Expr}{ms ns:List Nat}{m m1 m2:MEx}{pos:Pos}
def rd_same{a:Addr}(h:Same F H)(e:Rd F a u):Rd H a u:=e.imp (λz=>h _ _ z) λ⟨o,z⟩=>⟨o,h _ _ z⟩
def one64{a b:Nat}(h:a+64<b):a+1<b:=by lia
def cm_lenD:QgB X (.builtin "len") QhY:=by
 intro pins s σ H vs us Q I rs h;obtain⟨F,ps,r,h1,h2,j,w⟩:=h;unfold QhY at j;split at j
 .obtain⟨kvs,e1,rfl⟩:=QN j;obtain⟨v,t,rfl,h2,m⟩:=h2;subst m;obtain⟨a,rfl,rd⟩:=dc_rd e1 h2;obtain⟨u,rfl,B⟩:=YD rs;cases B;refine d_len I (rd_same h1 rd) λt s' D=>⟨.int (dvK kvs).length,H,D,⟨t,rfl⟩,?_⟩
  rw[QnB];exact w.here h1 (QL _)
 .cases j
end
section
variable{K:ac}{B F₀ F F' H H':Hp}{σ:St}{γ:PEnv}{a:Addr}
def Zv{γ:PEnv}{i j:Nat}{t u:Slot}(h:(γ.set i t)[j]?=some u):(i=j/\u=t/\i<γ.length)\/(i≠j/\γ[j]?=some u):=by
 by_cases e:i=j
 .subst e;by_cases hi:i<γ.length
  .rw[au hi]at h;exact .inl ⟨rfl,(aR h).symm,hi⟩
  .rw[aY (by simpa using hi)]at h;cases h
 .rw[ah e]at h;exact .inr ⟨e,h⟩
def SR.setOd(S:SR K B F₀ F σ H γ)(i:Nat){kvs:List (Str×(Bool ⊕ Int))}(G:H a=some (.dK (dvK kvs)))(J:F a=none)(O:B a=none)(nd:∀(j:Nat) lvs,i≠j->γ[j]?=some (.od lvs)->σ[j]?≠some (some (.ref a))):SR K B F₀ F (σ.set i (some (.ref a))) H (γ.set i (.od kvs)):=by
 refine⟨S.sub,S.base,S.f0,S.fb,by simpa using S.len,λj q e=>?_,λj ys e=>?_,λj k ys zs c m e1 e2 e3=>?_,⟨λj ls e=>?_,λj k ks ls c m e1 e2 e3 D=>?_⟩⟩
 .rcases Zv e with⟨_,z,_⟩|⟨n,e⟩
  .cases z
  .rw[ah n];exact S.fz j q e
 .rcases Zv e with⟨_,z,_⟩|⟨n,e⟩
  .cases z
  .rw[ah n];exact S.ow j ys e
 .rcases Zv e1 with⟨_,z,_⟩|⟨n1,e1⟩
  .cases z
  .rcases Zv e2 with⟨_,z,_⟩|⟨n2,e2⟩
   .cases z
   .rw[ah n1]at e3;rw[ah n2];exact S.dj j k ys zs c m e1 e2 e3
 .rcases Zv e with⟨rfl,z,hi⟩|⟨n,e⟩
  .cases z;exact⟨a,by rw[au (by rw[S.len];exact hi)],G,J,O⟩
  .rw[ah n];exact S.dq.at_ j ls e
 .rcases Zv e1 with⟨rfl,E,hi⟩|⟨n1,e1⟩
  .rw[au (by rw[S.len];exact hi)]at e3;cases e3;rcases Zv e2 with⟨z,_,_⟩|⟨n2,e2⟩
   .exact m z
   .rw[ah n2]at D;exact nd k ls n2 e2 D
  .rw[ah n1]at e3;rcases Zv e2 with⟨rfl,z,hi⟩|⟨n2,e2⟩
   .rw[au (by rw[S.len];exact hi)]at D;cases D;exact nd j ks n1 e1 e3
   .rw[ah n2]at D;exact S.dq.dj j k ks ls c m e1 e2 e3 D
def SR.writeD(S:SR K B F₀ F σ H γ){i:Nat}{kvs lvs:List (Str×(Bool ⊕ Int))}(hi:γ[i]?=some (.od kvs))(G:σ[i]?=some (some (.ref a))) :
  SR K B F₀ F σ (upd H a (.dK (dvK lvs))) (γ.set i (.od lvs)):=by
 obtain⟨O,h1,h2,E,I⟩:=S.dq.at_ i kvs hi;rw[G]at h1;cases h1;have J:i<γ.length:=(al.mp hi).1;have stay:∀b o,H b=some o->b≠a->upd H a (.dK (dvK lvs)) b=some o:=λb o e n=>by rw[Qj n];exact e
 refine⟨λb o e=>stay b o (S.sub b o e) (Ql e E),λb o e=>stay b o (S.base b o e) (Ql e I),S.f0,S.fb,by simpa using S.len,λj q e=>?_,λj zs e=>?_,λj k ws zs c m e1 e2 e3=>?_,⟨λj ls e=>?_,λj k ks ls c m e1 e2 e3=>?_⟩⟩
 .rcases Zv e with⟨_,z,_⟩|⟨n,e⟩
  .cases z
  .exact S.fz j q e
 .rcases Zv e with⟨_,z,_⟩|⟨n,e⟩
  .cases z
  .obtain⟨b,ts,k1,k2,k3⟩:=S.ow j zs e;exact⟨b,ts,k1,stay _ _ k2 (Qmb k2 h2 (λw=>nomatch w)),k3⟩
 .rcases Zv e1 with⟨_,z,_⟩|⟨n1,e1⟩
  .cases z
  .rcases Zv e2 with⟨_,z,_⟩|⟨n2,e2⟩
   .cases z
   .exact S.dj j k ws zs c m e1 e2 e3
 .rcases Zv e with⟨rfl,z,_⟩|⟨n,e⟩
  .cases z;exact⟨a,G,Qk,E,I⟩
  .obtain⟨b,k1,k2,k3⟩:=S.dq.at_ j ls e;have L:b≠a:=λw=>by
    subst w;exact S.dq.dj i j kvs ls b n hi e G k1
   exact⟨b,k1,stay _ _ k2 L,k3⟩
 .have f:∀(n:Nat) ls,(γ.set i (.od lvs))[n]?=some (.od ls)->∃D,γ[n]?=some (.od D):=λn ls q=>by
   rcases Zv q with⟨rfl,_,_⟩|⟨_,q⟩
   .exact⟨kvs,hi⟩
   .exact⟨ls,q⟩
  obtain⟨M,e1⟩:=f j ks e1;obtain⟨D,e2⟩:=f k ls e2;exact S.dq.dj j k _ _ c m e1 e2 e3
def SR.exact(S:SR K B F₀ F σ H γ) {i:Nat} {kvs:List (Str×(Bool ⊕ Int))} (hi:γ[i]?=some (.od kvs)) (G:σ[i]?=some (some (.ref a))) (o:Obj) :
  SR K B F₀ (upd F a (.frz o (.dK (dvK kvs)))) σ (upd H a (.frz o (.dK (dvK kvs)))) (γ.set i (.fz (.dct kvs))):=by
 obtain⟨O,h1,h2,L,J⟩:=S.dq.at_ i kvs hi;rw[G]at h1;cases h1;have M:i<γ.length:=(al.mp hi).1;have E:Same F (upd F a (.frz o (.dK (dvK kvs)))):=λb u q=>by rw[Qj (Ql q L)];exact q
 have stay:∀b u,H b=some u->b≠a->upd H a (.frz o (.dK (dvK kvs))) b=some u:=λb u e n=>by rw[Qj n];exact e
 refine⟨λb u e=>?_,λb u e=>stay b u (S.base b u e) (Ql e J),S.f0.trans E,λb u e=>?_,by simpa using S.len,λj q e=>?_,λj zs e=>?_,λj k ws zs c m e1 e2 e3=>?_,⟨λj ls e=>?_,λj k ks ls c m e1 e2 e3=>?_⟩⟩
 .by_cases z:b=a
  .subst z;rw[Qk]at e |-;exact e
  .rw[Qj z]at e;exact stay b u (S.sub b u e) z
 .by_cases z:b=a
  .subst z;exact .inr J
  .rw[Qj z]at e;exact S.fb b u e
 .rcases Zv e with⟨rfl,z,_⟩|⟨n,e⟩
  .cases z;refine⟨.ref a,G,?_⟩;unfold Rep;exact⟨a,o,rfl,Qk⟩
  .obtain⟨v,k1,k2⟩:=S.fz j q e;exact⟨v,k1,k2.mono E⟩
 .rcases Zv e with⟨_,z,_⟩|⟨n,e⟩
  .cases z
  .obtain⟨b,ts,k1,k2,k3,I,k5⟩:=S.ow j zs e;have D:=Qmb k2 h2 (λw=>nomatch w);exact⟨b,ts,k1,stay _ _ k2 D,k3.mono E,by rw[Qj D];exact I,k5⟩
 .rcases Zv e1 with⟨_,z,_⟩|⟨n1,e1⟩
  .cases z
  .rcases Zv e2 with⟨_,z,_⟩|⟨n2,e2⟩
   .cases z
   .exact S.dj j k ws zs c m e1 e2 e3
 .rcases Zv e with⟨_,z,_⟩|⟨n,e⟩
  .cases z
  .obtain⟨b,k1,k2,k3,I⟩:=S.dq.at_ j ls e;have D:b≠a:=λw=>by
    subst w;exact S.dq.dj i j kvs ls b n hi e G k1
   exact⟨b,k1,stay _ _ k2 D,by rw[Qj D];exact k3,I⟩
 .rcases Zv e1 with⟨_,z,_⟩|⟨n1,e1⟩
  .cases z
  .rcases Zv e2 with⟨_,z,_⟩|⟨n2,e2⟩
   .cases z
   .exact S.dq.dj j k ks ls c m e1 e2 e3
end
section
variable{X:Cx}{e k v:Expr}{st:Stmt}{ms ns:List Nat}{m mk mv:MEx}{s1:MSt}{pos p2 spos:Pos}
def sDnew(i:Nat):MSt:=λγ=>some (.nx (γ.set i (.od [])))
def sm_dnew(J:X.N.Nodup)(hi:X.N[i]?=some x)(O:Loc X.env.scope x)(hs:cp (.Dict [] [] G) (some (.Name x p2)) pos.line X.env=pure false:=by rfl)(hf:X.fn x=true\/X.env.scope.names.lookup x=some .local:=by first | exact .inl rfl | exact .inr rfl | assumption) :
  SM X (.Assign [.Name x p2] (.Dict [] [] G) pos) (sDnew i):=PS.imp (QeT J hi O pe_dnewK hs hf) λD σ H ⟨B,F₀,F,γ,o,S,e,ok⟩=>by
 cases e;intro p m;have E:Same H (upd H p (.dK [])):=λb u q=>by rw[Qj (Ql q m)];exact q
 have I:F p=none:=by
  cases q:F p with
  |none=>rfl
  |some u=>rw[S.sub p u q]at m;cases m
 have L:B p=none:=by
  cases q:B p with
  |none=>rfl
  |some u=>rw[S.base p u q]at m;cases m
 refine ok _ _ F ((S.same E).setOd i Qk I L λj lvs M e z=>?_);obtain⟨a,k1,k2,_⟩:=S.dq.at_ j lvs e;grind
end
def revS(x:Str):Str:=⟨((aZ none none (-1) x.length).filterMap (x.cps[·]?)).toArray⟩
def pRvS:PV->Option PV
 |.str x=>if x.length<=LIM/\(revS x).length<=LIM then some (.str (revS x)) else none
 |_=>none
section
variable{X:Cx}{e st:Expr}{ms ns:List Nat}{m mst:MEx}{p2 pos:Pos}
def rv_str:RvR X (λx H Q=>∃z,x = .str z/\(revS z).length<=ax/\Q (.str (revS z)) H):=by
 intro pins s σ H x v m u Q I j hs h;obtain⟨z,rfl,hz,q⟩:=h;obtain⟨t,rfl⟩:=j;refine⟨"str",_,ju.lookup,eJ _ _ _,lp (l:=none) (u:=none) (st:=some (-1,u)) hs rfl ?_⟩;exact⟨hz,⟨.str _,H,I.tok _,⟨_,rfl⟩,q⟩⟩
def em_revS(he:EM X ms e m)(G:EM X [] st mst)(hm:∀γ,mst γ=some (.int (-1))):EM X ms (.Subscript e (.Slice none none (some st) p2) pos) (un1 pRvS m) :=
 PE.imp (pe_rev rv_str he G) λσ H Q ⟨F,γ,r,h1,h2,j,w⟩=>by
  obtain⟨x,e1,j⟩:=Qe j;refine⟨F,γ,x,h1,h2,e1,λL H1 E B I=>⟨E,γ,_,B.sub,(λi hi=>by cases hi),hm γ,λM H2 F2 D O=>⟨by grind[Rep],?_⟩⟩⟩;cases x with
  |str z =>
   obtain⟨⟨T,J⟩,rfl⟩:=Qt j;exact⟨z,I,aS J QU,(w.go (B.trans D)).here D.sub (Xa _)⟩
  |_=>cases j
end
end L2.PM
namespace L2
open PySem PySem.Spec PySem.Calls PyProof.Rows PySem.W PySem.Builtin PySem.Builtin.ObjectAttr PySem.Builtin.Getset_descriptor
structure XCl (K:ac) (D:Addr):Prop where
 ga:eQ K (.ref D) "__getattribute__"=some (some (.builtin "BaseException.__getattribute__"))
 gn:eQ K (.ref D) "__getattr__"=some none
 be:i4 K D (.type "BaseException")=some true
 ob:i4 K D (.type "object")=some true
 cl:eQ K (.ref D) "__class__"=some (some (.builtin "object.__class__"))
 gg:specialIn K (.builtin "object.__class__") "__get__"=some (some (.builtin "getset_descriptor.__get__"))
 tk:takesIn K (.builtin "object.__class__")=some true
def OfC(x D:Addr)(h:Heap):Prop:=∃ox,h.get? x=some ox/\ox.cls = .ref D
section
variable{prog:aN}{w:bg}{M:Model}{A:bG}{E:Value->ap->Prop}{s:ap}{K:ac}{x D:Addr}
def OfC.type(I:OfC x D h):Looks M h (typeOf (.ref x)) (.ref D):=by
 obtain⟨ox,h1,h2⟩:=I;exact h2▸(Looks.ld h1).andThen .now
def QjW{G:Value}{Q:Unit->ap->Prop}(X:K.In s.heap)(I:OfC x D s.heap)(C:XCl K D)(J:Q () s):av M A (gR "BaseException.__getattribute__" ⟨[.ref x,G],[]⟩) Q E s:=by
 have j:builtinKind "BaseException.__getattribute__"=some .slot:=by decide+kernel
 have sp:splitId "BaseException.__getattribute__"=some ("BaseException","__getattribute__"):=by decide+kernel
 have L:Looks M s.heap (hQ (.ref x) (.type "BaseException")) true:=(OfC.type (M:=M) I).andThen (gN X C.be);obtain⟨h,g,d,t,os⟩:=s;simp only[gR,j,sp];refine aa (Looks.at L ?_);repeat (any_goals (first | assumption | wp_step))
def xc_find(X:K.In h)(C:XCl K D):Looks M h (iJ.ObjectAttr.find (.ref x) (.ref D) "__class__") (.bind (.builtin "getset_descriptor.__get__") (.builtin "object.__class__")) :=
 (eX X C.cl).andThen ((looks_specialIn X C.gg).andThen ((show Looks M h (iJ.ObjectAttr.dataDescriptor? (some (.builtin "object.__class__")) (some (.builtin "getset_descriptor.__get__"))) (some (_,_)) from(looks_takesIn X C.tk).andThen .now).andThen (Looks.tag .now)))
def Qmf(h:i4 K c b=some r):(clsIn K c).isSome=true:=by
 obtain⟨cd,hc,_⟩:=Option.bind_eq_some_iff.mp h;rw[hc];rfl
def xc_get(X:K.In s.heap)(I:OfC x D s.heap)(C:XCl K D)(G:R (.ok (.ret (.ref D))) s):fu (model prog w) A (.call (.builtin "getset_descriptor.__get__") ⟨[.builtin "object.__class__",.ref x,.ref D],[]⟩) R s:=by
 have L:=OfC.type (M:=model prog w) I;have j:=gN (M:=model prog w) X C.ob;obtain⟨h,g,d,t,os⟩:=s;exact dz KF.slot_gs.plain KF.entry_gs (KF.slot_gs.check _ _ _ _ _ _ _ _ KF.type_class (KF.args_gs _ _ _) (by
  refine aa (af ?_);unfold descrGetter descrCheckInstance descrNameAndClass hQ;simp only[KF.owner_class];repeat lk
  exact⟨dQ _ (by decide+kernel),cI KF.entry_class (by (repeat lk);exact G)⟩))
def xc_class{Q:Option Value->ap->Prop}(X:K.In s.heap)(I:OfC x D s.heap)(C:XCl K D)(G:Q (some (.ref D)) { s with toks:=s.toks+1 }):av (model prog w) A (getAttr? (.ref x) "__class__") Q E s:=by
 have L:=OfC.type (M:=model prog w) I;have j:=eX (M:=model prog w) X C.ga;have L2:=eX (M:=model prog w) X C.gn;have m:=xc_find (M:=model prog w) (x:=x) X C;obtain⟨h,g,d,t,os⟩:=s;have B:=F.attr_ValueError.ga.bind (.ref x);refine aa (wpAny_mkText (aa (gK ?_)));refine bd (aa (Looks.at L (aa (Looks.at j ?_))));repeat (any_goals (first | assumption | with_reducible refine Looks.at L2 ?_ | with_reducible refine Looks.at L ?_ | wp_step))
 refine dz F.attr_ValueError.ga.plain F.entry_bexc_ga (QjW X I C ?_);repeat (any_goals (first | assumption | with_reducible refine Looks.at m ?_ | with_reducible refine Looks.at L ?_ | wp_step))
 refine xc_get X I C ?_;repeat (any_goals (first | assumption | wp_step))
def Qky(C:XCl K D):KitX K (.ref x) (.ref D) (OfC x D) where
 ty:=λ_ _ _ I=>I.type
 it:=λ_ _ X _=>by
  obtain⟨cd,hc⟩:=cN.mp (Qmf C.be);unfold clsIn at hc;split at hc
  .rename_i j;exact λE Q G s' k q=>by
    exact aa (wpAny_loadPart (k _ _ (X _ _ j)) (af q))
  .cases hc
 ne:=λh H dd B n J X m=>by
  obtain⟨cd,hc⟩:=cN.mp (Qmf C.be);refine Bool.eq_false_iff.mpr λq=>?_;cases (cr.inj (bM.mp q));unfold clsIn at hc;split at hc
  .rename_i j;cases (X _ _ j).symm.trans m
  .cases hc
 ca:=λX I k=>xc_class X I C k
def QoI{C:Addr}{b:Bool}{Q:Bool->ap->Prop}(X:K.In s.heap)(I:OfC x C s.heap)(G:XCl K D)(J:kU K (.ref D)=some (.type "type"))(hs:i4 K C (.ref D)=some b)(O:Q b s):av M A (excMatches (.ref x) (.ref D)) Q E s:=by
 have L:=OfC.type (M:=M) I;have j:=looks_typeIn (M:=M) X J;have L2:=gN (M:=M) X hs;have m:=gN (M:=M) X G.be;have H:=(Qky (x:=x) (K:=K) G).it M s.heap X;have f:=tc_notTuple;obtain⟨cd,hc⟩:=cN.mp (Qmf G.be);unfold clsIn at hc;split at hc
 .rename_i B;have e1:=X _ _ B;obtain⟨h,g,d,t,os⟩:=s;unfold excMatches hQ;repeat (first | with_reducible refine Looks.at L ?_ | with_reducible refine Looks.at j ?_ | with_reducible refine Looks.at L2 ?_ | with_reducible refine Looks.at m ?_ | with_reducible refine dy e1 ?_ | wp_step)
  cases b<;>(repeat (first | wp_step))<;>exact O
 .cases hc
end
end L2
namespace L2
open PySem PySem.Spec PySem.Calls PyProof.Rows PySem.W
structure FlyO (B:Heap) (l:List Env) (e:Addr) (cls:Value) (d:Option Addr) (fl:Value) (h:Heap):Prop where
 stay:B.StaysIn h
 new:B.get? e=none
 fun_:h.FunFrames B l
 at_:∃oe vs T oT ts,h.get? e=some oe/\oe.cls=cls/\oe.dict=d/\oe.data = .fields vs/\vs[1]?=some (.ref T)/\B.get? T=none/\T≠e/\h.get? T=some oT/\oT.data = .fields ts/\ts[3]?=some fl
def FlyO.obj(x:FlyO B l e cls d fl h):∃oe vs,h.get? e=some oe/\oe.cls=cls/\oe.dict=d/\oe.data = .fields vs :=
 let ⟨oe,vs,_,_,_,h1,h2,j,m,_⟩:=x.at_;⟨oe,vs,h1,h2,j,m⟩
def FlyO.tail(x:FlyO B (env::l) e cls d fl h):FlyO B l e cls d fl h:=⟨x.stay,x.new,x.fun_.2.2,x.at_⟩
def Qfb f o:(fA f o).dict=o.dict:=by
 obtain⟨c,d,j,m⟩:=o;cases j<;>rfl
section
variable{M:Model}{A:bG}{E:Value->ap->Prop}{s:ap}{B:Heap}{env:Env}{l outer:List Env}{L e:Addr}{cls fl head:Value}{d:Option Addr}{oe:Obj}{vs:Array Value}{Q:Unit->ap->Prop}
def QfO(x:FlyO B l e cls d fl s.heap)(O:∀h',FlyO B l e cls d .none h'->s.heap.UpToSlots h'->Q () { s with heap:=h' }):av M A (lr (.ref e) none) Q E s:=by
 obtain⟨oe,vs,T,oT,ts,k1,k2,k3,I,k5,U,J,L,G,Y⟩:=x.at_;have z:3<ts.size:=(by grind)
 have j:∀b,b≠T->(s.heap.update T (fA (·.setIfInBounds 3 cm))).get? b=s.heap.get? b:=by grind[aX]
 have m:∀b o,s.heap.get? b=some o->(∀ws,o.data≠.fields ws)->b≠T:=by grind
 refine aa (cE k1 I k5 ?_);refine cS L G z (O _ ⟨λb o q=>(j b λw=>by grind).trans (x.stay b o q),x.new,x.fun_.of_keeps λb o D H=>⟨o,(j b (m b o D H)).trans D,rfl⟩,?_⟩ λb o D H=>⟨o.slots,(j b (m b o D H)).trans D⟩);exact⟨oe,vs,T,_,_,(j e J.symm).trans k1,k2,k3,I,k5,U,J,bI _ L (dX (dg G _)),dg G _,by simp[z]⟩
def QhH{hn:Bool}(hfr:A.frames=some (env::outer))(hf:env.frame=some L)(st:B.StaysIn s.heap)(new:B.get? e=none)(Y:s.heap.FunFrames B (env::outer))(he:s.heap.get? e=some oe)(hd:oe.data = .fields vs)(hz:1<vs.size)(hq:∀h',FlyO B (env::outer) e oe.cls oe.dict (bA L) h'->s.heap.UpToSlots h'->Q () { s with heap:=h' }) :
  av M A (frameOf env >>= λa=>entryPlaceOf L hn >>= λJ=>EntryCells.newEntry head a .none (bA L) .none J >>= λb=>l8 (.ref e) 1 b) Q E s:=by
 have nf:e∉(env::outer).filterMap (·.frame):=λhm=>by
  obtain⟨_,o,j,m⟩:=Y.mem hm;rw[he]at j;cases j;exact m _ hd
 refine aa (wpAny_frameOf_fun hfr Y hf λh1 so=>aa (wpAny_entryPlaceOf λJ ip=>?_));refine aa (a9 ?_ (ip.sizeOk5 _ _ _ _ _));have H :=(so.2.1 e nf).trans he;have I:B.StaysIn h1:=λb o q=>(so.2.1 b λhm=>by rw[(Y.mem hm).1]at q;cases q).trans (st b o q);generalize hne:({ cls := .type "traceback",dict:=none,data := .fields ([head,.ref L,.none,bA L,.none]++(if J.isEmpty then dB 6 cm else J)).toArray }:Obj)=ne;have D:ne.data = .fields ([head,.ref L,.none,bA L,.none]++(if J.isEmpty then dB 6 cm else J)).toArray:=by rw[<-hne]
 have hnf :=dX D;have O:=ag ne H;have lt:=ay H;refine cS O hd hz (hq _ ?_ ?_);all_goals
  have G:∀b o,s.heap.get? b=some o->(∀ws,o.data≠.fields ws)->b≠e:=λb o j m T=>by
   subst T;rw[he]at j;cases j;exact m _ hd
  have keep:∀b o,b≠e->h1.get? b=some o->((h1.push ne).update e (fA (·.setIfInBounds 1 (cr h1.objs.size)))).get? b=some o:=λb o j m=>by
   rw[aX _ _ j.symm];exact ag _ m
 .have U:=dg hd (·.setIfInBounds 1 (cr h1.objs.size));refine⟨λb o q=>keep b o (λw=>by subst w;rw[new]at q;cases q) (I b o q),new,Y.of_keeps λb o j m=>?_,?_⟩
  .obtain⟨sl,T⟩:=so.2.2 b o j;exact⟨_,keep b _ (G b o j m) T,rfl⟩
  .refine⟨_,_,h1.objs.size,ne,_,bI _ O (dX U),Obj.cls_mapFields _ _,Qfb _ _,U,by simp[hz],I.fresh,dY lt,?_,D,?_⟩
   .rw[aX _ _ (aC lt)];exact aB h1 hnf
   .rcases ip with rfl|⟨_,_,_,_,_,_,_,rfl⟩<;>simp
 .intro b o j m;obtain⟨sl,T⟩:=so.2.2 b o j;exact⟨sl,keep b _ (G b o j m) T⟩
def QiB e env (hf:env.frame=some L):fh e env=field e 1 >>= λhead=>(if head != .none then field head 3 >>= λx=>if x==bA L then pure true else l8 head 3 .none >>= λ_=>pure false else pure false) >>= λr=>if r=true then pure () else
  frameOf env >>= λa=>entryPlaceOf L (head != .none) >>= λG=>EntryCells.newEntry head a .none (bA L) .none G >>= λb=>l8 e 1 b:=by
 unfold fh;rw[hf];simp only[mj];congr 1;funext head;split
 .simp only[mj];congr 1;funext x;split
  .rfl
  .simp only[mj];rfl
 .rfl
def QhG(G:A.frames=some (env::outer))(hf:env.frame=some L)(st:B.StaysIn s.heap)(new:B.get? e=none)(J:s.heap.FunFrames B (env::outer))(he:s.heap.get? e=some oe)(hd:oe.data = .fields vs)(h1:vs[1]?=some .none)(O:∀h',FlyO B (env::outer) e oe.cls oe.dict (bA L) h'->s.heap.UpToSlots h'->Q () { s with heap:=h' }):av M A (fh (.ref e) env) Q E s:=by
 rw[QiB _ _ hf];refine aa (cE he hd h1 ?_);refine aa (af ?_);exact QhH G hf st new J he hd (by grind) O
def QkK(G:A.frames=some (env::outer))(hf:env.frame=some L)(x:FlyO B (env::outer) e cls d .none s.heap)(Y:∀h',FlyO B (env::outer) e cls d (bA L) h'->s.heap.UpToSlots h'->Q () { s with heap:=h' }):av M A (fh (.ref e) env) Q E s:=by
 obtain⟨oe,vs,T,oT,ts,k1,rfl,rfl,J,k5,k6,k7,O,U,D⟩:=x.at_;rw[QiB _ _ hf];refine aa (cE k1 J k5 ?_);refine aa (aa (cE O U D ?_));refine aa (cS O U (by grind) (af ?_));have j:∀b,b≠T->(s.heap.update T (fA (·.setIfInBounds 3 cm))).get? b=s.heap.get? b:=by grind[aX]
 have m:∀b o,s.heap.get? b=some o->(∀ws,o.data≠.fields ws)->b≠T:=by grind
 refine QhH G hf (λb o q=>(j b λw=>by grind).trans (x.stay b o q)) x.new (x.fun_.of_keeps λb o H I=>⟨o,(j b (m b o H I)).trans H,rfl⟩)
  (by grind) J (by grind) λh' y u=>Y h' y λb o H I=>u b o (by grind) I
def QeH(G:A.frames=some (env::outer))(hf:env.frame=some L)(st:B.StaysIn s.heap)(new:B.get? e=none)(J:s.heap.FunFrames B (env::outer))(he:s.heap.get? e=some oe)(hd:oe.data = .fields vs)(h1:vs[1]?=some .none)(O:∀h',FlyO B outer e oe.cls oe.dict .none h'->s.heap.UpToSlots h'->Q () { s with heap:=h' }):av M A (leaving env (.ref e)) Q E s :=
 aa (QhG G hf st new J he hd h1 λh' y u=>QfO y λh2 z j=>O h2 z.tail (u.trans j))
end
def valB:List Value:=[.type "ValueError",.type "Exception",.type "BaseException",.type "object"]
def XW:List Value->Bool
 |.ref _::r=>XW r
 |l=>l==valB
def YO{X:String}{b:Bool}(G:valB.contains (.type X)=b):∀{l:List Value},XW l=true->l.contains (.type X)=b:=λ{l}=>by
 induction l with
 |nil=>intro e;cases (bM.mp e)
 |cons v r j =>
  intro e;unfold XW at e;split at e
  .rename_i m;cases m;rw[dI,j e];rfl
  .rw[bM.mp e];exact G
def Qar(K:Frag)(C:Addr):Bool:=match K.lookup C with
 | some ⟨.type "type",_,.cls cd,j⟩=>(match cd.mro,j.toList with
  |.ref m::bm,[_,_,_,_,some (.builtin n),_]=>m==C&&n=="ValueError.__new__" && !cd.hasDel&&cd.hasDict&&XW bm
  |_,_=>false)
 |_=>false
def Qli(self:Value):∀{l:List Value},XW l=true->refuseLoop self "__setattr__" l=pure ():=λ{l}=>by
 induction l with
 |nil=>intro e;cases (bM.mp e)
 |cons v r j =>
  intro e;unfold XW at e;split at e
  .rename_i m;cases m;rw[refuseLoop_ref];exact j e
  .rw[bM.mp e];kernel_rfl
structure XN (h:Heap) (C N:Addr) (nm q:Str) (bs bm:List Value) (sn:List Str) (sub:List Value) (ab:Bool) (col:Option Bool) (dd:Option Addr) (k0 k1 k2 k3 k5:Option Value):Prop where
 at_:h.get? C=some (excClassObj nm q C N bs bm true sn sub ab col dd k0 k1 k2 k3 k5 "ValueError.__new__")
 only:XW bm=true
def xnew_of{K:Frag}{C:Addr}{h:Heap}(X:K.In h)(q:Qar K C=true):∃N nm G bs bm sn sub ab col dd k0 k1 k2 k3 k5,XN h C N nm G bs bm sn sub ab col dd k0 k1 k2 k3 k5:=by
 unfold Qar at q;split at q;case h_2=>cases q
 case h_1 dd cd L M =>
  split at q;case h_2=>cases q
  case h_1 U bm B D E H Y I e1 e2 =>
   rw[aD,aD,aD,aD]at q;obtain⟨⟨⟨⟨j,m⟩,J⟩,O⟩,Q⟩:=q;have j:=bM.mp j;have m:=bM.mp m;rw[lC]at J;subst j m;obtain⟨nm,bs,T,ns,G,hd,sn,sub,ab,col,del⟩:=cd;cases e1;cases J;cases O;have e3:L = #[B,D,E,H,some (.builtin "ValueError.__new__"),I]:=gu.mp e2;cases e3;exact⟨ns,nm,G,bs,bm,sn,sub,ab,col,dd,B,D,E,H,I,X _ _ M,Q⟩
abbrev Xc(C t:Addr):Obj:={ cls := .ref C,data := .fields #[.ref t,.none,.none,.none,.bool false,.none] }
section
variable{prog:aN}{w:bg}{A:bG}{E:Value->ap->Prop}{h:Heap}{g:Array mu}{d:Drawn}{t:Nat}{os:jd}{K:Frag}{C fI N:Addr}{nm q:Str}{bs bm sub:List Value}{sn:List Str}{ab:Bool}{col:Option Bool}{dd:Option Addr}{k0 k1 k2 k3 k5:Option Value}{us:List Value}
def xn_check(H:XN h C N nm q bs bm sn sub ab col dd k0 k1 k2 k3 k5)(G:Q () ⟨h,g,d,t,os⟩):av M A (gR "ValueError.__new__" ⟨.ref C::us,[]⟩) Q E ⟨h,g,d,t,os⟩:=by
 have hc:(cr C::bm).contains (.type "ValueError")=true:=by rw[dI,YO (b:=true) rfl H.only,eG]
 have j:=H.at_;have F:=F.excBase_ValueError;have hs:=F.noStar;simp only[gR,F.newKind,F.newSplit,F.newRow];repeat (first | refine dy j ?_ | (refine iK j ?_;rw[hc]) | refine wpAny_staticBase_exc j ?_ | refine wpAny_madeBy_exc j ?_ | simp only[fM,cD,gQ] | wp_step)
 exact G
def xn_new{R:lG->ap->Prop}(H:XN h C N nm q bs bm sn sub ab col dd k0 k1 k2 k3 k5)(hz:us.length<=ax)(G:R (.ok (.ret (.ref (h.objs.size+1)))) ⟨(h.push { cls := .type "tuple",data := .seq us.toArray }).push (Xc C h.objs.size),g,d,t,os⟩):fu (model prog w) A (.builtin "ValueError.__new__" ⟨.ref C::us,[]⟩) R ⟨h,g,d,t,os⟩:=by
 have j:=H.at_;have F:=F.excBase_ValueError;have he:=F.ends;have m:(cr C::bm).contains (.type "ValueError")=true:=by rw[dI,YO (b:=true) rfl H.only,eG]
 have B:(cr C::bm).contains (.type "AttributeError")=false:=by rw[dI,YO (b:=false) rfl H.only];rfl
 have D:(cr C::bm).contains (.type "NameError")=false:=by rw[dI,YO (b:=false) rfl H.only];rfl
 refine codeAny_builtinAt F.entry ?_;refine lV (lV (PySem.wpAt_stack λ_ _=>kI ?_))
 wp_walk;refine kI ?_;rw[F.owner]
 repeat (first | with_reducible refine wpAny_madeHere_exc F.canon j ?_ | with_reducible refine dy j ?_ | (with_reducible refine iK j ?_;first | rw[m] | rw[B] | rw[D]) | wp_step)
 simp_all
def xn_call{Q:Value->ap->Prop}(X:K.In h)(J:Qar K C=true)(hi:eQ K (.ref C) "__init__"=some (some (.ref fI)))(hf:isFn K (.ref fI)=true)(hz:us.length<=ax)(O:av (model prog w) (A.under (.builtin "type.__call__" ⟨.ref C::us,[]⟩)) (call (.ref fI) (.ref (h.objs.size+1)::us)) (λr s'=>r = .none/\Q (.ref (h.objs.size+1)) s') E ⟨(h.push { cls := .type "tuple",data := .seq us.toArray }).push (Xc C h.objs.size),g,d,t,os⟩) :
  av (model prog w) A (call (.ref C) us) Q E ⟨h,g,d,t,os⟩:=by
 obtain⟨N,nm,q,bs,bm,sn,sub,ab,col,dd,k0,k1,k2,k3,k5,H⟩:=xnew_of X J;have j:=H.at_;have f1:=tc_lookup;have f2:=tc_bind (.ref C);have U:(⟨h,g,d,t,os⟩:ap).TypeIs (.ref C) "type":=⟨_,j,rfl⟩
 refine g0 (ig (show av _ _ (callAny (.ref C) _) _ _ _ from ?_));repeat (any_goals (first | assumption | with_reducible refine dy j ?_ | wp_step))
 refine⟨rfl,codeAny_call_builtin_at (dQ _ (by decide+kernel)) entry_typeCall (wpAny_check_type_call_sub j ?_)⟩;have F:=F.excBase_ValueError;repeat (first | with_reducible refine dy j ?_ | with_reducible refine wpAny_madeBy_exc j ?_ | wp_step)
 refine codeAny_call_builtin_code (dQ _ F.quiet) (xn_check H (xn_new H hz ?_));show av _ _ _ _ _ _;have kp:∀b o,h.get? b=some o->((h.push { cls := .type "tuple",data := .seq us.toArray }).push (Xc C h.objs.size)).get? b=some o:=λb o e=>ag _ (ag _ e);have m:=kp _ _ j;have G:=X.keeps kp;have I:((h.push { cls := .type "tuple",data := .seq us.toArray }).push (Xc C h.objs.size)).get? (h.objs.size+1)=some (Xc C h.objs.size):=by heap_get
 have B:(cr C::bm).contains (.ref C)=true:=by simp
 have L:=eX (M:=model prog w) G hi;have D:kU K (.ref fI)=some (.type "function"):=bM.mp hf;unfold hQ;repeat (first | with_reducible refine dy I ?_ | wp_step)
 refine iK m ?_;rw[B];repeat wp_step
 show av _ _ (j9 (.ref C) _) _ _ _;refine L.at (bd (aa ((bind_fn G _ D).at ?_)));refine aa (b8 O (λr s' T=>?_) λ_ _ x=>x);obtain⟨rfl,z⟩:=T
 wp_walk
 exact z
end
end L2
namespace L2
open PySem PySem.Spec PySem.Calls PyProof.Rows PySem.W PySem.Builtin PySem.Builtin.ObjectAttr
def exN(a C:Addr):HO := .ext λh=>∃t,h.get? a=some (Xc C t)
abbrev Qcb(C t dx:Addr):Obj:={ cls := .ref C,dict:=some dx,data := .fields #[.ref t,.none,.none,.none,.bool false,.none] }
def exF(a C dx:Addr):HO := .ext λh=>∃t,h.get? a=some (Qcb C t dx)
def exN_ok(e:h.get? a=some (Xc C t)):ZY P w H h a (exN a C):=⟨⟨t,e⟩,⟨_,e⟩,λ_ _ ⟨t,q⟩ k=>⟨t,k _ q⟩⟩
def exF_ok(e:h.get? a=some (Qcb C t dx)):ZY P w H h a (exF a C dx):=⟨⟨t,e⟩,⟨_,e⟩,λ_ _ ⟨t,q⟩ k=>⟨t,k _ q⟩⟩
structure XSet (K:Frag) (C:Addr) (f:Str):Prop where
 new:Qar K C=true
 sa:eQ K (.ref C) "__setattr__"=some (some (.builtin "object.__setattr__"))
 no:eQ K (.ref C) f=some none
section
variable{prog:aN}{w:bg}{A:bG}{E:Value->ap->Prop}{s:ap}{K:Frag}{C x t:Addr}{f:Str}{v:Value}
def xn_cls{h:Heap}(X:K.In h)(q:Qar K C=true):∃cd bm,clsIn K C=some cd/\cd.hasDict=true/\cd.mro = .ref C::bm/\XW bm=true:=by
 unfold Qar at q;split at q;case h_2=>cases q
 case h_1 dd cd E j =>
  split at q;case h_2=>cases q
  case h_1 G bm H I J L M O e1 e2 =>
   rw[aD,aD,aD,aD]at q;obtain⟨⟨⟨⟨m,Q⟩,T⟩,B⟩,D⟩:=q;refine⟨cd,bm,?_,B,?_,D⟩
   .unfold clsIn;rw[j]
   .rw[e1,bM.mp m]
def xset_map{Q:Unit->ap->Prop}(X:K.In s.heap)(G:s.heap.get? x=some (Xc C t))(c:XSet K C f)(h:∀h',(∀b o,b≠x->s.heap.get? b=some o->h'.get? b=some o)->h'.get? x=some (Qcb C t s.heap.objs.size)->h'.Ns1 s.heap.objs.size (λy=>if y=f then some v else none)->Q () { s with heap:=h',toks:=s.toks+2 }) :
  av (model prog w) A (setAttr (.ref x) f v) Q E s:=by
 obtain⟨cd,bm,hc,hd,hm,ho⟩:=xn_cls X c.new;have J:InstAt s.heap x (Xc C t) C none:=⟨G,rfl,rfl,dm⟩
 have lt:=ay G;refine set_plain X J c.sa ?_;have SF:=PySem.F.store_object;have T:cd.mro.contains (.type "object")=true:=by rw[hm,dI,YO (b:=true) rfl ho,eG]
 have sub:Looks (model prog w) s.heap (hQ (.ref x) (.type "object")) true:=J.type.andThen (gN X (by unfold i4;rw[hc,aQ,ar (by rw[hm];exact cC),T]));have B:Looks (model prog w) s.heap (mroOf (.ref C)) cd.mro:=(looks_clsIn X hc).andThen .now;refine dz SF.slot.plain SF.entry (@check_slot (model prog w) _ _ { s with toks:=s.toks+1 } "object.__setattr__" "object" "__setattr__" (.ref x) [.str f s.toks,v] [] _ SF.kind SF.split sub (SF.args (.ref x) (.str f s.toks) v) ?_);rw[osa_eq,refuse_eq];refine aa (aa (J.type.at (aa (B.at ?_))));rw[hm,refuseLoop_ref,Qli _ ho];refine af (aa (J.type.at (aa ((eX X c.no).at (aa (af ?_))))));show av (model prog w) _ (storeInOwnDict (.ref x) (.ref C) (.str f s.toks) f v false) _ _ { s with toks:=s.toks+1 };unfold storeInOwnDict;refine aa (af ?_);rw[ar (λz=>by cases (bM.mp z))];show av _ _ (instanceDict x true >>= _) _ _ _;unfold instanceDict;refine aa (aa (wpAny_loadPart G (aa ((looks_clsIn X hc).at ?_))));rw[hd];refine aa (l7 (aa (wpAny_update (ag _ G) (af ?_))));have L:((s.heap.push { cls := .type "dict",data := .dict #[] }).update x λo=>{ o with dict:=some s.heap.objs.size }).get? x=some (Qcb C t s.heap.objs.size):=bI _ (ag _ G) rfl;have M:((s.heap.push { cls := .type "dict",data := .dict #[] }).update x λo=>{ o with dict:=some s.heap.objs.size }).get? s.heap.objs.size=some { cls := .type "dict",data := .dict #[] }:=by
  rw[aX _ _ (aC lt)];exact aB s.heap rfl
 have O:∀b o,b≠x->s.heap.get? b=some o->((s.heap.push { cls := .type "dict",data := .dict #[] }).update x λo=>{ o with dict:=some s.heap.objs.size }).get? b=some o:=λb o n q=>by
  rw[aX _ _ n.symm];exact ag _ q
 generalize (s.heap.push { cls := .type "dict",data := .dict #[] }).update x (λo=>{ o with dict:=some s.heap.objs.size })=h1 at L M O |-;have U:h1.Ns1 s.heap.objs.size (λ_=>none):=Heap.Ns1.of_empty ⟨_,#[],_,M,rfl,(λe he=>absurd he (by simp)),λ_=>rfl⟩;show av _ _ (storeInDict s.heap.objs.size (.str f s.toks) f v) _ _ _;unfold storeInDict;refine aa (af (aa (wpAny_nsSet1 (s:={ s with heap:=h1,toks:=s.toks+1 }) U λh' j m=>?_)));obtain⟨oD,Y,epD,D,H,I⟩:=j.count (ns:=[f]) (PySem.Within.cons f v (ns:=[]) (λy hy=>absurd rfl hy));refine aa (wpAny_lookBehind D (by rw[H];exact pastItsLine_dict (aS I (show 1<=ax+1 from Nat.le_add_left _ _))) (af ?_));exact h h' (λb o n q=>(m.2 b (aC (ay q))).trans (O b o n q)) ((m.2 x (aC lt)).trans L) j
end
section
variable{X:Cx}{pins:List (Addr×Obj)}{σ:St}{H:Hp}{s:ap}{a C dx:Addr}{f:Str}{v:V}{A:bG}{E:Value->ap->Prop}
def xset_ok(I:Inv X pins σ H s)(e:H a=some (exN a C))(c:XSet X.K C f)(G:RelV v u)(h:∀dx s',H dx=none->dx≠a->Inv X pins σ (upd (upd H a (exF a C dx)) dx (.xd [(f,v)])) s'->Q () s'):av (model X.prog X.w) A (setAttr (.ref a) f u) Q E s:=by
 obtain⟨⟨t,j⟩,_⟩:=I.hok a _ e;have lt:=ay j;refine xset_map I.kIn j c λh' k1 k2 k3=>?_;have hd:=I.hok.fresh (am s.heap.objs.size);refine h s.heap.objs.size _ hd (dY lt) ?_;have m:(s.heap.update a λo=>{ o with dict:=some s.heap.objs.size }).get? a=some (Qcb C t s.heap.objs.size):=bI _ j rfl;have B:Inv X pins σ (upd H a (exF a C s.heap.objs.size)) { s with heap:=s.heap.update a λo=>{ o with dict:=some s.heap.objs.size },toks:=s.toks } :=
  I.write (by rw[e];exact dm) (.inl rfl) (by grind[aX]) ⟨_,m⟩ (exF_ok m)
 refine B.laid (λb q z=>?_) (by simp_all) ⟨_,k3,λg=>?_⟩
 .by_cases D:b=a
  .grind
  .rw[aX _ _ (Ne.symm D)]at z;grind
 .by_cases q:g=f
  .subst q;rw[ak rfl,bn,iL];exact G
  .rw[ar q,bn,cv.mpr q];exact dm
def sXset(K:Frag)(C:Addr)(f:Str)(ta tv:TE):TS:=λD σ H=>tv σ H λy H1=>ta σ H1 λx H2=>∃a,x = .ref a/\H2 a=some (exN a C)/\XSet K C f/\∀dx,H2 dx=none->dx≠a->D.nx σ (upd (upd H2 a (exF a C dx)) dx (.xd [(f,y)]))
def ps_xset(G:PE X o ta)(J:PE X value tv)(hs:cp value (some (.Attribute o f pos')) pos.line X.env=pure false:=by rfl):PS X (.Assign [.Attribute o f pos'] value pos) (sXset X.K C f ta tv):=by
 intro pins s σ H D I h;refine plainObj_wpAny_Assign_Attribute (thn (J pins s σ H _ I h) λu s1 ⟨y,H1,j,m,q⟩=>thn (G pins s1 σ H1 _ j q) λB s2 ⟨x,H2,E,L,a,ex,M,c,O⟩=>?_) hs;subst ex;obtain rfl:B=cr a:=L;exact xset_ok E M c m λdx T n1 n2 Q=>⟨σ,_,Q,O dx n1 n2⟩
end
def spI(C:Addr)(f:Str):Sp:=λvs H Q _=>vs.length=2/\∃a v,vs=[.ref a,v]/\H a=some (exN a C)/\∀dx,H dx=none->dx≠a->Q .non (upd (upd H a (exF a C dx)) dx (.xd [(f,v)]))
def fnI{K:Frag}{st:Stmt}(O:Fun K x qual st fa fd)(U:FnScope N ps (Qc st))(hn:ps.length=2)(c:XSet K C f)(J:∀G A outer s H E,Room k (A.deeper (cH qual (Qc st) s.heap.objs.size fa G)) ->
   PSs (cxOf CX0 P w K mg base N qual (Qc st) fa G A outer s H E).nox (Qy st) (sXset K C f (tVar 0) (tVar 1))):FnOk P w K mg base CX0 (k+1) fa fd ps (spI C f):=by
 refine O.ok U (λvs H Q E h=>by rw[h.1,hn]) λG A outer s H vs Q E j h=>⟨_,J G A outer s H E j,?_⟩
 obtain⟨_,a,v,rfl,h2,m⟩:=h;exact⟨v,rfl,.ref a,rfl,a,rfl,h2,c,m⟩
end L2
namespace L2
open PySem PySem.Spec PySem.Calls PyProof.Rows PySem.W L2.PM
def Qnx(e:h.get? a=some o)(e1:o.cls = .ref C)(e2:o.dict=some dx)(e3:o.data = .fields vs):ZY P w H h a (excO a C dx) :=
 ⟨⟨o,vs,e,e1,e2,e3⟩,⟨_,e⟩,λ_ _ ⟨o,vs,q,r⟩ k=>⟨o,vs,k _ q,r⟩⟩
def upd_swap{H:Hp}{a b:Addr}{o u:HO}(n:a≠b):upd (upd H a o) b u=upd (upd H b u) a o:=by
 funext c;unfold upd;by_cases h1:c=a
 .subst h1;simp[n]
 .simp[h1]
section
variable{X:Cx}{pins:List (Addr×Obj)}{σ:St}{H:Hp}{s:ap}{C fa:Addr}{fd:cA}{ps:List Str}{k:Nat}{f x:Str}{v:V}{u:Value}{e:Expr}{p pos cpos np:Pos}
structure XMk (X:Cx) (C:Addr) (f:Str) (k:Nat):Prop where
 ex:∃fa fd ps,FnOk X.prog X.w X.K X.mg X.base CX0 k fa fd ps (spI C f)/\eQ X.K (.ref C) "__init__"=some (some (.ref fa))/\isFn X.K (.ref fa)=true/\YQ X.K fd ps []
 new:Qar X.K C=true
 kp:me X.K (.ref C)=true
def QnZ{Q:Value->ap->Prop}(M:XMk X C f k)(O:Room (k+1) X.A)(I:Inv X pins σ H s)(r:RelV v u)(U:∀a dx t s',s.heap.get? a=none->H a=none->H dx=none->dx≠a->Inv X pins σ (upd (upd H dx (.xd [(f,v)])) a (excO a C dx)) s'->s'.heap.get? a=some (Qcb C t dx)->Q (.ref a) s'):av (model X.prog X.w) X.A (call (.ref C) [u]) Q X.xe s:=by
 obtain⟨fa,fd,ps,F,hi,hf,T⟩:=M.ex;have hn:=I.hok.fresh (cf s.heap.objs.size);have nx:s.heap.get? (s.heap.objs.size+1)=none:=mr (cf _);have Y:((s.heap.push { cls := .type "tuple",data := .seq [u].toArray }).push (Xc C s.heap.objs.size)).get? (s.heap.objs.size+1)=some (Xc C s.heap.objs.size):=by
  have:=aB (s.heap.push { cls := .type "tuple",data := .seq [u].toArray }) (o:=Xc C s.heap.objs.size) rfl
  rwa [a7]at this
 have E:Inv X pins σ (upd H (s.heap.objs.size+1) (exN (s.heap.objs.size+1) C)) { s with heap:=(s.heap.push { cls := .type "tuple",data := .seq [u].toArray }).push (Xc C s.heap.objs.size),toks:=s.toks } :=
  I.laid (λb o q=>ag _ (ag _ q)) (cf _) (exN_ok Y)
 obtain⟨j,g,d,t,os⟩:=s;refine xn_call I.kIn M.new hi hf (show 1<=ax by decide) ?_;have D:spI C f [.ref (j.objs.size+1),v] (upd H (j.objs.size+1) (exN (j.objs.size+1) C)) (λG H'=>G = .non/\∃dx,H dx=none/\dx≠j.objs.size+1/\H'=upd (upd (upd H (j.objs.size+1) (exN (j.objs.size+1) C)) (j.objs.size+1) (exF (j.objs.size+1) C dx)) dx (.xd [(f,v)])) E0 :=
  ⟨rfl,_,v,rfl,Qk,λdx n1 n2=>⟨rfl,dx,by rw[Qj n2]at n1;exact n1,n2,rfl⟩⟩
 have r2:Vals [.ref (j.objs.size+1),v] [.ref (j.objs.size+1),u] := .cons rfl (.cons r .nil);have hl:=F.len _ _ _ _ D;refine g0 (dP (F.run _ X.stack _ _ ⟨[.ref (j.objs.size+1),u],[]⟩ [.ref (j.objs.size+1),u] _ _ E0 (O.make C [u] []) (E.env0.make C [u] []) (T _ [.ref (j.objs.size+1),u] E.kIn (by rw[<-hl];rfl)) r2 D) λr s' m=>?_);rcases r with e | (_ | _ | _ | u')
 .exact cB m
 all_goals first | exact cB m | skip
 obtain⟨G,H',J,rv,rfl,dx,n1,n2,rfl⟩:=E.after m;refine⟨rv,?_⟩;obtain⟨⟨t',B⟩,_⟩:=J.hok (j.objs.size+1) (exF (j.objs.size+1) C dx) (by rw[Qj n2.symm];exact Qk);have L:=J.write (x:=j.objs.size+1) (e:=j.objs.size+1) (o:=excO (j.objs.size+1) C dx) (h':=s'.heap) (t':=s'.toks) (by rw[Qj n2.symm,Qk];exact dm) (.inl rfl) (λ_ _ _ z=>z) ⟨_,B⟩ (Qnx B rfl rfl rfl);rw[QmD,upd_swap n2.symm,QmD]at L;exact U _ dx t' s' nx hn n1 n2 L B
end
structure FlyX (P:aN) (w:bg) (outer:List Env) (H:Hp) (h0:Heap) (H':Hp) (B:Heap) (e C:Addr) (d:Option Addr) (h:Heap):Prop where
 fl:FlyO B outer e (.ref C) d .none h
 ok:HOk P w H' B
 keep:∀b o,h0.get? b=some o->H b=none->b∉frs outer->B.get? b=some o
 there:∀b o,h0.get? b=some o->b∉frs outer->∃o',B.get? b=some o'
 slot:∀b o,h0.get? b=some o->H b=none->b∈frs outer->∃sl,h.get? b=some { o with slots:=sl }
 free:∀b o,h0.get? b=some o->H b=none->H' b=none
 tups:∀b xs,H b=some (.tup xs)->H' b=some (.tup xs)
 frzs:∀b o u,H b=some (.frz o u)->H' b=some (.frz o u)
 tbls:∀b ps,H b=some (.tbl ps)->∃more,H' b=some (.tbl (ps++more))
def CX2(P:aN)(w:bg):CXT:=λouter H s E e s'=>∃a C d H' B,e = .ref a/\s'.os=s.os/\iy s'.gens/\FlyX P w outer H s.heap H' B a C d s'.heap/\E (.ref C) d H'
def ZY.there(x:ZY P w H h a o):∃ob,h.get? a=some ob:=by
 cases o with
 |lst xs=>obtain⟨_,_,_,_,e⟩:=x;exact⟨_,e⟩
 |tup xs=>obtain⟨_,_,_,ob,e,_⟩:=x;exact⟨_,e⟩
 |dK kvs=>obtain⟨_,_,_,_,o,_,_,e,_⟩:=x;exact⟨_,e⟩
 |dT kvs=>obtain⟨_,_,_,_,o,_,_,e,_⟩:=x;exact⟨_,e⟩
 |set S n=>obtain⟨o,_,_,_,e,_⟩:=x;exact⟨_,e⟩
 |ins C dx fs=>obtain⟨_,_,_,e,_⟩:=x;exact⟨_,e⟩
 |own y=>exact x
 |xd fs=>obtain⟨_,⟨_,_,_,e,_⟩,_⟩:=x;exact⟨_,e⟩
 |rng lo hi=>obtain⟨_,_,_,e⟩:=x;exact⟨_,e⟩
 |frz ob u=>obtain⟨e,_⟩:=x;exact⟨_,e⟩
 |tbl ps=>exact⟨_,(x)⟩
 |met f y=>exact⟨_,(x)⟩
 |ext j=>obtain⟨_,e,_⟩:=x;exact e
section
variable{P:aN}{w:bg}{outer:List Env}{H H':Hp}{h0 h h' B:Heap}{e C:Addr}{d:Option Addr}
def FlyX.un(F:FlyX P w outer H h0 H' B e C d h)(hf:∀b∈frs outer,H b=none):Un (frs outer) [] H H' h0 h where
 keep:=λb o q n j _=>F.fl.stay b o (F.keep b o q n j)
 slot:=λb o q n j _=>F.slot b o q n j
 free:=λb o q n _=>F.free b o q n
 there:=λb o q _=>by
  by_cases j:b∈frs outer
  .obtain⟨m,z⟩:=F.slot b o q (hf b j) j;grind
  .obtain⟨o',z⟩:=F.there b o q j;exact⟨o',F.fl.stay b o' z⟩
 tups:=F.tups
 frzs:=F.frzs
 tbls:=F.tbls
def FlyX.hok(F:FlyX P w outer H h0 H' B e C d h):HOk P w H' h:=F.ok.kept F.fl.stay
def FlyX.on(F:FlyX P w outer H h0 H' B e C d h)(fl:FlyO B outer e (.ref C) d .none h')(u:h.UpToSlots h'):FlyX P w outer H h0 H' B e C d h' :=
 ⟨fl,F.ok,F.keep,F.there,λb o q n j=>by
  obtain⟨G,z⟩:=F.slot b o q n j;obtain⟨_,I,m,D⟩:=F.fl.fun_.mem j;rw[z]at m;cases m;obtain⟨E,J⟩:=u b _ z D;grind,F.free,F.tups,F.frzs,F.tbls⟩
def FlyX.new(F:FlyX P w outer H h0 H' B e C d h):H' e=none:=by
 cases q:H' e with
 |none=>rfl
 |some o =>
  obtain⟨ob,z⟩:=(F.ok e o q).there;rw[F.fl.new]at z;cases z
end
def del(H:Hp)(a:Addr):Hp:=λb=>if b=a then none else H b
theorem Qaw(h:b≠a):del H a b=H b:=ar h
theorem QgX:del H a a=none:=ak rfl
def del_upd{H:Hp}{a:Addr}{o:HO}(n:H a=none):del (upd H a o) a=H:=by
 funext b;by_cases h:b=a
 .subst h;rw[QgX,n]
 .rw[Qaw h,Qj h]
section
variable{P:aN}{w:bg}{K:ac}{mg:Str->Option Value}{base:Heap}{N:List Str}{qual:Str}{scope:dS}{f:Addr}{cd:Value}{A:bG}{outer:List Env}{s s2:ap}{H H2:Hp}{E:XK}{pins:List (Addr×Obj)}{σ:St}{h':Heap}{a C:Addr}{d:Option Addr}{vs:Array Value}{ob:Obj}
def Qeo{G:Prop}(I:Inv (cxOf (CX2 P w) P w K mg base N qual scope f cd A outer s H E) pins σ H2 s2)(hob:s2.heap.get? a=some ob)(hc:ob.cls = .ref C)(U:ob.dict=d)(hdd:ob.data = .fields vs)(h1:vs[1]?=some .none)(new:s.heap.get? a=none)(hx:∀o,H2 a=some o->∃φ,o = .ext φ)(hE:E (.ref C) d (del H2 a))(k:∀B,(A.deeper (cH qual scope s.heap.objs.size f cd)).frames=some (cH qual scope s.heap.objs.size f cd::outer)->B.StaysIn s2.heap->B.get? a=none->s2.heap.FunFrames B (cH qual scope s.heap.objs.size f cd::outer) ->
   (∀J,FlyO B outer a ob.cls ob.dict .none J->s2.heap.UpToSlots J->CX2 P w outer H s E (.ref a) { s2 with heap:=J })->G):G:=by
 generalize m:cxOf (CX2 P w) P w K mg base N qual scope f cd A outer s H E=X at I;have D:X.stack=cH qual scope s.heap.objs.size f cd::outer:=by rw[<-m];rfl
 have T:X.outer=outer:=by rw[<-m];rfl
 have Y:X.A.frames=some X.stack:=I.ok.frames;have hA:X.A=A.deeper (cH qual scope s.heap.objs.size f cd):=by rw[<-m];rfl
 have hL:X.env.locals=s.heap.objs.size:=by rw[<-m];rfl
 have L:X.s₀=s:=by rw[<-m];rfl
 have hH0:X.H₀=H:=by rw[<-m];rfl
 have hex:X.ex=[]:=by rw[<-m];rfl
 have hp:X.prog=P:=by rw[<-m];rfl
 have hw:X.w=w:=by rw[<-m];rfl
 have hfs:X.fs=frs outer:=by grind
 generalize hfb:frs (cH qual scope s.heap.objs.size f cd::outer)=as;have hin:∀env∈X.stack,∀b,env.frame=some b->b∈a::as:=λenv he b j=>by
  rw[<-hfb];rw[D]at he;exact .tail _ (bv.mpr ⟨env,he,j⟩)
 have hfree:∀b∈as,H2 b=none:=λb j=>I.stkFree b (by grind);have M:∀b∈as,b=s.heap.objs.size\/b∈frs outer:=λb j=>by
  have:=I.stkSub b (by grind);grind
 have O:∀b o,s.heap.get? b=some o->b∉frs outer->b∉a::as:=λb o q nb j=>by
  rcases ao.mp j with z | j
  .grind
  rcases M b j with z | z
  .exact absurd (ay q) (by grind)
  grind
 have fun2:=I.stack;rw[D]at Y;have hff:s2.heap.FunFrames (iX s2.heap (a::as)) (cH qual scope s.heap.objs.size f cd::outer):=by grind[PySem.W.funFrames_hide]
 refine k (iX s2.heap (a::as)) (by grind) (λb o q=>lb _ q) (kj _ (.head _)) hff λJ x1 x4=>?_;rw[hc,U]at x1;have base:=I.base;rw[L,hH0,hfs,hex]at base;have na:∀b o,s.heap.get? b=some o->b≠a:=λb o q z=>by grind
 refine⟨a,C,d,del H2 a,_,rfl,?_,I.bare,⟨x1,?_,λb o q n j=>?_,λb o q j=>?_,λb o q n j=>?_,λb o q n=>?_,λb xs q=>?_,λb o u q=>?_,λb ps q=>?_⟩,hE⟩
 .show s2.os=_;rw[<-L];exact I.os
 .intro c o q;have hk:=I.hok;rw[hp,hw]at hk;have hca:c≠a:=λz=>by grind[QgX]
  rw[Qaw hca]at q;refine(hk c o q).stay (λb u j z=>eZ _ z λhm=>?_) (λb z=>?_) λb xs z=>?_
  .grind
  all_goals grind[Qaw]
 .exact eZ _ (base.keep b o q n j (by simp)) (O b o q j)
 .obtain⟨o',z⟩:=base.there b o q (by simp);grind[eZ]
 .obtain⟨sl,z⟩:=base.slot b o q n j (by simp);have Q:=I.funs;rw[T]at Q;obtain⟨_,o2,z2,nf⟩:=Q.mem j;rw[z]at z2;cases z2;obtain⟨sl2,z3⟩:=x4 b _ z nf;grind
 .rw[Qaw (na b o q)];exact base.free b o q n (by simp)
 .have:=base.tups b xs q;grind[Qaw]
 .have:=base.frzs b o u q;grind[Qaw]
 .obtain⟨more,this⟩:=base.tbls b ps q;grind[Qaw]
def QgF(I:Inv (cxOf (CX2 P w) P w K mg base N qual scope f cd A outer s H E) pins σ H2 s2)(G:s2.heap.get? a=some ob)(hc:ob.cls = .ref C)(O:ob.dict=d)(J:ob.data = .fields vs)(h1:vs[1]?=some .none)(new:s.heap.get? a=none)(U:∀o,H2 a=some o->∃Y,o = .ext Y)(hE:E (.ref C) d (del H2 a)):(cxOf (CX2 P w) P w K mg base N qual scope f cd A outer s H E).xe (.ref a) s2 :=
 Qeo I G hc O J h1 new U hE λB j st m D land=>QeH j rfl st m D G J h1 land
def Qlk{G:Prop}(I:Inv (cxOf (CX2 P w) P w K mg base N qual scope f cd A outer s H E) pins σ H1 s1)(O:CX2 P w (cxOf (CX2 P w) P w K mg base N qual scope f cd A outer s H E).stack H1 s1 E e s')(k:∀a C d B,e = .ref a->(A.deeper (cH qual scope s.heap.objs.size f cd)).frames=some (cH qual scope s.heap.objs.size f cd::outer)->FlyO B (cH qual scope s.heap.objs.size f cd::outer) a (.ref C) d .none s'.heap ->
   (∀J,FlyO B outer a (.ref C) d .none J->s'.heap.UpToSlots J->CX2 P w outer H s E e { s' with heap:=J })->G):G:=by
 generalize j:cxOf (CX2 P w) P w K mg base N qual scope f cd A outer s H E=X at I O;have D:X.stack=cH qual scope s.heap.objs.size f cd::outer:=by rw[<-j];rfl
 have L:X.outer=outer:=by rw[<-j];rfl
 have M :=I.ok.frames;have hA:X.A=A.deeper (cH qual scope s.heap.objs.size f cd):=by rw[<-j];rfl
 have hL:X.env.locals=s.heap.objs.size:=by rw[<-j];rfl
 have Q:X.s₀=s:=by rw[<-j];rfl
 have hH0:X.H₀=H:=by rw[<-j];rfl
 have hex:X.ex=[]:=by rw[<-j];rfl
 obtain⟨a,C,d,H',B,rfl,ho,hb,F,hE⟩:=O;have base:=I.base;rw[Q,hH0,show X.fs=frs outer by show frs X.outer=_;rw[L],hex]at base;rw[D]at M F;have T:∀b o,s.heap.get? b=some o->b∉frs outer->b∉frs (cH qual scope s.heap.objs.size f cd::outer):=λb o q m hm=>by
  have:=I.stkSub b (by rw[D];exact hm);rw[hL,show X.fs=frs outer by show frs X.outer=_;rw[L]]at this;rcases ao.mp this with z | z
  .exact absurd (ay q) (by rw[z];exact bX _)
  .exact m z
 have U:∀b,b∈frs outer->b∈frs (cH qual scope s.heap.objs.size f cd::outer):=λb hm=>by
  obtain⟨env,he,hf⟩:=bv.mp hm;exact bv.mpr ⟨env,.tail _ he,hf⟩
 refine k a C d B rfl (by rw[<-hA];exact M) F.fl λJ x1 u=>?_;refine⟨a,C,d,H',B,rfl,?_,hb,⟨x1,F.ok,λb o q n m=>F.keep b o (base.keep b o q n m (by simp)) (base.free b o q n (by simp)) (T b o q m),λb o q m=>?_,λb o q n hm=>?_,λb o q n=>?_,λb xs q=>F.tups b xs (base.tups b xs q),λb o u q=>F.frzs b o u (base.frzs b o u q),λb ps q=>?_⟩,hE⟩
 .rw[ho,I.os,Q]
 .obtain⟨o',z⟩:=base.there b o q (by simp);exact F.there b o' z (T b o q m)
 .obtain⟨sl,z⟩:=base.slot b o q n hm (by simp);obtain⟨sl2,Y⟩:=F.slot b _ z (base.free b o q n (by simp)) (U b hm);obtain⟨_,o2,z3,nf⟩:=F.fl.fun_.mem (U b hm);rw[Y]at z3;cases z3;obtain⟨sl3,z4⟩:=u b _ Y nf;exact⟨sl3,z4⟩
 .obtain⟨o',z⟩:=base.there b o q (by simp);exact F.free b o' z (base.free b o q n (by simp))
 .obtain⟨m1,z⟩:=base.tbls b ps q;obtain⟨m2,Y⟩:=F.tbls b _ z;exact⟨m1++m2,by rw[Y,iw]⟩
end
section
variable{M:Model}{A:bG}{E:Value->ap->Prop}{s:ap}{K:ac}{env:Env}
def Qof(G:A.handled=none)(h:av M A x (λv s1=>∃a C t d,v = .ref a/\s1.heap.get? a=some { cls := .ref C,dict:=d,data := .fields #[.ref t,.none,.none,.none,.bool false,.none] }/\K.In s1.heap/\i4 K C (.type "BaseException")=some true/\kU K (.ref C)=some (.type "type")/\E (.ref a) s1) E s):av M A (raiseStmt env (some x) none) Q E s:=by
 refine aa (b8 h (λv s1 h1=>?_) λ_ _ z=>z);obtain⟨a,C,t,d,rfl,he,X,hm,j,m⟩:=h1;have L:=gN (M:=M) X hm;have L2:=looks_typeIn (M:=M) X j;obtain⟨B,g,D,tk,os⟩:=s1;repeat (first | with_reducible refine dy he ?_ | with_reducible refine Looks.at L ?_ | with_reducible refine Looks.at L2 ?_ | wp_step)
 exact wpAny_raiseNew_none G m
end
def QfQ(X:Cx)(E:XK):Prop:=∀pins (σ:St) H s a C d ob vs,Inv X pins σ H s->s.heap.get? a=some ob->ob.cls = .ref C->ob.dict=d->ob.data = .fields vs->vs[1]?=some .none->X.s₀.heap.get? a=none ->
 (∀o,H a=some o->∃j,o = .ext j)->E (.ref C) d (del H a)->X.xe (.ref a) s
def Qco{K:ac} :
  QfQ (cxOf (CX2 P w) P w K mg base N qual scope f cd A outer s H E) E:=λ_ _ _ _ _ _ _ _ _ I h1 h2 j m B D G q=>QgF I h1 h2 j m B D G q
def sRaiseX(C:Addr)(f:Str)(E:XK)(t:TA):TS:=λ_ σ H=>t σ H λvs H1=>∃v,vs=[v]/\∀dx,H1 dx=none->E (.ref C) (some dx) (upd H1 dx (.xd [(f,v)]))
section
variable{X:Cx}{x f:Str}{np cpos pos:Pos}{e:Expr}{es:List Expr}{C:Addr}{E:XK}{t:TA}{k:Nat}
def Qoh(U:QfQ X E)(hex:X.ex=[])(M:XMk X C f k)(O:Room (k+1) X.A)(Y:Gl X x)(hm:X.mg x=some (.ref C))(hb:i4 X.K C (.type "BaseException")=some true)(ht:kU X.K (.ref C)=some (.type "type"))(ha:PA X (e::es) t)(G:(x==("__debug__":Str))=false:=by decide)(he:ai (e::es) X.env=(false,eval e X.env)::ai es X.env:=by rfl)(J:(bB cpos (ai es X.env)).any (·.1)=false:=by rfl) :
  PS X (.Raise (some (.Call (.Name x np) (e::es) [] cpos)) none pos) (sRaiseX C f E t):=by
 intro pins s σ H D I h;rw[arm_exec_Raise];refine aa (gI (Qof (K:=X.K) O.hd (aa (b8 (eI (QdL I Y hm ?_ G)) (λv s3 Q=>aa (gI (af Q))) λ_ _ z=>z))));refine io (h₀:=X.base) I.ok.mod.kin M.kp (thn (ha cpos pins s σ H _ I h) λus s1 ⟨vs,H1,m,r,v,e1,q⟩=>⟨m.kIn,?_⟩) he J;subst e1;obtain⟨u,rfl,T⟩:∃u,us=[u]/\RelV v u:=by
  cases r with
  |cons p q=>cases q;exact⟨_,rfl,p⟩
 refine QnZ M O m T λa dx t s2 nw n1 n2 n3 B j=>⟨a,C,t,some dx,rfl,j,B.kIn,hb,ht,?_⟩
 have h0:X.s₀.heap.get? a=none:=by
  cases z:X.s₀.heap.get? a with
  |none=>rfl
  |some o =>
   obtain⟨o',L⟩:=m.base.there a o z (by rw[hex];simp);rw[nw]at L;cases L
 refine U pins σ _ s2 a C (some dx) _ _ B j rfl rfl rfl rfl h0 (λo z=>?_) ?_
 .rw[Qk]at z;cases z;exact⟨_,rfl⟩
 .rw[del_upd (by rw[Qj n3.symm];exact n1)];exact q dx n2
end
def Inv.track{X:Cx}{pins:List (Addr×Obj)}{σ:St}{H:Hp}{s:ap}{a:Addr}{o:HO}(I:Inv X pins σ H s)(ok:ZY X.prog X.w (upd H a o) s.heap a o)(hn:H a=none)(h0:X.s₀.heap.get? a=none)(G:a≠X.env.locals)(hc:∀x c,X.env.cells.lookup x=some c->c≠a)(J:∀p∈X.pn++pins,p.1≠a):Inv X pins σ (upd H a o) s:=by
 have ne:∀b ob,X.s₀.heap.get? b=some ob->b≠a:=λb ob q z=>by subst z;rw[h0]at q;cases q
 have j:∀b u,H b=some u->b≠a:=λb u q z=>by subst z;rw[hn]at q;cases q
 refine⟨I.ok,I.os,I.bare,⟨I.base.keep,I.base.slot,λb ob q n x=>by rw[Qj (ne b ob q)];exact I.base.free b ob q n x,I.base.there,λb xs q=>?_,λb ob u q=>?_,λb ps q=>?_⟩,I.loc,I.cell,by rw[Qj G.symm];exact I.free,λx c q=>by rw[Qj (hc x c q)];exact I.freeC x c q,λp q=>?_,λb u q=>?_,I.len⟩
 .have:=I.base.tups b xs q;rw[Qj (j b _ this)];exact this
 .have:=I.base.frzs b ob u q;rw[Qj (j b _ this)];exact this
 .obtain⟨m,this⟩:=I.base.tbls b ps q;exact⟨m,by rw[Qj (j b _ this)];exact this⟩
 .obtain⟨D,E,L⟩:=I.pin p q;exact⟨D,by rw[Qj (J p q)];exact E,L⟩
 .by_cases B:b=a
  .subst B;rw[Qk]at q;cases q;exact ok
  .rw[Qj B]at q;exact(I.hok b u q).stay (λ_ _ _ z=>z) (λc z=>by rw[Qj (j c _ z)];exact z) λc xs z=>by rw[Qj (j c _ z)];exact z
def Cx.inH(X:Cx)(a:Addr):Cx:={ X with A:=X.A.mark (some (.ref a)),calm:=false,xe:=λ_ _=>False }
section
variable{X:Cx}{pins:List (Addr×Obj)}{σ:St}{H:Hp}{s:ap}{a:Addr}
def Inv.inH(I:Inv X pins σ H s):Inv (X.inH a) pins σ H s :=
 have ok:=I.ok
 ⟨⟨ok.mod,ok.kind,ok.glob,ok.blt,ok.above,ok.inj,ok.has,ok.cab,(λz=>nomatch z),ok.frames,ok.stk,ok.exf,ok.bs,ok.bsz,ok.noex,ok.exfs,ok.funs,ok.frf⟩,I.os,I.bare,I.base,I.loc,I.cell,I.free,I.freeC,I.pin,I.hok,I.len⟩
def Inv.outH(I:Inv (X.inH a) pins σ H s)(ok:X.Ok):Inv X pins σ H s:=⟨ok,I.os,I.bare,I.base,I.loc,I.cell,I.free,I.freeC,I.pin,I.hok,I.len⟩
def Qhu(I:Inv X pins σ H s)(U:X.N.Nodup)(hi:X.N[i]?=some n)(Y:X.env.scope.names.lookup n=some .local)(h:∀s',Inv X pins (σ.set i none) H s'->Q () s'):av M A (do bindName X.env n .none;unbindBehindTheSuite X.env n pos) Q E s:=by
 obtain⟨m,hn,D⟩:=id I.loc;have cne:=I.cne;have low:∀b o,X.s₀.heap.get? b=some o->b≠X.env.locals:=λb o e=>aC (aG (ay e) I.ok.above);refine wpAny_nameGoes_keeps Y hn (by rw[I.ok.kind];rfl) λh' v G hs=>h _ ?_;refine⟨I.ok,I.os,I.bare,⟨λb o e n J B=>(hs.2 b (low b o e)).trans (I.base.keep b o e n J B),λb o e n J B=>?_,I.base.free,λb o e B=>?_,I.base.tups,I.base.frzs,I.base.tbls⟩,⟨_,G,λj y T e1 e2 e3=>?_⟩,λy c e=>?_,I.free,I.freeC,λp hp=>?_,λb ob e=>?_,by simpa using I.len⟩
 .obtain⟨sl,e1⟩:=I.base.slot b o e n J B;exact⟨sl,(hs.2 b (low b o e)).trans e1⟩
 .obtain⟨o',e1⟩:=I.base.there b o e B;exact⟨o',(hs.2 b (low b o e)).trans e1⟩
 .have L:j≠i:=λz=>by
   subst z;rw[lz]at e2;simp at e2
  rw[ah (Ne.symm L)]at e2;obtain⟨u,r,q⟩:=D j y T e1 e2 e3;refine⟨u,r,?_⟩;rcases q with⟨k,e⟩|⟨k,c,e,z⟩
  .have:y≠n:=λe'=>L (Qgk U e1 (e'▸hi));exact .inl ⟨k,by simp[this,e]⟩
  .exact .inr ⟨k,c,e,z.sameBut hs (cne y c e)⟩
 .obtain⟨O,z⟩:=I.cell y c e;exact⟨O,z.sameBut hs (cne y c e)⟩
 .obtain⟨e,n,ne,nf,d⟩:=I.pin p hp;exact⟨(hs.2 p.1 ne).trans e,n,ne,nf,d⟩
 .refine(I.hok b ob e).stay (λc O hc q=>(hs.2 c λz=>?_).trans q) (λ_ q=>q) λ_ _ q=>q;subst z;rcases hc with z | z
  .rw[<-z,I.free]at e;cases e
  .rw[I.free]at z;cases z
structure XCat (K:ac) (D:Addr):Prop where
 cl:XCl K D
 ty:PySem.W.typeIn K (.ref D)=some (.type "type")
def Qmz(X:Cx)(D:Addr)(sts:List Stmt)(i:Nat)(Ds:Ends)(σ:St):XK:=λcls d H'=>∃C dx,cls = .ref C/\d=some dx/\fT X.K C (.ref D)=some true/\∀a,H' a=none->∃t,PSs (X.inH a) sts t /\
 t { nx:=λσ' H=>Ds.nx (σ'.set i none) H,rt:=Ds.rt,bk:=λσ' H=>Ds.bk (σ'.set i none) H,ct:=λσ' H=>Ds.ct (σ'.set i none) H } (σ.set i (some (.ref a))) (upd H' a (excO a C dx))
variable{s':ap}{e:Value}{x n:Str}{np pos:Pos}{D:Addr}{b₀:Stmt}{suite:List Stmt}{rest:List ll}{i:Nat}{Ds:Ends}
def caughtX(I:Inv X pins σ H s)(O:X.stack=X.env::X.outer)(hfm:X.env.frame=some X.env.locals)(hex:X.ex=[])(hcx:CX2 X.prog X.w X.stack H s (Qmz X D (b₀::suite) i Ds σ) e s')(hg:Gl X x)(hm:X.mg x=some (.ref D))(hD:XCat X.K D)(hN:X.N.Nodup)(hi:X.N[i]?=some n)(hl:X.env.scope.names.lookup n=some .local)(hdb:(x=="__debug__")=false:=by decide) :
  av (model X.prog X.w) X.A (fh e X.env) (λ_ U=>av (model X.prog X.w) X.A (lr e none) (λ_ Y =>
   av (model X.prog X.w) X.A (handleBy e X.env (.ExceptHandler (some (.Name x np)) (some n) (b₀::suite) pos::rest)) (SP X pins Ds) X.xe Y) X.xe U) X.xe s':=by
 obtain⟨a,C,d,H',B,rfl,ho,hb,F,C',dx,hC,hd,L,hE⟩:=hcx;cases hC;subst hd;have M:=I.ok.frames;have fl:=F.fl;rw[O]at M fl;refine QkK M hfm fl λh4 Q sm4=>QfO Q λh5 T sm5=>?_;rw[<-O]at T;have F5:=F.on T (sm4.trans sm5);have old:s.heap.get? a=none:=by
  cases z:s.heap.get? a with
  |none=>rfl
  |some o =>
   by_cases hm:a∈frs X.stack
   .obtain⟨oe,vs,he,_,_,hdd⟩:=F5.fl.obj;obtain⟨_,o2,G,nf⟩:=F5.fl.fun_.mem hm;grind
   .obtain⟨o',G⟩:=F.there a o z hm;rw[F.fl.new]at G;cases G
 have old0:X.s₀.heap.get? a=none:=by
  cases z:X.s₀.heap.get? a with
  |none=>rfl
  |some o =>
   obtain⟨o',G⟩:=I.base.there a o z (by grind);grind
 have mk:∀j,FlyX X.prog X.w X.stack H s.heap H' B a C (some dx) j->∃oe,j.get? a=some oe/\oe.cls = .ref C/\Inv X pins σ (upd H' a (excO a C dx)) { s' with heap:=j }:=λj F6=>by
  have I6:Inv X pins σ H' { s' with heap:=j }:=I.call' ho (F6.un I.stkFree) F6.hok hb (by grind);obtain⟨oe,vs,he,hc,hd1,hd2⟩:=F6.fl.obj;refine⟨oe,he,hc,I6.track (Qnx he hc hd1 hd2) F6.new old0 (λz=>?_) (λy c q z=>?_) (λp hp z=>?_)⟩
  .obtain⟨m,⟨o2,_,_,G,z3,_⟩,_⟩:=I6.loc;grind
  .obtain⟨w',o2,G,z3⟩:=I6.cell y c q;grind
  .have:=(I.pin p hp).1;grind
 obtain⟨oe5,he5,hc5,I5⟩:=mk h5 F5;refine wpAny_handleBy_cons (codeAny_handlers_test (QdL I5.inH hg hm (QoI I5.kIn ⟨oe5,he5,hc5⟩ hD.cl hD.ty L ?_) hdb)) (by intro q;cases q);refine codeAny_handlers_suite_as (QfO F5.fl λj fl6 sm6=>?_);obtain⟨oe,he,hc,I6⟩:=mk j (F5.on fl6 sm6);obtain⟨t,ht,q⟩:=hE a F.new;refine Qde (X:=X.inH a) (v := .ref a) I6.inH hN hi (.inl hl) rfl (λs7 I7=>?_) (.inr hl);refine b8 (ht pins s7 _ _ _ I7 q) (λf s8 z=>?_) λ_ _ z=>z.elim;cases f with
 |ret u =>
  obtain⟨v,σ',E,J,r,q⟩:=z;exact Qhu (J.outH I.ok) hN hi hl λs9 J9=>⟨v,_,E,J9,r,q⟩
 |_ =>
  obtain⟨σ',E,J,q⟩:=z;exact Qhu (J.outH I.ok) hN hi hl λs9 J9=>⟨_,E,J9,q⟩
end
def QXE(X:Cx)(e:Expr)(t:XK->TE):Prop:=∀pins s (σ:St) H Q E,Inv X pins σ H s ->
 (∀H1 s1 e s2,Inv X pins σ H1 s1->CX2 X.prog X.w X.stack H1 s1 E e s2->X.xe e s2)->t E σ H Q->av (model X.prog X.w) X.A (eval e X.env) (EP X pins σ Q) X.xe s
def QX(X:Cx)(st:Stmt)(t:(St->XK)->TS):Prop:=∀pins s (σ:St) H D E,Inv X pins σ H s ->
 (∀j H1 s1 e s2,Inv X pins j H1 s1->CX2 X.prog X.w X.stack H1 s1 (E j) e s2->X.xe e s2)->t E D σ H->av (model X.prog X.w) X.A (exec st X.env) (SP X pins D) X.xe s
def QXs(X:Cx)(sts:List Stmt)(t:(St->XK)->TS):Prop:=∀pins s (σ:St) H D E,Inv X pins σ H s ->
 (∀j H1 s1 e s2,Inv X pins j H1 s1->CX2 X.prog X.w X.stack H1 s1 (E j) e s2->X.xe e s2)->t E D σ H->av (model X.prog X.w) X.A (execs sts X.env) (SP X pins D) X.xe s
section
variable{X:Cx}{st:Stmt}{sts:List Stmt}{k:Nat}{f C:Addr}{fd:cA}{ps ks:List Str}{sp:Sp}{dvs:List V}{ds:List Value}{x m:Str}{p pos apos:Pos}{e o:Expr}{es:List Expr}{ta:TE}{t tk:TA}{kws:List dL}{g:List Value->List Value->List Value}{gV:List V->List V->List V}
def QX.imp{t t':(St->XK)->TS}(h:QX X st t)(i:∀E D σ H,t' E D σ H->t E D σ H):QX X st t':=λpins s σ H D E I j q=>h pins s σ H D E I j (i E D σ H q)
def qxs_one{t:(St->XK)->TS}(h:QX X st t):QXs X [st] t:=λpins s σ H D E I j q=>jo (thn (h pins s σ H D E I j q) λf s1 q=>by
 grind[fK])
def qx_set(G:X.N.Nodup)(hi:X.N[i]?=some x)(J:Loc X.env.scope x)(he:QXE X e te)(hs:cp e (some (.Name x pos')) pos.line X.env=pure false:=by rfl)(hf:X.fn x=true\/X.env.scope.names.lookup x=some .local:=by first | exact .inl rfl | exact .inr rfl | assumption) :
  QX X (.Assign [.Name x pos'] e pos) (λE D σ H=>tAsg (te (E σ)) (QjH i) D σ H):=λpins s σ H D E I j h =>
 wpAny_Assign_Name (thn (he pins s σ H _ (E σ) I (λH1 s1 e s2=>j σ H1 s1 e s2) h) λv s1 ⟨y,H1,m,B,L⟩=>Qde m G hi J B (λs2 M=>⟨_,H1,M,L⟩) hf) hs
def run_fnQ(F:FnOk X.prog X.w X.K X.mg X.base (CX2 X.prog X.w) k f fd ps sp)(J:Room k X.A)(G:KBinds X.K fd ps ks g gV)(I:Inv X pins σ H s)(O:∀e s2,CX2 X.prog X.w X.stack H s E e s2->X.xe e s2)(r:Vals vs us)(U:Vals zs ws)(h:sp (gV vs zs) H Q E):av (model X.prog X.w) X.A (call (.ref f) us (ks.zip ws)) (EP X pins σ Q) X.xe s:=by
 have m:=G.rel r U;have B:(g us ws).length=ps.length:=by rw[<-m.length];exact F.len _ _ _ _ h
 refine g0 (dP (F.run X.A X.stack s H ⟨us,ks.zip ws⟩ (g us ws) (gV vs zs) Q E J I.env0 (G.to s us ws I.kIn B) m h) λr s' j=>?_);rcases r with e | (_ | _ | _ | u)
 .exact O e s' j
 all_goals first | exact I.after j | exact cB j
def Qou(G:YQ X.K fd ps ds)(hd:Vals dvs ds):KBinds X.K fd ps [] (λus _=>us++ds) (λvs _=>vs++dvs):=⟨λs us _ X j=>G s us X j,λr _=>r.append hd⟩
def qxe_call(F:FnOk X.prog X.w X.K X.mg X.base (CX2 X.prog X.w) k f fd ps sp)(O:Room k X.A)(U:Gl X x)(hm:X.mg x=some (.ref f))(Y:bN X.K (.ref f)=true)(hb:YQ X.K fd ps ds)(hd:Vals dvs ds)(ha:PA X (e::es) t)(G:(x==("__debug__":Str))=false:=by decide)(he:ai (e::es) X.env=(false,eval e X.env)::ai es X.env:=by rfl)(J:(bB pos (ai es X.env)).any (·.1)=false:=by rfl) :
  QXE X (.Call (.Name x p) (e::es) [] pos) (λE=>QoX sp dvs E t):=by
 intro pins s σ H Q E I m h;refine eI (QdL I U hm ?_ G);refine io (h₀:=X.base) I.ok.mod.kin Y (thn (ha pos pins s σ H _ I h) λus s1 ⟨vs,H1,j,r,q⟩=>⟨j.kIn,?_⟩) he J;exact run_fnQ (ws:=[]) (zs:=[]) F O (Qou hb hd) j (λe s2=>m H1 s1 e s2 j) r .nil q
def ps_tryX{body suite:List Stmt}{b₀:Stmt}{rest:List ll}{i:Nat}{n:Str}{np G:Pos}{D:Addr}{tb:(St->XK)->TS}(O:X.stack=X.env::X.outer)(U:X.env.frame=some X.env.locals)(hex:X.ex=[])(hb:∀xe,QXs (X.wish xe) body tb)(hg:Gl X x)(hm:X.mg x=some (.ref D))(hD:XCat X.K D)(hN:X.N.Nodup)(hi:X.N[i]?=some n)(hl:X.env.scope.names.lookup n=some .local)(Y:(x==("__debug__":Str))=false:=by decide) :
  PS X (.Try body (.ExceptHandler (some (.Name x np)) (some n) (b₀::suite) G::rest) [] [] pos) (λDs σ H=>tb (λσ'=>Qmz X D (b₀::suite) i Ds σ') Ds σ H):=by
 intro pins s σ H Ds I h;have w:=hb (λe j=>av (model X.prog X.w) X.A (fh e X.env) (λ_ m=>av (model X.prog X.w) X.A (lr e none) (λ_ B=>av (model X.prog X.w) X.A (handleBy e X.env (.ExceptHandler (some (.Name x np)) (some n) (b₀::suite) G::rest)) (SP X pins Ds) X.xe B) X.xe m) X.xe j)
  pins s σ H Ds (λσ'=>Qmz X D (b₀::suite) i Ds σ') (I.wish _) (λL H1 s1 e s2 J E=>caughtX J.unwish O U hex E hg hm hD hN hi hl Y) h
 refine wpAny_Try_except (thn w λfl s1 q=>?_);have q:=q.unwish;cases fl with
 |next=>exact fK q
 |_=>exact q
end
end L2
namespace L2
open PySem PySem.Spec PySem.Calls PyProof.Rows PySem.W PySem.Builtin PySem.Builtin.ObjectAttr PySem.Builtin.Getset_descriptor L2.PM
section
variable{prog:aN}{w:bg}{A:bG}{E:Value->ap->Prop}{s:ap}{K:Frag}{x D:Addr}{ox:Obj}{od:Option Obj}{name:Str}{v:Value}
def xget{expr:Bool}{Q:Value->ap->Prop}(X:K.In s.heap)(I:InstAt s.heap x ox D od)(C:XCl K D)(hf:findObj K D od name=some (.value v))(G:handedIn v=true)(J:Q v { s with toks:=s.toks+1 }):av (model prog w) A (getAttr (.ref x) name expr) Q E s:=by
 have O:OfC x D s.heap:=⟨ox,I.at_,I.cls⟩
 have L:=I.type (M:=model prog w);have B:=eX (M:=model prog w) X C.ga;have L2:=eX (M:=model prog w) X C.gn;have H:=looks_find (M:=model prog w) X I hf;obtain⟨h,g,d,t,os⟩:=s;have T:=F.attr_ValueError.ga.bind (.ref x);have j:(iP "BaseException.__getattribute__"==iP "object.__getattribute__")=false:=by decide+kernel
 have m:(onTheHeap (cr D)&&iP "BaseException.__getattribute__"==iP "object.__getattribute__")=false:=by rw[j];rfl
 unfold getAttr getAttrBy;refine aa (wpAny_mkText (bd (aa (L.at (aa (B.at ?_))))));dsimp only;rw[ar (by rw[m];decide)];repeat (any_goals (first | assumption | with_reducible refine Looks.at L2 ?_ | with_reducible refine Looks.at L ?_ | wp_step))
 rw[ar (by cases expr<;>decide+kernel)];repeat (any_goals (first | assumption | with_reducible refine Looks.at L ?_ | wp_step))
 refine dz F.attr_ValueError.ga.plain F.entry_bexc_ga (QjW (s:=⟨h,g,d,t+1,os⟩) X O C ?_);show av _ _ (iJ.«object.__getattribute__» ⟨[.ref x,.str name t],[]⟩) _ _ _;unfold iJ.«object.__getattribute__»;repeat (any_goals (first | assumption | with_reducible refine Looks.at H ?_ | with_reducible refine Looks.at L ?_ | wp_step))
 show av _ _ (handedOut v) _ _ _;rw[handedOut_of G];exact af J
end
structure XFld (K:Frag) (C:Addr) (f:Str):Prop where
 cl:XCl K C
 no:eQ K (.ref C) f=some none
 hd:hasDictIn K C=true
def tXFld(K:Frag)(f:Str)(ta:TE):TE:=λσ H Q=>ta σ H λx H1=>∃a C dx fs v,x = .ref a/\ObjAt K H1 a C dx fs/\XFld K C f/\fs.lookup f=some v/\Q v H1
section
variable{X:Cx}{e:Expr}{f:Str}{pos:Pos}{ta:TE}
def Qfl{P:aN}{w:bg}{H:Hp}{h:Heap}{K:Frag}{a C dx:Addr}{fs:List (Str×V)}(x:ObjAt K H a C dx fs)(hok:HOk P w H h):∃(ox od:Obj)(mA:Str->Option Value),W.InstAt h a ox C (some od)/\(∀name,lookIn name od=some (mA name))/\∀f,RelO (fs.lookup f) (mA f):=by
 cases x with
 |ins h1 h2 =>
  obtain⟨mA,O,r,_⟩:=ins_get hok h1;obtain⟨od,J,l⟩:=O.look;exact⟨_,od,mA,J,l,r⟩
 |exc h1 h2 m =>
  obtain⟨⟨o,vs,k1,k2,k3,j⟩,_⟩:=hok _ _ h1;obtain⟨mA,n,r⟩:=hok _ _ h2;obtain⟨od,ho,l⟩:=Qhy n;exact⟨o,od,mA,⟨k1,k2,by unfold notCls;rw[j],by rw[k3];exact ho⟩,l,r⟩
def pe_xfld(he:PE X e ta)(G:cQ e f X.env (eval e X.env)=eval e X.env:=by rfl):PE X (.Attribute e f pos) (tXFld X.K f ta):=by
 intro pins s σ H Q I h;refine attr_of G (thn (he pins s σ H _ I h) λu s1 ⟨x,H1,j,B,a,C,dx,fs,v,ex,D,c,l,q⟩=>?_);subst ex;obtain rfl:u=cr a:=B;obtain⟨ox,od,mA,J,lk,r⟩:=Qfl D j.hok;obtain⟨L,E,m⟩:=RelO.some_of (v:=v) (o:=mA f) (by grind);exact xget j.kIn J c.cl (findObj_own c.hd c.no rfl (by rw[lk,E])) (QoB m) ⟨v,H1,j.tok _,m,q⟩
end
structure XIs (K:Frag) (C:Addr) (d:Value) (b:Bool):Prop where
 cl:XCl K C
 one:kitOne K (.ref C) d=some b
def QkU(hd:∀u,RelV dv u->u=d):Qah X (.builtin "isinstance") (λvs H Q=>∃a C dx fs b,vs=[.ref a,dv]/\ObjAt X.K H a C dx fs/\XIs X.K C d b/\Q (.bl b) H):=by
 intro pins s σ H vs us Q I rs h1;obtain⟨a,C,dx,fs,b,rfl,o,h,h2⟩:=h1;obtain⟨u,B,rfl,m,j⟩:=vals2 rs;obtain rfl:=hd _ j;obtain rfl:u=cr a:=m;obtain⟨ox,od,mA,J,_⟩:=Qfl o I.hok;exact kia_one (Qky h.cl) I.kIn ⟨ox,J.at_,J.cls⟩ h.one (by grind) λtk=>⟨.bl b,H,I.tok tk,rfl,h2⟩
end L2
namespace L2.PM
open PySem PySem.Spec PyProof.Rows
section
variable{X:Cx}{e:Expr}{es:List Expr}{ms:List Nat}{m:MEx}{ma:PEnv->Option (List PV)}{C:Addr}{f x:Str}{p p2 p3 pos:Pos}{k:Nat}
theorem QmB{K:ac}{F:Hp}{f:Str}:∀{ks:List Str}{ps:List PV}{vs:List V}{p:PV},ks.length=vs.length->RepL K F ps vs->(ks.zip ps).lookup f=some p->∃v,(ks.zip vs).lookup f=some v/\Rep K F p v
 |[],_,_,_,_,_,h=>by simp at h
 |k::ks,[],_,_,_,_,h=>by simp at h
 |k::ks,q::ps,vs,p,B,j,h=>by
  unfold RepL at j;obtain⟨v,t,rfl,h2,D⟩:=j;simp only[List.zip_cons_cons,bn]at h |-;cases m:f==k with
  |true=>rw[m]at h;cases h;exact⟨v,rfl,h2⟩
  |false=>rw[m]at h;exact QmB (by simpa using B) D h
def one?:List PV->Option PV
 |[p]=>some p
 |_=>none
def one_get{p:PV}(h:one? G=some p):G=[p]:=by
 unfold one? at h;grind
def Qgc{K:ac}{F:Hp}{p:PV}{vs:List V}(h:RepL K F [p] vs):∃v,vs=[v]/\Rep K F p v:=by
 unfold RepL at h;obtain⟨v,r,rfl,h2,j⟩:=h;unfold RepL at j;exact⟨v,by rw[j],h2⟩
def fldX(Cs:List Addr)(f:Str):PV->Option PV
 |.obj D ks ps=>if Cs.contains D=true then (ks.zip ps).lookup f else none
 |_=>none
def mFldX(Cs:List Addr)(f:Str)(m:MEx):MEx:=λγ=>(m γ).bind (fldX Cs f)
def em_fldX(h:EM X ms e m)(G:∀D,Cs.contains D=true->XFld X.K D f)(J:cQ e f X.env (eval e X.env)=eval e X.env:=by rfl):EM X ms (.Attribute e f pos) (mFldX Cs f m) :=
 PE.imp (pe_xfld h J) λσ H Q ⟨F,γ,r,k1,k2,k3,w⟩=>by
  obtain⟨q,e1,e2⟩:=Qe k3;refine⟨F,γ,q,k1,k2,e1,λv H1 T j B=>?_⟩;cases q with
  |obj D ks ps =>
   obtain⟨E,e2⟩:=Yx e2;obtain⟨a,dx,vs,rfl,h2,I,L⟩:=B;obtain⟨M,l,O⟩:=QmB I L e2;exact⟨a,D,dx,_,M,rfl,h2.mono j.sub,G D E,l,w _ _ _ j O⟩
  |_=>cases e2
def isX(tab:List (Addr×Bool)):PV->Option PV
 |.obj D _ _=>(tab.lookup D).map .bl
 |_=>none
def mIsX(tab:List (Addr×Bool))(m:MEx):MEx:=λγ=>(m γ).bind (isX tab)
def QkB(G:∀D b,tab.lookup D=some b->XIs X.K D d b)(z:tM X.K ms (mIsX tab m) σ H Q) :
  tM X.K ms m σ H λv H1=>∃a C dx fs b,[v,dv]=[.ref a,dv]/\ObjAt X.K H1 a C dx fs/\XIs X.K C d b/\Q (.bl b) H1:=by
 obtain⟨F,γ,r,k1,k2,k3,w⟩:=z;obtain⟨q,e1,e2⟩:=Qe k3;refine⟨F,γ,q,k1,k2,e1,λv H1 I j B=>?_⟩;cases q with
 |obj D ks ps =>
  obtain⟨b,E,rfl⟩:=QN (e2);obtain⟨a,dx,vs,rfl,h2,J,L⟩:=B;exact⟨a,D,dx,_,b,rfl,h2.mono j.sub,G D b E,(w.go j).here j.sub (Ya _)⟩
 |_=>cases e2
def QgV(G:∀D b,tab.lookup D=some b->XIs X.K D (.ref T) b)(h:EM X ms e m)(hg:Gl X "isinstance")(hm:X.mg "isinstance"=none)(O:Gl X x)(U:X.mg x=some (.ref T))(Y:(x=="__debug__")=false:=by decide)(J:ai (e::[.Name x p3]) X.env=(false,eval e X.env)::ai [.Name x p3] X.env:=by rfl)(hs2:ai [.Name x p3] X.env=(false,eval (.Name x p3) X.env)::ai [] X.env:=by rfl)(hpl:(bB pos (ai [.Name x p3] X.env)).any (·.1)=false:=by rfl) :
  EM X ms (.Call (.Name "isinstance" p2) [e,.Name x p3] [] pos) (mIsX tab m) :=
 PE.imp (YX (QkU (dv := .ref T) λ_ z=>z) hg hm (by kernel_rfl) (ZF h (ZF (Qiz (v := .ref T) O U rfl Y) Qbf hs2) J) (by decide) (by decide) J hpl) λσ H Q z=>QkB G z
def em_isXB(G:∀D b,tab.lookup D=some b->XIs X.K D (.type T) b)(h:EM X ms e m)(hg:Gl X "isinstance")(hm:X.mg "isinstance"=none)(O:Gl X x)(U:X.mg x=none)(Y:cy x=some (.type T))(hn:x≠"__name__":=by decide)(hdb:(x=="__debug__")=false:=by decide)(J:ai (e::[.Name x p3]) X.env=(false,eval e X.env)::ai [.Name x p3] X.env:=by rfl)(hs2:ai [.Name x p3] X.env=(false,eval (.Name x p3) X.env)::ai [] X.env:=by rfl)(hpl:(bB pos (ai [.Name x p3] X.env)).any (·.1)=false:=by rfl) :
  EM X ms (.Call (.Name "isinstance" p2) [e,.Name x p3] [] pos) (mIsX tab m) :=
 PE.imp (YX (QkU (dv := .ty T) λ_ z=>z) hg hm (by kernel_rfl) (ZF h (ZF (Qna (v := .ty T) O U Y rfl hn hdb) Qbf hs2) J) (by decide) (by decide) J hpl) λσ H Q z=>QkB G z
end
def Wx(K:ac)(F H:Hp)(E:XK):PV->Prop
 |.obj C ks ps=>∀dx vs H' F',Grow F H F' H'->F' dx=some (.xd (ks.zip vs))->ks.length=vs.length->RepL K F' ps vs->E (.ref C) (some dx) H'
 |_=>False
def Wr(K:ac)(F H:Hp)(Q:VK)(E:XK):PV ⊕ PV->Prop
 |.inl r=>Wv K F H r Q
 |.inr p=>Wx K F H E p
def spR(K:ac)(n:Nat)(g:List PV->Option (PV ⊕ PV)):Sp:=λvs H Q E=>vs.length=n/\∃F j o,Same F H/\RepL K F j vs/\g j=some o/\Wr K F H Q E o
abbrev MStR:=PEnv->Option (Out ⊕ PV)
def OutROk(K:ac)(B F₀:Hp)(D:Ends)(E:XK):Out ⊕ PV->Prop
 |.inl o=>Qpr K B F₀ D o
 |.inr p=>Wx K F₀ B E p
def tMR(K:ac)(E:XK)(m:MStR):TS:=λD σ H=>∃B F₀ F γ o,SR K B F₀ F σ H γ/\m γ=some o/\OutROk K B F₀ D E o
def RM(X:Cx)(E:XK)(st:Stmt)(m:MStR):Prop:=PS X st (tMR X.K E m)
def RMs(X:Cx)(E:XK)(sts:List Stmt)(m:MStR):Prop:=PSs X sts (tMR X.K E m)
section
variable{X:Cx}{E:XK}{st:Stmt}{sts:List Stmt}{e c:Expr}{es:List Expr}{ms:List Nat}{pos p2:Pos}{s1 s2:MStR}
def _root_.L2.PS.noX(h:PS X.nox st t):PS X st t:=λpins s σ H D I hw=>b8 (h pins s σ H D (I.wish _) hw) (λ_ _ q=>q.unwish) λ_ _ z=>cB z
def Xh(m:MSt):MStR:=λγ=>(m γ).map .inl
def QbZ(h:SM X.nox st m):RM X E st (Xh m):=PS.imp (PS.noX h) λD σ H ⟨B,F₀,F,γ,o,S,e,ok⟩=>by
 obtain⟨j,e1,rfl⟩:=QN e;exact⟨B,F₀,F,γ,j,S,e1,ok⟩
def Xs(h:SMs X.nox sts m):RMs X E sts (Xh m):=PSs.imp (PSs.nox h) λD σ H ⟨B,F₀,F,γ,o,S,e,ok⟩=>by
 obtain⟨j,e1,rfl⟩:=QN e;exact⟨B,F₀,F,γ,j,S,e1,ok⟩
def rSeq(s1 s2:MStR):MStR:=λγ=>(s1 γ).bind λo=>match o with
 |.inl (.nx γ')=>s2 γ'
 |o=>some o
def ZR(h:RM X E st s1)(G:RMs X E sts s2):RMs X E (st::sts) (rSeq s1 s2):=PSs.imp (Qbz h G) λD σ H ⟨B,F₀,F,γ,o,S,e,ok⟩=>by
 obtain⟨j,e1,e2⟩:=Qe e;refine⟨B,F₀,F,γ,j,S,e1,?_⟩;rcases j with(γ' | p | xs | γ' | γ') | p
 .exact λσ' H' F' m=>⟨B,F₀,F',γ',o,m,e2,ok⟩
 all_goals (cases e2;exact ok)
def Qas(h:RM X E st s1):RMs X E [st] s1:=QdI h
def rIf(t:PEnv->Option Bool)(s1 s2:MStR):MStR:=λγ=>(t γ).bind λk=>if k=true then s1 γ else s2 γ
def Qjw(hc:TM X.nox ms c t)(G:RMs X E xs s1)(J:RMs X E ys s2):RM X E (.If c xs ys pos) (rIf t s1 s2):=PS.imp (ps_if (PT.nox hc) G J) λD σ H ⟨B,F₀,F,γ,o,S,e,ok⟩=>by
 obtain⟨k,e1,e2⟩:=Qe e;obtain⟨j,S1,I,m⟩:=S.see ms;refine⟨j,γ,k,S1.sub,m,e1,λH' F' g=>?_⟩;cases k with
 |true=>exact⟨B,F₀,F,γ,o,S.same g.same,e2,ok⟩
 |false=>exact⟨B,F₀,F,γ,o,S.same g.same,e2,ok⟩
def Qch(ms:List Nat)(C:Addr)(f:Str)(ma:PEnv->Option (List PV)):MStR:=λγ=>(ma γ).bind λj=>(one? j).map λp=>.inr (.obj C [f] [p])
def Qaj(O:QfQ X E)(hex:X.ex=[])(M:XMk X C f k)(U:Room (k+1) X.A)(Y:Gl X x)(hm:X.mg x=some (.ref C))(hb:fT X.K C (.type "BaseException")=some true)(ht:PySem.W.typeIn X.K (.ref C)=some (.type "type"))(ha:AM X ms (e::es) ma)(G:(x=="__debug__")=false:=by decide)(he:ai (e::es) X.env=(false,eval e X.env)::ai es X.env:=by rfl)(J:(bB cpos (ai es X.env)).any (·.1)=false:=by rfl) :
  RM X E (.Raise (some (.Call (.Name x np) (e::es) [] cpos)) none pos) (Qch ms C f ma):=PS.imp (Qoh O hex M U Y hm hb ht ha G he J) λD σ H ⟨B,F₀,F,γ,o,S,e,ok⟩=>by
 obtain⟨Q,e1,e⟩:=Qe e;obtain⟨p,e2,rfl⟩:=QN e;obtain rfl:=one_get e2;obtain⟨j,S1,T,m⟩:=S.see ms;refine⟨j,γ,[p],S1.sub,m,e1,λvs H' F' g q=>?_⟩;obtain⟨v,rfl,I⟩:=Qgc q;refine⟨v,rfl,λdx nd=>?_⟩;have L:=(S1.grow g).gr.trans (Grow.laid (o := .xd [(f,v)]) g.sub nd);exact ok dx [v] _ _ L Qk rfl (.cons (I.mono λb u q=>by rw[Qj (Ql (g.sub _ _ q) nd)];exact q) .nil)
end
def outR:Out ⊕ PV->Option (PV ⊕ PV)
 |.inl o=>(outV o).map .inl
 |.inr p=>some (.inr p)
def runR(N n:Nat)(m:MStR)(ps:List PV):Option (PV ⊕ PV):=if ps.length=n then (m (QK N ps)).bind outR else none
def Qby:∀ps r,runR N n m ps=some r->ps.length=n:=λps r h=>by
 grind[runR]
section
variable{P:aN}{w:bg}{K:ac}{mg:Str->Option Value}{base:Heap}
def QkH(h:spR K n (runR N.length n m) vs H Q E):tMR K E m { nx:=λ_ H'=>Q .non H',rt:=Q } (Xg N vs) H:=by
 obtain⟨J,F,L,o,h1,h2,D,j⟩:=h;obtain⟨_,D⟩:=Yx D;obtain⟨B,e1,e2⟩:=Qe D;refine⟨H,F,F,_,B,Qdf h1 h2,e1,?_⟩;rcases B with B | p
 .obtain⟨r,e3,rfl⟩:=QN (e2);cases B with
  |nx γ=>cases e3;exact λσ' H' F' S=>j .non H' F' S.gr QmN
  |rt p=>cases e3;exact λv H' F' g q=>j v H' F' g q
  |ro xs=>cases e3;exact λa vs H' F' g n G I q=>Wv.of_lst j a vs H' F' g n G I q
  |bk γ=>cases e3
  |ct γ=>cases e3
 .cases e2;exact j
def fnR{st:Stmt}(O:Fun K x qual st f fd)(U:FnScope N ps (Qc st))(hn:ps.length=n)(J:∀G A outer s H E,Room k (A.deeper (cH qual (Qc st) s.heap.objs.size f G)) ->
   RMs (cxOf (CX2 P w) P w K mg base N qual (Qc st) f G A outer s H E) E (Qy st) m):FnOk P w K mg base (CX2 P w) (k+1) f fd ps (spR K n (runR N.length n m)):=by
 obtain⟨I,od,kV,doc,L,an,G,ct,B,rfl,lk,j⟩:=O.ex;exact Qpk lk j U (λvs H Q E h=>by rw[h.1,hn]) λA outer s H vs Q E D h=>⟨_,J G A outer s H E D,QkH h⟩
def fnRD{st:Stmt}(O:FunD K x qual st f fd j)(U:FnScope N ps (Qc st))(hn:ps.length=n)(J:∀G A outer s H E,Room k (A.deeper (cH qual (Qc st) s.heap.objs.size f G)) ->
   RMs (cxOf (CX2 P w) P w K mg base N qual (Qc st) f G A outer s H E) E (Qy st) m):FnOk P w K mg base (CX2 P w) (k+1) f fd ps (spR K n (runR N.length n m)):=by
 obtain⟨T,L,od,kV,doc,M,an,G,ct,D,rfl,lk,B,_⟩:=O.ex;exact Qpk lk B U (λvs H Q E h=>by rw[h.1,hn]) λA outer s H vs Q E I h=>⟨_,J G A outer s H E I,QkH h⟩
end
def CalZ(P:aN)(w:bg)(K:ac)(mg:Str->Option Value)(base:Heap)(k:Nat)(x:Str)(n:Nat)(g:List PV->Option (PV ⊕ PV)):Prop :=
 ∃f fd ps,FnOk P w K mg base (CX2 P w) k f fd ps (spR K n g)/\mg x=some (.ref f)/\bN K (.ref f)=true/\YQ K fd ps []
def kwG{α:Type}(us ws:List α):List α:=if us.length=1/\ws.length=1 then us++ws else []
def Qpt(P:aN)(w:bg)(K:ac)(mg:Str->Option Value)(base:Heap)(k:Nat)(x y:Str)(j:Int)(g:List PV->Option (PV ⊕ PV)):Prop :=
 ∃f fd ps,FnOk P w K mg base (CX2 P w) k f fd ps (spR K 2 g)/\mg x=some (.ref f)/\bN K (.ref f)=true/\YQ K fd ps []/\(∃tk ,YQ K fd ps [.int j tk])/\KBinds K fd ps [y] kwG kwG
def Qpt.cal{K:ac}(c:Qpt P w K mg base k x y j g):CalZ P w K mg base k x 2 g:=by
 obtain⟨f,fd,ps,h1,h2,m,B,_⟩:=c;exact⟨f,fd,ps,h1,h2,m,B⟩
abbrev MStQ:=PEnv->Option (Out ⊕ (PEnv×PV))
def OutQOk(K:ac)(B F₀:Hp)(D:Ends)(E:St->XK):Out ⊕ (PEnv×PV)->Prop
 |.inl o=>Qpr K B F₀ D o
 |.inr (γ,.obj C ks ps)=>∀σ H F dx vs,SR K B F₀ F σ H γ->F dx=some (.xd (ks.zip vs))->ks.length=vs.length->RepL K F ps vs->E σ (.ref C) (some dx) H
 |.inr _=>False
def tMQ(K:ac)(m:MStQ):(St->XK)->TS:=λE D σ H=>∃B F₀ F γ o,SR K B F₀ F σ H γ/\m γ=some o/\OutQOk K B F₀ D E o
def QM(X:Cx)(st:Stmt)(m:MStQ):Prop:=QX X st (tMQ X.K m)
def QMs(X:Cx)(sts:List Stmt)(m:MStQ):Prop:=QXs X sts (tMQ X.K m)
section
variable{X:Cx}{st:Stmt}{sts:List Stmt}{e c:Expr}{es:List Expr}{ms ns:List Nat}{pos p p2 p3:Pos}{s1 s2:MStQ}{ma:PEnv->Option (List PV)}{m:MEx}{x y z:Str}{k n i:Nat}{g:List PV->Option (PV ⊕ PV)}{j:Int}
def qs_one(h:QM X st s1):QMs X [st] s1:=qxs_one h
def qSet(ms:List Nat)(i:Nat)(g:List PV->Option (PV ⊕ PV))(ma:PEnv->Option (List PV)):MStQ:=λγ=>(ma γ).bind λj=>(g j).map λo=>match o with
 |.inl r=>.inl (.nx ((Qw (flat r) ms γ).set i (.fz r)))
 |.inr p=>.inr (frz ms γ,p)
def Qog{K:ac}(S:SR K B F₀ F σ H γ)(S1:SR K B F₀ J σ H (PM.frz ms γ))(gr:Grow J H F' H')(O:(match r with | .inl r=>.inl (.nx ((Qw (flat r) ms γ).set i (.fz r))) | .inr p=>.inr (frz ms γ,p))=o)(ok:OutQOk K B F₀ D E o) :
  Wr K F' H' (λv H2=>D.nx (σ.set i (some v)) H2) (E σ) r:=by
 subst O;cases r with
 |inl r =>
  intro v H2 F2 j m;obtain⟨I,L,G⟩:=S.val S1 (gr.trans j) m;exact ok _ _ I (L.setFz i G)
 |inr p =>
  cases p with
  |obj C ks ps=>exact λdx vs H2 F2 j M m G=>ok σ H2 F2 dx vs (S1.grow (gr.trans j)) M m G
  |_=>exact ok
def qm_set(O:X.N.Nodup)(hi:X.N[i]?=some y)(U:Loc X.env.scope y)(c:CalZ X.prog X.w X.K X.mg X.base k x n g)(hn:∀ps r,g ps=some r->ps.length=n)(Y:Room k X.A)(hg:Gl X x)(ha:AM X ms (e::es) ma)(G:(x==("__debug__":Str))=false:=by decide)(he:ai (e::es) X.env=(false,eval e X.env)::ai es X.env:=by rfl)(J:(bB p3 (ai es X.env)).any (·.1)=false:=by rfl)(hs:cp (.Call (.Name x p) (e::es) [] p3) (some (.Name y p2)) pos.line X.env=pure false:=by rfl)(hf:X.fn y=true\/X.env.scope.names.lookup y=some .local:=by first | exact .inl rfl | exact .inr rfl | assumption) :
  QM X (.Assign [.Name y p2] (.Call (.Name x p) (e::es) [] p3) pos) (qSet ms i g ma):=by
 obtain⟨f,fd,ps,F,hm,m,I⟩:=c;refine QX.imp (qx_set O hi U (qxe_call F Y hg hm m I .nil ha G he J) hs hf) λE D σ H ⟨B,F₀,F,γ,o,S,e,ok⟩=>?_;obtain⟨j,e1,e⟩:=Qe e;obtain⟨r,e2,L⟩:=QN e;obtain⟨M,S1,T,Q⟩:=S.see ms;refine⟨M,γ,j,S1.sub,Q,e1,λvs H' F' gr q=>?_⟩;rw[bQ];exact⟨by rw[q.length];exact hn _ _ e2,F',j,r,gr.sub,q,e2,Qog S S1 gr L ok⟩
def SR.unset{K:ac}{B F₀ F H:Hp}{σ:St}{γ:PEnv}(S:SR K B F₀ F σ H γ)(i:Nat):SR K B F₀ F (σ.set i none) H (γ.set i .un):=by
 have ne:∀{k:Nat}{x:Slot},(γ.set i .un)[k]?=some x->x≠.un->k≠i/\γ[k]?=some x:=λ{k x} e z=>by
  have j:k≠i:=λh=>by
   subst h;rw[lz]at e;simp at e;exact z e.2.symm
  rw[ah (Ne.symm j)]at e;exact⟨j,e⟩
 refine⟨S.sub,S.base,S.f0,S.fb,by simpa using S.len,λk p e=>?_,λk xs e=>?_,λk l xs ys a m e1 e2 e3=>?_,S.dq.set i (λkvs h=>by cases h)⟩
 .obtain⟨j,e⟩:=ne e (by intro h;cases h);rw[ah (Ne.symm j)];exact S.fz k p e
 .obtain⟨j,e⟩:=ne e (by intro h;cases h);rw[ah (Ne.symm j)];exact S.ow k xs e
 .obtain⟨j,e1⟩:=ne e1 (by intro h;cases h);obtain⟨D,e2⟩:=ne e2 (by intro h;cases h);rw[ah (Ne.symm j)]at e3;rw[ah (Ne.symm D)];exact S.dj k l xs ys a m e1 e2 e3
def ofCs(Cs:List Addr):PV->Bool
 |.obj D _ _=>Cs.contains D
 |_=>false
def sTry(i:Nat)(Cs:List Addr)(mb:MStQ)(sm:MSt):MSt:=λγ=>(mb γ).bind λo=>match o with
 |.inl o=>some o
 | .inr (γ1,p)=>if ofCs Cs p=true then (sm (γ1.set i (.fz p))).bind λo=>match o with
  |.nx j=>some (.nx (j.set i .un))
  |_=>none
  else none
def sm_tryX{body suite:List Stmt}{b₀:Stmt}{rest:List ll}{n x:Str}{np G:Pos}{D:Addr}{Cs:List Addr}{mb:MStQ}{sm:MSt}(J:X.stack=X.env::X.outer)(O:X.env.frame=some X.env.locals)(hex:X.ex=[])(hb:∀xe,QMs (X.wish xe) body mb)(hs:∀a,SMs (X.inH a) (b₀::suite) sm)(U:∀C,Cs.contains C=true->fT X.K C (.ref D)=some true/\fT X.K C (.type "BaseException")=some true)(hg:Gl X x)(hm:X.mg x=some (.ref D))(hD:XCat X.K D)(hN:X.N.Nodup)(hi:X.N[i]?=some n)(hl:X.env.scope.names.lookup n=some .local)(Y:(x==("__debug__":Str))=false:=by decide) :
  SM X (.Try body (.ExceptHandler (some (.Name x np)) (some n) (b₀::suite) G::rest) [] [] pos) (sTry i Cs mb sm):=PS.imp (ps_tryX (tb:=tMQ X.K mb) J O hex hb hg hm hD hN hi hl Y) λDs σ H ⟨B,F₀,F,γ,o,S,e,ok⟩=>by
 obtain⟨j,e1,e2⟩:=Qe e;refine⟨B,F₀,F,γ,j,S,e1,?_⟩;rcases j with j|⟨γ1,p⟩
 .cases e2;exact ok
 .obtain⟨I,e2⟩:=Yx e2;cases p with
  |obj C ks ps =>
   intro σ' H' F' dx vs m h1 h2 h3;obtain⟨c1,c2⟩:=U C I;refine⟨C,dx,rfl,rfl,c1,λa L=>⟨_,hs a,?_⟩⟩;have nF:F' a=none:=m.sub.free L;have M:Grow F' H' (upd F' a (excO a C dx)) (upd H' a (excO a C dx)):=Grow.laid m.sub L;have E:dx≠a:=Ql h1 nF;have T:=(m.grow M).setFz i (p := .obj C ks ps) (v := .ref a) (by
    unfold Rep;exact⟨a,dx,vs,rfl,.exc Qk (by rw[Qj E];exact h1) c2,h2,h3.mono M.ext⟩)
   obtain⟨Q,e3,e4⟩:=Qe e2;refine⟨B,F₀,_,_,Q,T,e3,?_⟩;cases Q with
   |nx γ3 =>
    cases e4;exact λσ3 H3 F3 S3=>ok _ H3 F3 (S3.unset i)
   |_=>cases e4
  |_=>cases I
end
def popK(i:Nat)(γ:PEnv)(xs:List PV):PV->Option Out
 |.int j=>if 0<=j/\j<xs.length/\xs.length<=1000 then some (.nx (γ.set i (.ow (xs.take j.toNat++xs.drop (j.toNat+1))))) else none
 |_=>none
def sPop(i:Nat)(mk:MEx):MSt:=λγ=>match γ[i]? with
 |some (.ow xs)=>(mk γ).bind (popK i γ xs)
 |_=>none
section
variable{X:Cx}{e k:Expr}{es:List Expr}{ms ns:List Nat}{m mk:MEx}{p p2 pos:Pos}{x:Str}
def sm_pop{i:Nat}{apos cpos:Pos}(U:PE X (.Name x p2) (tVar i))(ps:PS X (.Expr (.Call (.Attribute (.Name x p2) "pop" apos) [k] [] cpos) pos) (QlV (tBM X.K "list" rPopAt (tVar i) (tMA X.K ns (Qa mk aNil))))) :
  SM X (.Expr (.Call (.Attribute (.Name x p2) "pop" apos) [k] [] cpos) pos) (sPop i mk):=PS.imp ps λD σ H ⟨B,F₀,F,γ,o,S,e,ok⟩=>by
 unfold sPop at e;split at e
 .rename_i xs hi;obtain⟨I,J,e2⟩:=Qe e;cases I with
  |int j =>
   have e3:(if 0<=j/\j<xs.length/\xs.length<=1000 then some (Out.nx (γ.set i (.ow (xs.take j.toNat++xs.drop (j.toNat+1))))) else none)=some o:=e2;obtain⟨⟨L,M,Y⟩,rfl⟩:=Qt e3;obtain⟨a,vs,h1,h2,h3,_⟩:=S.ow i xs hi;obtain⟨O,S1,x1,Q⟩:=S.see ns;refine⟨.ref a,h1,Qbx (.of h2),O,γ,[.int j],S1.sub,Q,by simp[Qa,aNil,J],λus H' F' g q=>?_⟩;obtain⟨v0,rfl,G⟩:=Qgc q;unfold Rep at G;subst G;have S2:SR _ B F₀ F σ H' γ:=S.same g.same;obtain⟨a2,m,k1,k2,k3,_⟩:=S2.ow i xs hi;rw[h1]at k1;cases k1;have E:m.length=xs.length:=k3.length;have T:j.toNat<m.length:=by rw[E];omega
   refine⟨a,m,j,j.toNat,m[j.toNat],rfl,rfl,k2,by omega,?_,?_,aU T,?_⟩
   .have:j<1000:=by omega
    exact Int.lt_trans this (by decide)
   .show(if (decide (0<=(if j<0 then j+(m.length:Int) else j))&&decide ((if j<0 then j+(m.length:Int) else j)<(m.length:Int)))=true then some (if j<0 then j+(m.length:Int) else j).toNat else none)=some j.toNat;rw[ar (show ¬j<0 by omega),ak];rw[aD,c9,c9,E];exact⟨L,M⟩
   .rw[List.eraseIdx_eq_take_drop_succ];exact ok _ _ F (S2.write hi h1 ((k3.take _).append (k3.drop _)))
  |_=>cases e2
 .cases e
end
def trueOn:List PV->Option PV:=λj=>open Classical in if ∃ns:List Int,ns.length<=63/\j=[.lst (ns.map .int)] then some (.bl true) else none
def trueOn_ok(ns:List Int)(h:ns.length<=63):trueOn [.lst (ns.map .int)]=some (.bl true):=ak ⟨ns,h,rfl⟩
def trueOn_get{g:List PV->Option PV}(h:∀ns:List Int,ns.length<=63->g [.lst (ns.map .int)]=some (.bl true))(e:trueOn G=some r):g G=some r:=by
 unfold trueOn at e;split at e;all_goals grind
def exC(l:List Addr)(i:Nat):Addr:=l.getD i 0
def CalI(P:aN)(w:bg)(K:ac)(mg:Str->Option Value)(base:Heap)(k:Nat)(C:Addr)(f:Str):Prop :=
 ∃fa fd ps,FnOk P w K mg base CX0 k fa fd ps (spI C f)/\PySem.W.findIn K (.ref C) "__init__"=some (some (.ref fa))/\PySem.W.isFn K (.ref fa)=true/\YQ K fd ps []/\Qar K C=true/\bN K (.ref C)=true
def CalI.mk{X:Cx}{k:Nat}{C:Addr}{f:Str}(c:CalI X.prog X.w X.K X.mg X.base k C f):XMk X C f k:=by
 obtain⟨fa,fd,ps,h1,h2,j,m,B,D⟩:=c;exact⟨⟨fa,fd,ps,h1,h2,j,m⟩,B,D⟩
def Qov{K:ac}{x qual y:Str}{st:Stmt}{f:Addr}{fd:cA}{j:Int}{ps:List Str}(F:FunD K x qual st f fd j)(O:ps.length=2)(h:∀(dV kV doc J:Value) (an:Option Addr) (G ct d u w:Value),∃k:Option (Array Value)->Sem (List (Str×Value)),fC (cK x qual (QT st) (Qy st) (Qc st) dV kV doc J an G ct) ⟨[u],[(y,w)]⟩=seqItems? dV >>= k/\k (some #[d])=pure (ps.zip [u,w])):KBinds K fd ps [y] kwG kwG:=by
 obtain⟨T,L,od,kV,doc,J,an,G,ct,H,rfl,lk,I,tc,td,tk,M,ts,t⟩:=F.ex;refine⟨λs us ws X hz=>?_,λ{vs us zs ws} m B=>?_⟩
 .unfold kwG at hz |-;split at hz
  .rename_i c;obtain⟨D,E⟩:=c;rw[ak ⟨D,E⟩];match us,ws,D,E with
   |[u],[w],_,_ =>
    obtain⟨k,e1,e2⟩:=h (.ref T) kV doc J an G ct (.int j tk) u w;exact iM rfl (X _ _ t) rfl e1 e2
  .rw[O]at hz;cases hz
 .unfold kwG;rw[m.length,B.length];split
  .exact m.append B
  .exact .nil
end L2.PM
namespace L2
open PySem PySem.Spec PySem.Calls PyProof.Rows PySem.W L2.PM
section
variable{M:Model}{A:bG}{E:Value->ap->Prop}{s:ap}{B:Heap}{env:Env}{l outer:List Env}{L e:Addr}{cls fl:Value}{d:Option Addr}{Q:Unit->ap->Prop}
def QoH(x:FlyO B l e cls d fl s.heap)(O:∀h',FlyO B l e cls d (g.elim .none λf=>bA f) h'->s.heap.UpToSlots h'->Q () { s with heap:=h' }):av M A (lr (.ref e) g) Q E s:=by
 obtain⟨oe,vs,T,oT,ts,k1,k2,k3,L,k5,U,Y,I,H,J⟩:=x.at_;have z :=(bW.mp J).1;generalize hu:(g.elim cm λf=>bA f)=u at O;have j:∀b,b≠T->(s.heap.update T (fA (·.setIfInBounds 3 u))).get? b=s.heap.get? b:=λb q=>aX _ _ q.symm;have m:∀b o,s.heap.get? b=some o->(∀ws,o.data≠.fields ws)->b≠T:=λb o D G q3=>by
  subst q3;rw[I]at D;cases D;exact G _ H
 show av M A (field (.ref e) 1 >>= λtb=>if tb != .none then l8 tb 3 (g.elim cm λf=>bA f) else pure ()) Q E s;rw[hu];refine aa (cE k1 L k5 ?_);refine cS I H z (O _ ⟨λb o q=>(j b λw=>by subst w;rw[U]at q;cases q).trans (x.stay b o q),x.new,x.fun_.of_keeps λb o D G=>⟨o,(j b (m b o D G)).trans D,rfl⟩,?_⟩ λb o D G=>⟨o.slots,(j b (m b o D G)).trans D⟩);exact⟨oe,vs,T,_,_,(j e Y.symm).trans k1,k2,k3,L,k5,U,Y,bI _ I (dX (dg H _)),dg H _,by simp[z]⟩
def fly_same(hf:env.frame=some L)(x:FlyO B l e cls d (bA L) s.heap)(G:Q () s):av M A (fh (.ref e) env) Q E s:=by
 obtain⟨oe,vs,T,I,ts,k1,k2,k3,m,k5,J,O,D,H,j⟩:=x.at_;rw[QiB _ _ hf];refine aa (cE k1 m k5 ?_);refine aa (aa (cE D H j ?_));rw[ak (by simp)];refine af ?_;exact af G
def Up(B:Heap)(l:List Env)(L e:Addr)(cls:Value)(d:Option Addr)(h:Heap):Prop :=
 (∃oe vs,h.get? e=some oe/\oe.cls=cls/\oe.dict=d/\oe.data = .fields vs/\vs[1]?=some .none/\B.StaysIn h/\B.get? e=none/\h.FunFrames B l)\/FlyO B l e cls d .none h\/FlyO B l e cls d (bA L) h
def QmE(G:A.frames=some (env::outer))(hf:env.frame=some L)(x:Up B (env::outer) L e cls d s.heap)(J:∀h',FlyO B (env::outer) e cls d (bA L) h'->s.heap.UpToSlots h'->Q () { s with heap:=h' }):av M A (fh (.ref e) env) Q E s:=by
 rcases x with⟨oe,vs,h1,rfl,rfl,h2,j,m,D,H⟩|x | x
 .exact QhG G hf m D H h1 h2 j J
 .exact QkK G hf x J
 .exact fly_same hf x (J _ x λb o I _=>⟨o.slots,I⟩)
def Aloft(env:Env)(outer:List Env)(L:Addr)(Z:Value->ap->Prop):Value->ap->Prop:=λv s=>∃e cls d B,v = .ref e/\Up B (env::outer) L e cls d s.heap/\∀j,FlyO B outer e cls d .none j->s.heap.UpToSlots j->Z v { s with heap:=j }
def Qis(G:A.frames=some (env::outer))(hf:env.frame=some L)(x:Aloft env outer L Z v s):av M A (leaving env v) (λ_ J=>Z v J) O s:=by
 obtain⟨e,cls,d,B,rfl,u,z⟩:=x;exact aa (QmE G hf u λh' y j=>QfO y λh2 m D=>z h2 m.tail (j.trans D))
def QoW(G:A.frames=some (env::outer))(hf:env.frame=some L):gT M A env (Aloft env outer L Z):=λv s x=>by
 obtain⟨e,cls,d,B,rfl,u,z⟩:=x;refine QmE G hf u λh' y j=>?_;obtain⟨oe,vs,T,O,ts,k1,k2,k3,m,k5,_⟩:=id y.at_;refine aa (cE k1 m k5 ?_);rw[ar (by simp),hf];exact QoH y λh2 D E=>⟨e,cls,d,B,rfl,.inr (.inr D),λH I J=>z H I ((j.trans E).trans J)⟩
end
section
variable{P:aN}{w:bg}{K:ac}{mg:Str->Option Value}{base:Heap}{N:List Str}{qual:Str}{scope:dS}{f:Addr}{cd:Value}{A:bG}{outer:List Env}{s:ap}{H:Hp}{E:XK}
abbrev cxA(P:aN)(w:bg)(K:ac)(mg:Str->Option Value)(base:Heap)(N:List Str)(qual:Str)(scope:dS)(f:Addr)(cd:Value)(A:bG)(outer:List Env)(s:ap)(H:Hp)(E:XK):Cx :=
 (cxOf (CX2 P w) P w K mg base N qual scope f cd A outer s H E).wish (Aloft (cH qual scope s.heap.objs.size f cd) outer s.heap.objs.size λv s'=>CX2 P w outer H s E v s')
def Qiy:QfQ (cxA P w K mg base N qual scope f cd A outer s H E) E:=λpins σ H2 s2 a C d ob vs I h1 h2 D j m G J q =>
 Qeo I.unwish h1 h2 D j m G J q λB L st M O land=>⟨a,ob.cls,ob.dict,B,rfl,.inl ⟨ob,vs,h1,rfl,rfl,j,m,st,M,O⟩,land⟩
def Qpe:QgZ (CX2 P w) (cxA P w K mg base N qual scope f cd A outer s H E) E:=λpins σ H1 s1 e s' I j =>
 Qlk I.unwish j λa C d B he m fl land=>⟨a,.ref C,d,B,he,.inr (.inl fl),land⟩
def ownA(ok:(cxA P w K mg base N qual scope f cd A outer s H E).Ok):gT (model P w) (cxA P w K mg base N qual scope f cd A outer s H E).A (cxA P w K mg base N qual scope f cd A outer s H E).env (cxA P w K mg base N qual scope f cd A outer s H E).xe :=
 QoW ok.frames rfl
def downA(h:PSs (cxA P w K mg base N qual scope f cd A outer s H E) sts t):PSs (cxOf (CX2 P w) P w K mg base N qual scope f cd A outer s H E) sts t:=λpins s1 σ H1 D I hw =>
 b8 (h pins s1 σ H1 D (I.wish _) hw) (λ_ _ q=>q.unwish) λv s2 x=>Qis I.ok.frames rfl x
end
end L2
namespace L2.PM
open PySem PySem.Spec PyProof.Rows
section
variable{X:Cx}{E:XK}{st:Stmt}{sts:List Stmt}{e c:Expr}{es:List Expr}{ms:List Nat}{pos p p2 p3:Pos}{ma:PEnv->Option (List PV)}{x y:Str}{k n i:Nat}{g:List PV->Option (PV ⊕ PV)}
def tMZ(K:ac)(ms:List Nat)(E:XK)(g:List PV->Option (PV ⊕ PV))(ma:PEnv->Option (List PV)):TE:=λσ H Q=>∃F γ j o,Same F H/\ERep K F σ γ ms/\ma γ=some j/\g j=some o/\∀F' H',Grow F H F' H'->Wr K F' H' Q E o
def QfK(O:QgZ (CX2 X.prog X.w) X E)(c:CalZ X.prog X.w X.K X.mg X.base k x n g)(hn:∀ps r,g ps=some r->ps.length=n)(U:Room k X.A)(Y:Gl X x)(ha:AM X ms (e::es) ma)(G:(x=="__debug__")=false:=by decide)(he:ai (e::es) X.env=(false,eval e X.env)::ai es X.env:=by rfl)(J:(bB pos (ai es X.env)).any (·.1)=false:=by rfl) :
  PE X (.Call (.Name x p) (e::es) [] pos) (tMZ X.K ms E g ma):=by
 obtain⟨f,fd,ps,F,hm,m,B⟩:=c;refine PE.imp (QfJ F U Y hm m B .nil O ha G he J) λσ H Q ⟨F,γ,j,o,k1,k2,k3,D,w⟩=>?_;refine⟨F,γ,j,k1,k2,k3,λvs H' F' gr q=>?_⟩;rw[bQ];exact⟨by rw[q.length];grind,F',j,o,gr.sub,q,D,w F' H' gr⟩
def Wx.down{K:ac}{F₀ G B:Hp}{E:XK}{p:PV}(w:Wx K F₀ B E p)(h1:∀F' H',Grow G B F' H'->Grow F₀ B F' H'):Wx K G B E p:=by
 cases p with
 |obj C ks ps=>exact λdx vs H2 F2 j=>w dx vs H2 F2 (h1 _ _ j)
 |_=>exact w
def Wx.from{K:ac}{p:PV}(w:Wx K F₀ B E p)(S1:SR K B F₀ G σ H γ)(gr:Grow G H F' H'):Wx K F' H' E p:=by
 cases p with
 |obj C ks ps=>exact λdx vs H2 F2 j=>w dx vs H2 F2 (S1.grow (gr.trans j)).gr
 |_=>exact w
def rSet(ms:List Nat)(i:Nat)(g:List PV->Option (PV ⊕ PV))(ma:PEnv->Option (List PV)):MStR:=λγ=>(ma γ).bind λj=>(g j).map λo=>match o with
 |.inl r=>.inl (.nx ((Qw (flat r) ms γ).set i (.fz r)))
 |.inr p=>.inr p
def rm_set(G:X.N.Nodup)(hi:X.N[i]?=some y)(J:Loc X.env.scope y)(h:PE X e (tMZ X.K ms E g ma))(hs:cp e (some (.Name y p2)) pos.line X.env=pure false:=by rfl)(hf:X.fn y=true\/X.env.scope.names.lookup y=some .local:=by first | exact .inl rfl | exact .inr rfl | assumption) :
  RM X E (.Assign [.Name y p2] e pos) (rSet ms i g ma):=PS.imp (QeT G hi J h hs hf) λD σ H ⟨B,F₀,F,γ,o,S,e,ok⟩=>by
 obtain⟨j,e1,e⟩:=Qe e;obtain⟨r,e2,rfl⟩:=QN e;obtain⟨m,S1,U,I⟩:=S.see ms;refine⟨m,γ,j,r,S1.sub,I,e1,e2,λF' H' gr=>?_⟩;cases r with
 |inl r =>
  intro v H2 F2 L M;obtain⟨O,Q,T⟩:=S.val S1 (gr.trans L) M;exact ok _ _ O (Q.setFz i T)
 |inr p=>exact Wx.from ok S1 gr
def rRet(g:List PV->Option (PV ⊕ PV))(ma:PEnv->Option (List PV)):MStR:=λγ=>(ma γ).bind λj=>(g j).map λo=>match o with
 |.inl r=>.inl (.rt r)
 |.inr p=>.inr p
def rm_ret(h:PE X e (tMZ X.K ms E g ma)):RM X E (.Return (some e) pos) (rRet g ma):=PS.imp (QiS h) λD σ H ⟨B,F₀,F,γ,o,S,e,ok⟩=>by
 obtain⟨j,e1,e⟩:=Qe e;obtain⟨r,e2,rfl⟩:=QN e;obtain⟨m,S1,L,G⟩:=S.see ms;refine⟨m,γ,j,r,S1.sub,G,e1,e2,λF' H' gr=>?_⟩;cases r with
 |inl r=>exact λv H2 F2 I J=>ok v H2 F2 (S1.grow (gr.trans I)).gr J
 |inr p=>exact Wx.from ok S1 gr
def rExE(ms:List Nat)(g:List PV->Option (PV ⊕ PV))(ma:PEnv->Option (List PV)):MStR:=λγ=>(ma γ).bind λj=>(g j).map λo=>match o with
 |.inl r=>.inl (.nx (Qw (flat r) ms γ))
 |.inr p=>.inr p
def rm_exE(h:PE X e (tMZ X.K ms E g ma))(hs:cp e none pos.line X.env=pure false:=by rfl):RM X E (.Expr e pos) (rExE ms g ma):=PS.imp (Ys h hs) λD σ H ⟨B,F₀,F,γ,o,S,e,ok⟩=>by
 obtain⟨j,e1,e⟩:=Qe e;obtain⟨r,e2,rfl⟩:=QN e;obtain⟨m,S1,O,G⟩:=S.see ms;refine⟨m,γ,j,r,S1.sub,G,e1,e2,λF' H' gr=>?_⟩;cases r with
 |inl r =>
  intro v H2 F2 I J;obtain⟨L,M,Q⟩:=S.val S1 (gr.trans I) J;exact ok _ _ L M
 |inr p=>exact Wx.from ok S1 gr
def XH(g:PV->PEnv->Option PEnv)(b:MStR):List PV->PEnv->Option (Out ⊕ PV)
 |[],γ=>some (.inl (.nx γ))
 | x::xs,γ=>(g x γ).bind λγ1=>(b γ1).bind λo=>match o with
  |.inl (.nx j)=>XH g b xs j
  |.inl (.ct j)=>XH g b xs j
  |.inl (.bk j)=>some (.inl (.nx j))
  |o=>some o
def rFor(ms:List Nat)(mi:PEnv->Option (List PV))(g:PV->PEnv->Option PEnv)(b:MStR):MStR:=λγ=>(mi γ).bind λxs=>XH g b xs (frz ms γ)
def QoG{K:ac}{g:PV->PEnv->Option PEnv}{ts:List Nat}{sb:MStR}{D:Ends}{B F₀ F' H':Hp}{J:It}{xs:List PV}{γ1:PEnv}{σ:St}{o:Out ⊕ PV}(S1:SR K B F₀ F' σ H' γ1)(it:ItRep K J F' xs)(e2:XH g sb xs γ1=some o)(ok:OutROk K B F₀ D E o) :
  ∃W:Nat->Nat->St->Hp->Prop,(∃m,W 0 m σ H')/\∀i m σ H,W i m σ H ->
   (J.stop i H/\D.nx σ H)\/(J.go i H/\∃N:St->Hp->Prop,(∀σ' H',N σ' H'->∃U,U<m/\W (i+1) U σ' H')/\∀x H',J.yld i H x H'->tMG K ts g x σ H' λG H2=>tMR K E sb { D with nx:=N,ct:=N,bk:=D.nx } G H2):=by
 refine⟨λi m σ H=>m=xs.length-i/\i<=xs.length/\∃F γ,SR K B F₀ F σ H γ/\Same F' F/\XH g sb (xs.drop i) γ=some o,⟨xs.length,by simp,bz _,F',γ1,S1,Same.refl _,by simpa using e2⟩,?_⟩;rintro i m G H2 ⟨rfl,hi,F2,O,S2,L,e2⟩;by_cases I:i<xs.length
 .refine .inr ⟨it.go i H2 I (L.trans S2.sub),λσ H=>∃F γ,SR K B F₀ F σ H γ/\Same F' F/\XH g sb (xs.drop (i+1)) γ=some o,λσ' H' q=>⟨xs.length-(i+1),by omega,rfl,I,q⟩,λx Y y=>?_⟩;obtain⟨p,e3,hy⟩:=it.yld i H2 x Y I (L.trans S2.sub) y;obtain⟨Q,T,r3⟩:=hy F2 L S2.sub;have S3:=S2.grow T;have ed:xs.drop i=p::xs.drop (i+1):=by
   obtain⟨q1,q2⟩:=al.mp e3;rw[<-q2];exact bL q1
  rw[ed]at e2;unfold XH at e2;obtain⟨M,e4,e2⟩:=Qe e2;obtain⟨ob,e5,e2⟩:=Qe e2;refine⟨B,F₀,Q,O,p,M,S3,r3,e4,λσ4 S4 _ _=>?_⟩;have x3:Same F' Q:=L.trans T.ext;refine⟨B,F',Q,M,ob,S4.up S1.f0 x3,e5,?_⟩;rcases ob with(j | p | ys | j | j) | p
  .exact λσ H F S=>⟨F,j,S.down S1.f0 S1.fb,S.f0,e2⟩
  .cases e2;exact λv H F gr r=>ok v H F (gr.down S1.f0 S1.fb) r
  .cases e2;exact λa vs H F gr n nF hH r=>ok a vs H F (gr.down S1.f0 S1.fb) n nF hH r
  .cases e2;exact λσ H F S=>ok σ H F (S.down S1.f0 S1.fb)
  .exact λσ H F S=>⟨F,j,S.down S1.f0 S1.fb,S.f0,e2⟩
  .cases e2;exact Wx.down ok λ_ _ gr=>gr.down S1.f0 S1.fb
 .have e:i=xs.length:=by omega
  subst e;rw[eR]at e2;cases e2;exact .inl ⟨it.stop H2 (L.trans S2.sub),ok G H2 F2 S2⟩
def rm_for(G:X.Ok->gT (model X.prog X.w) X.A X.env X.xe)(hc:X.calm=true)(hi:IM X ms tg iter mi)(O:GM X ts tg gg)(U:RMs X E body sb)(hs:∀x,cb iter X.env x=pure x:=by intro _;rfl):RM X E (.For tg iter body [] pos) (rFor ms mi gg sb):=λpins s σ H D I ⟨B,F₀,F,γ,o,S,e,ok⟩=>by
 obtain⟨xs,e1,e2⟩:=Qe e;obtain⟨j,S1,L,m⟩:=S.see ms;exact QiT (G I.ok) hc hi O U hs pins s σ H D I ⟨j,γ,xs,S1.sub,m,e1,λJ H' F' gr it=>QoG (S1.grow gr) it e2 ok⟩
end
section
variable{P:aN}{w:bg}{K:ac}{mg:Str->Option Value}{base:Heap}
def fnRA{st:Stmt}(O:Fun K x qual st f fd)(U:FnScope N ps (Qc st))(hn:ps.length=n)(J:∀G A outer s H E,Room k (A.deeper (cH qual (Qc st) s.heap.objs.size f G)) ->
   RMs (cxA P w K mg base N qual (Qc st) f G A outer s H E) E (Qy st) m):FnOk P w K mg base (CX2 P w) (k+1) f fd ps (spR K n (runR N.length n m)) :=
 fnR O U hn λG A outer s H E j=>downA (J G A outer s H E j)
end
def orH(B E:Hp):Hp:=λb=>match B b with
 |some o=>some o
 |none=>E b
def Qpg:Same B (orH B E):=λb o h=>by unfold orH;rw[h]
def QdQ(n:B b=none)(h:E b=some o):orH B E b=some o:=by grind[orH]
def Qgj(h:orH B E b=none):B b=none/\E b=none:=by
 grind[orH]
def orH_of(h1:B b=none)(h2:E b=none):orH B E b=none:=by grind[orH]
def QfM(h:orH B E b=some o):B b=some o\/(B b=none/\E b=some o):=by
 grind[orH]
def Xx(γ:PEnv)(j:Nat):Option Addr:=match γ[j]? with
 |some (.fz (.opq a))=>some a
 |_=>none
def Qeb(h:Xx γ j=some a):γ[j]?=some (.fz (.opq a)):=by
 grind[Xx]
section
variable{τ:Type}
structure SX (K:ac) (P:Hp->Hp->Addr->τ->Prop) (j:Nat) (B F₀ F E:Hp) (a:Addr) (σ:St) (H:Hp) (γ:PEnv) (t:τ):Prop where
 sr:SR K (orH B E) F₀ F σ H γ
 at_:Xx γ j=some a
 own:P F E a t
 db:∀b o,E b=some o->B b=none
 df:∀b o,E b=some o->F b=none
inductive OutX (τ:Type) where
 |nx (γ:PEnv) (t:τ) | rt (p:PV) | ro (xs:List PV) | bk (γ:PEnv) (t:τ) | ct (γ:PEnv) (t:τ)
abbrev MX τ:=PEnv->τ->Option (OutX τ)
def OutXOk(K:ac)(P:Hp->Hp->Addr->τ->Prop)(j:Nat)(B F₀:Hp)(a:Addr)(D:Ends):OutX τ->Prop
 |.nx γ t=>∀σ H F E,SX K P j B F₀ F E a σ H γ t->D.nx σ H
 |.rt p=>∀v H F,Grow F₀ B F H->Rep K F p v->D.rt v H
 |.ro xs=>∀c vs H F,Grow F₀ B F H->B c=none->F c=none->H c=some (.lst vs)->RepL K F xs vs->D.rt (.ref c) H
 |.bk γ t=>∀σ H F E,SX K P j B F₀ F E a σ H γ t->D.bk σ H
 |.ct γ t=>∀σ H F E,SX K P j B F₀ F E a σ H γ t->D.ct σ H
def tMX(K:ac)(P:Hp->Hp->Addr->τ->Prop)(j:Nat)(m:MX τ):TS:=λD σ H=>∃B F₀ F E a γ t o,SX K P j B F₀ F E a σ H γ t/\m γ t=some o/\OutXOk K P j B F₀ a D o
def XM(X:Cx)(P:Hp->Hp->Addr->τ->Prop)(j:Nat)(st:Stmt)(m:MX τ):Prop:=PS X st (tMX X.K P j m)
def XMs(X:Cx)(P:Hp->Hp->Addr->τ->Prop)(j:Nat)(sts:List Stmt)(m:MX τ):Prop:=PSs X sts (tMX X.K P j m)
def Qpq(P:Hp->Hp->Addr->τ->Prop):Prop:=∀F F' E a t,Same F F'->P F E a t->P F' E a t
variable{K:ac}{P:Hp->Hp->Addr->τ->Prop}{j:Nat}{B F₀ F F' E H H':Hp}{a:Addr}{σ σ':St}{γ γ':PEnv}{t:τ}
def SX.next(S:SX K P j B F₀ F E a σ H γ t)(mono:Qpq P)(G:SR K (orH B E) F₀ F' σ' H' γ')(J:Xx γ' j=Xx γ j)(O:Same F F'):SX K P j B F₀ F' E a σ' H' γ' t:=by
 refine⟨G,J.trans S.at_,mono _ _ _ _ _ O S.own,S.db,λb o e=>?_⟩;cases q:F' b with
 |none=>rfl
 |some u =>
  rcases G.fb b u q with z | z
  .have:=S.sr.f0 b u z;rw[S.df b o e]at this;cases this
  .rw[QdQ (S.db b o e) e]at z;cases z
end
section
variable{τ:Type}{X:Cx}{K:ac}{P:Hp->Hp->Addr->τ->Prop}{j:Nat}{st:Stmt}{sts:List Stmt}{e c:Expr}{ms:List Nat}{pos p2:Pos}
def xs_one(h:XM X P j st s1):XMs X P j [st] s1:=QdI h
def Reads'(K:ac)(P:Hp->Hp->Addr->τ->Prop)(rd:τ->Option PV):Prop:=∀F E a t p,(∀b o,E b=some o->F b=none)->P F E a t->rd t=some p->Rep K (orH F E) p (.ref a)
def SX.see{B F₀ F E H:Hp}{a:Addr}{σ:St}{γ:PEnv}{t:τ}(S:SX K P j B F₀ F E a σ H γ t){rd:τ->Option PV}(O:Reads' K P rd){p:PV}(U:rd t=some p)(ms:List Nat):∃G,Same G H/\ERep K G σ (γ.set j (.fz p)) ms:=by
 obtain⟨G,S1,L,M⟩:=S.sr.see (ms.filter (· != j));have Q:∀b o,E b=some o->G b=none:=λb o e=>by
  cases q:G b with
  |none=>rfl
  |some u =>
   rcases S1.fb b u q with z | z
   .have:=S.sr.f0 b u z;rw[S.df b o e]at this;cases this
   .rw[QdQ (S.db b o e) e]at z;cases z
 have I:=Qeb S.at_;have D:j<γ.length:=(al.mp I).1;obtain⟨v,T,J⟩:=S.sr.fz j _ I;unfold Rep at J;subst J;refine⟨orH G E,λb o e=>?_,λi hi q e=>?_⟩
 .rcases QfM e with z|⟨Y,m⟩
  .exact S1.sub b o z
  .exact S.sr.base b o (QdQ (S.db b o m) m)
 .by_cases z:j=i
  .subst z;unfold getV at e;rw[au D]at e;cases e;have h0:=O F E a t p S.df S.own U;refine⟨.ref a,T,h0.mono λb o e=>?_⟩;rcases QfM e with z|⟨Y,m⟩
   .exact Qpg b o (L b o z)
   .exact QdQ (Q b o m) m
  .unfold getV at e;rw[ah z]at e;obtain⟨v,k1,k2⟩:=M i (bP.mpr ⟨hi,by simpa using λh=>z h.symm⟩) q e;exact⟨v,k1,k2.mono Qpg⟩
def SX.same(S:SX K P j B F₀ F E a σ H γ t)(e:Same H H'):SX K P j B F₀ F E a σ H' γ t:=⟨S.sr.same e,S.at_,S.own,S.db,S.df⟩
def forX(j:Nat)(g:PV->PEnv->Option PEnv)(b:MX τ):List PV->PEnv->τ->Option (OutX τ)
 |[],γ,t=>some (.nx γ t)
 | x::xs,γ,t=>(g x γ).bind λγ1=>if Xx γ1 j=Xx γ j then (b γ1 t).bind λo=>match o with
  |.nx m t2=>forX j g b xs m t2
  |.ct m t2=>forX j g b xs m t2
  |.bk m t2=>some (.nx m t2)
  |.rt p=>some (.rt p)
  |.ro ys=>some (.ro ys)
  else none
end
def frz1_fz{γ:PEnv}{i j:Nat}{p:PV}(h:γ[j]?=some (.fz p)):(PM.frz1 γ i)[j]?=some (.fz p):=by
 unfold PM.frz1;split
 .rename_i ys e;by_cases m:i=j
  .subst m;rw[h]at e;cases e
  .rw[ah m];exact h
 .rename_i ys e;by_cases m:i=j
  .subst m;rw[h]at e;cases e
  .rw[ah m];exact h
 .exact h
theorem frz_fz:∀ms {γ:PEnv} {j:Nat} {p:PV},γ[j]?=some (.fz p)->(PM.frz ms γ)[j]?=some (.fz p)
 |[],_,_,_,h=>h
 |i::ms,γ,j,p,h=>frz_fz ms (frz1_fz h)
def opq_frz{j:Nat}{γ:PEnv}{a:Addr}(ms:List Nat)(h:Xx γ j=some a):Xx (PM.frz ms γ) j=some a:=by
 have:=frz_fz ms (Qeb h);unfold Xx;rw[this]
def allB{α:Type}(f:Addr->Option α):Option α:=open Classical in if h:∃k,∀b,f b=some k then some (lQ h) else none
def allB_get(h:allB f=some k) b:f b=some k:=by
 unfold allB at h;split at h;all_goals grind
def allB_ok(h:∀b,f b=some k):allB f=some k:=by
 unfold allB;have q:∃k,∀b,f b=some k:=⟨k,h⟩
 have:=eO q 0;grind
section
variable{τ:Type}{X:Cx}{K:ac}{P:Hp->Hp->Addr->τ->Prop}{j:Nat}{ms:List Nat}{pos:Pos}
def SX.up(S:SX K P j B F₀ F E a σ H γ t)(e1:Same F₀ G)(e:Same G F):SX K P j B G F E a σ H γ t:=⟨S.sr.up e1 e,S.at_,S.own,S.db,S.df⟩
def SX.down{B F₀ F G E H:Hp}{a:Addr}{σ:St}{γ:PEnv}{t:τ}(S:SX K P j B G F E a σ H γ t)(e1:Same F₀ G)(J:∀b o,G b=some o->F₀ b=some o\/(B b=none/\E b=none)):SX K P j B F₀ F E a σ H γ t :=
 ⟨S.sr.down e1 λb o e=>(J b o e).imp id λz=>orH_of z.1 z.2,S.at_,S.own,S.db,S.df⟩
def xFor(j:Nat)(ms:List Nat)(mi:PEnv->Option (List PV))(g:PV->PEnv->Option PEnv)(b:MX τ):MX τ:=λγ t=>(mi γ).bind λxs=>forX j g b xs (frz ms γ) t
def QlC(mono:Qpq P){g:PV->PEnv->Option PEnv}{ts:List Nat}{sb:MX τ}{D:Ends}{B F₀ F' E H':Hp}{a:Addr}{J:It}{xs:List PV}{γ1:PEnv}{t:τ}{σ:St}{o:OutX τ}(S1:SX K P j B F₀ F' E a σ H' γ1 t)(it:ItRep K J F' xs)(e2:forX j g sb xs γ1 t=some o)(ok:OutXOk K P j B F₀ a D o) :
  ∃W:Nat->Nat->St->Hp->Prop,(∃m,W 0 m σ H')/\∀i m σ H,W i m σ H ->
   (J.stop i H/\D.nx σ H)\/(J.go i H/\∃N:St->Hp->Prop,(∀σ' H',N σ' H'->∃m',m'<m/\W (i+1) m' σ' H')/\∀x H',J.yld i H x H'->tMG K ts g x σ H' λO H2=>tMX K P j sb { D with nx:=N,ct:=N,bk:=D.nx } O H2):=by
 have I:∀b o,F' b=some o->F₀ b=some o\/B b=none:=λb o e=>(S1.sr.fb b o e).imp id λz=>(Qgj z).1;have dn:∀{F E H:Hp}{σ:St}{γ:PEnv}{t:τ},SX K P j B F' F E a σ H γ t->SX K P j B F₀ F E a σ H γ t:=λ{F E H σ γ t} S=>by
  refine S.down S1.sr.f0 λb o e=>?_;rcases I b o e with z | z
  .exact .inl z
  .refine .inr ⟨z,?_⟩;cases q:E b with
   |none=>rfl
   |some u =>
    have:=S.sr.f0 b o e;rw[S.df b u q]at this;cases this
 refine⟨λi m σ H=>m=xs.length-i/\i<=xs.length/\∃F E γ t,SX K P j B F' F E a σ H γ t/\forX j g sb (xs.drop i) γ t=some o,⟨xs.length,by simp,bz _,F',E,γ1,t,S1.up S1.sr.f0 (Same.refl _),by simpa using e2⟩,?_⟩;rintro i m O H2 ⟨rfl,hi,F2,U,Y,t2,S2,e2⟩;have Q:=S2.sr.f0;by_cases L:i<xs.length
 .refine .inr ⟨it.go i H2 L (Q.trans S2.sr.sub),λσ H=>∃F E γ t,SX K P j B F' F E a σ H γ t/\forX j g sb (xs.drop (i+1)) γ t=some o,λσ' H' q=>⟨xs.length-(i+1),by omega,rfl,L,q⟩,λx H3 y=>?_⟩;obtain⟨p,e3,hy⟩:=it.yld i H2 x H3 L (Q.trans S2.sr.sub) y;obtain⟨F3,g3,r3⟩:=hy F2 Q S2.sr.sub;have S3:=S2.sr.grow g3;have ed:xs.drop i=p::xs.drop (i+1):=by
   have q:=(al.mp e3)
   obtain⟨q1,q2⟩:=q;rw[<-q2];exact bL q1
  rw[ed]at e2;unfold forX at e2;obtain⟨M,e4,e2⟩:=Qe e2;obtain⟨c,e2⟩:=Yx e2;obtain⟨ob,e5,e2⟩:=Qe e2;refine⟨orH B U,F',F3,Y,p,M,S3,r3,e4,λσ4 S4 _ _=>?_⟩;have S5:=S2.next mono S4 c g3.ext
  refine⟨B,F',F3,U,a,M,t2,ob,S5,e5,?_⟩;cases ob with
  |nx G T=>exact λσ H F E S=>⟨F,E,G,T,S,e2⟩
  |ct G T=>exact λσ H F E S=>⟨F,E,G,T,S,e2⟩
  |bk G T =>
   cases e2;exact λσ H F E S=>ok σ H F E (dn S)
  |rt p =>
   cases e2;exact λv H F gr r=>ok v H F (gr.down S1.sr.f0 I) r
  |ro ys =>
   cases e2;exact λc vs H F gr n nF hH r=>ok c vs H F (gr.down S1.sr.f0 I) n nF hH r
 .have e:i=xs.length:=by omega
  subst e;rw[eR]at e2;cases e2;exact .inl ⟨it.stop H2 (Q.trans S2.sr.sub),ok O H2 F2 U (dn S2)⟩
def xm_for(mono:Qpq P)(G:gT (model X.prog X.w) X.A X.env X.xe)(hc:X.calm=true)(hi:IM X ms tg iter mi)(O:GM X ts tg g)(U:XMs X P j body sb)(hs:∀x,cb iter X.env x=pure x:=by intro _;rfl):XM X P j (.For tg iter body [] pos) (xFor j ms mi g sb):=PS.imp (QiT G hc hi O U hs) λD σ H ⟨B,F₀,F,E,a,γ,t,o,S,e,ok⟩=>by
 obtain⟨xs,e1,e2⟩:=Qe e;obtain⟨m,S1,I,L⟩:=S.sr.see ms;refine⟨m,γ,xs,S1.sub,L,e1,λJ H' F' gr it=>?_⟩;exact QlC mono (S.next mono (S1.grow gr) ((opq_frz ms S.at_).trans S.at_.symm) (I.trans gr.ext)) it e2 ok
end
abbrev DT:=List (Str×(Bool ⊕ Int))
structure DictG (F E:Hp) (a:Addr) (t:DT):Prop where
 at_:E a=some (.dK (dvK t))
 only:∀b o,E b=some o->b=a
def QaL:Qpq DictG:=λ_ _ _ _ _ _ h=>⟨h.at_,h.only⟩
def rdD(t:DT):Option PV:=some (.dcw t)
def QjN K:Reads' K DictG rdD:=λF E a t p j h e=>by
 cases e;exact⟨a,(),rfl,⟨.inl (QdQ (j _ _ h.at_) h.at_)⟩⟩
section
variable{K:ac}{B F₀ F E H:Hp}{a:Addr}{σ:St}{γ:PEnv}{t t':DT}{j:Nat}
def SX.putD(S:SX K DictG j B F₀ F E a σ H γ t):SX K DictG j B F₀ F (upd E a (.dK (dvK t'))) a σ (upd H a (.dK (dvK t'))) γ t':=by
 have I:=S.own.at_;have J:=S.db a _ I;have fa:=S.df a _ I;have O:orH B E a=some (.dK (dvK t)):=QdQ J I;have D:∀b,orH B E b=none->b≠a/\orH B (upd E a (.dK (dvK t'))) b=none:=λb q=>by
  have m:b≠a:=λz=>by subst z;rw[O]at q;cases q
  obtain⟨L,G⟩:=Qgj q;exact⟨m,orH_of L (by rw[Qj m];exact G)⟩
 have T:=S.sr;refine⟨⟨λb o q=>by rw[Qj (Ql q fa)];exact T.sub b o q,λb o q=>?_,T.f0,λb o q=>(T.fb b o q).imp id λz=>(D b z).2,T.len,T.fz,λi ys q=>?_,T.dj,⟨λi ys q=>?_,T.dq.dj⟩⟩,S.at_,⟨Qk,λb o q=>?_⟩,λb o q=>?_,λb o q=>?_⟩
 .by_cases m:b=a
  .subst m;rcases QfM q with z|⟨_,z⟩
   .rw[J]at z;cases z
   .rw[Qk]at z |-;exact z
  .rw[Qj m];rcases QfM q with z|⟨L,G⟩
   .exact T.base b o (Qpg b o z)
   .rw[Qj m]at G;exact T.base b o (QdQ L G)
 .obtain⟨b,us,k1,k2,k3,M,k5⟩:=T.ow i ys q;obtain⟨m,z⟩:=D b k5;exact⟨b,us,k1,by rw[Qj m];exact k2,k3,M,z⟩
 .obtain⟨b,k1,k2,M,k5⟩:=T.dq.at_ i ys q;obtain⟨m,z⟩:=D b k5;exact⟨b,k1,by rw[Qj m];exact k2,M,z⟩
 .by_cases m:b=a
  .exact m
  .rw[Qj m]at q;exact S.own.only b o q
 .by_cases m:b=a
  .subst m;exact J
  .rw[Qj m]at q;exact S.db b o q
 .by_cases m:b=a
  .subst m;exact fa
  .rw[Qj m]at q;exact S.df b o q
end
section
variable{X:Cx}{st:Stmt}{sts:List Stmt}{e c k v:Expr}{es:List Expr}{ms ns:List Nat}{pos p p2 p3 spos:Pos}{j:Nat}{mk mv:MEx}
def Qjg(mk mv:MEx):MX DT:=λγ t=>(mv γ).bind λv=>(mk γ).bind λk=>match k,dvOf v with
 |.str s,some x=>if t.length<=1000 then some (.nx γ (putD t s x)) else none
 |_,_=>none
def QmA(O:X.A.units+64<gd)(hd:PE X (.Name d G) (tVar j))(U:EM X ns k mk)(Y:EM X ms v mv)(hs:cp v (some (.Subscript (.Name d G) k spos)) pos.line X.env=pure false:=by rfl) :
  XM X DictG j (.Assign [.Subscript (.Name d G) k spos] v pos) (Qjg mk mv):=PS.imp (ps_dput (one64 O) hd U Y hs) λD σ H ⟨B,F₀,F,E,a,γ,t,o,S,e,ok⟩=>by
 obtain⟨p,e1,e⟩:=Qe e;obtain⟨q,e2,e⟩:=Qe e;obtain⟨va,L,M⟩:=S.sr.fz j _ (Qeb S.at_);subst M;split at e
 .rename_i s x Q;obtain⟨c,rfl⟩:=Qt e;obtain⟨T,S1,x1,er⟩:=S.sr.see ms;refine⟨T,γ,p,S1.sub,er,e1,λvv H1 F2 g q1=>?_⟩;obtain⟨rfl,fl⟩:=dv_rep Q q1;have J :=S.same g.same;refine⟨.ref a,L,?_⟩;obtain⟨F4,S4,x4,I⟩:=J.sr.see ns;refine⟨F4,γ,.str s,S4.sub,I,e2,λyy H2 F5 g2 q2=>?_⟩;have m :=J.same g2.same;subst q2;have k2:=m.sr.base a _ (QdQ (m.db a _ m.own.at_) m.own.at_);refine⟨a,_,rfl,DPut.k (k:=du s) k2 (by rw[QnB];exact iq c (by decide)),?_⟩;rw[<-put_dv];exact ok _ _ F _ m.putD
 .cases e
abbrev MV:=PEnv->DT->Option (PV×DT)
def tMV(K:ac)(j:Nat)(m:MV):TS:=λD σ H=>∃B F₀ F E a γ t r t',SX K DictG j B F₀ F E a σ H γ t/\m γ t=some (r,t')/\∀v H' F' G,DictG F' G a t'->(∀b o,G b=some o->B b=none)->(∀b o,G b=some o->F' b=none)->Grow F₀ (orH B G) F' H'->Rep K F' r v->D.rt v H'
def VMs(X:Cx)(j:Nat)(sts:List Stmt)(m:MV):Prop:=PSs X sts (tMV X.K j m)
def vPre(j:Nat)(m:MSt)(k:MV):MV:=λγ t=>(m γ).bind λo=>match o with
 |.nx γ'=>if Xx γ' j=Xx γ j then k γ' t else none
 |.rt p=>some (p,t)
 |_=>none
def Qpn{K:ac}(S:SX K DictG j B F₀ F E a σ H γ t)(g:Grow F (orH B E) F' H'):∀b o,E b=some o->F' b=none:=λb o q=>by
 cases z:F' b with
 |none=>rfl
 |some u =>
  rcases g.new b u z with y | y
  .rw[S.df b o q]at y;cases y
  .rw[QdQ (S.db b o q) q]at y;cases y
def QgM{mk:MV}(h:SM X st m)(J:VMs X j sts mk):VMs X j (st::sts) (vPre j m mk):=PSs.imp (Qbz h J) λD σ H ⟨B,F₀,F,E,a,γ,t,r,t',S,e,ok⟩=>by
 obtain⟨ob,e1,e⟩:=Qe e;refine⟨orH B E,F,F,γ,ob,S.sr.up S.sr.f0 (Same.refl _),e1,?_⟩;cases ob with
 |nx γ' =>
  obtain⟨c,e⟩:=Yx e;exact λσ' H' F' G=>⟨B,F₀,F',E,a,γ',t,r,t',S.next QaL (G.down S.sr.f0 S.sr.fb) c G.f0,e,ok⟩
 |rt p =>
  cases e;exact λv H' F' g q=>ok v H' F' E (QaL _ _ _ _ _ g.ext S.own) S.db (Qpn S g) (g.down S.sr.f0 S.sr.fb) q
 |_=>cases e
def QhU(m:MSt):MV:=λγ t=>(m γ).bind λo=>match o with
 |.rt p=>some (p,t)
 |_=>none
def QmC(h:SM X st m):VMs X j [st] (QhU m):=PSs.imp (QdI h) λD σ H ⟨B,F₀,F,E,a,γ,t,r,t',S,e,ok⟩=>by
 obtain⟨ob,e1,e⟩:=Qe e;refine⟨orH B E,F,F,γ,ob,S.sr.up S.sr.f0 (Same.refl _),e1,?_⟩;cases ob with
 |rt p =>
  cases e;exact λv H' F' g q=>ok v H' F' E (QaL _ _ _ _ _ g.ext S.own) S.db (Qpn S g) (g.down S.sr.f0 S.sr.fb) q
 |_=>cases e
def vX(m:MX DT)(k:MV):MV:=λγ t=>(m γ t).bind λo=>match o with
 |.nx γ' t'=>k γ' t'
 |_=>none
def vs_x{mk:MV}(h:XM X DictG j st m)(G:VMs X j sts mk):VMs X j (st::sts) (vX m mk):=PSs.imp (Qbz h G) λD σ H ⟨B,F₀,F,E,a,γ,t,r,t',S,e,ok⟩=>by
 obtain⟨ob,e1,e⟩:=Qe e;refine⟨B,F₀,F,E,a,γ,t,ob,S,e1,?_⟩;cases ob with
 |nx γ' t1=>exact λσ' H' F' I J=>⟨B,F₀,F',I,a,γ',t1,r,t',J,e,ok⟩
 |_=>cases e
def vIf(j:Nat)(G:PEnv->Option Bool)(m1 m2:MV):MV:=λγ t=>(G (γ.set j (.fz (.dcw t)))).bind λk=>if k=true then m1 γ t else m2 γ t
def vs_if(hc:TM X ms c G)(J:VMs X j xs m1)(O:VMs X j sts m2):VMs X j (.If c xs [] pos::sts) (vIf j G m1 m2):=PSs.imp (Qbz (ps_if hc J QmW) O) λD σ H ⟨B,F₀,F,E,a,γ,t,r,t',S,e,ok⟩=>by
 obtain⟨k,e1,e2⟩:=Qe e;obtain⟨m,hs,I⟩:=S.see (QjN X.K) (rfl) ms;refine⟨m,γ.set j (.fz (.dcw t)),k,hs,I,e1,λH' F' g=>?_⟩;cases k with
 |true=>exact⟨B,F₀,F,E,a,γ,t,r,t',S.same g.same,e2,ok⟩
 |false=>exact⟨B,F₀,F,E,a,γ,t,r,t',S.same g.same,e2,ok⟩
end
def spD(K:ac)(n:Nat)(g:Addr->List PV->DT->Option (PV×DT)):Sp:=λvs H Q _=>vs.length=n/\∃F us a t j r t',vs=us++[.ref a]/\Same F H/\F a=none/\H a=some (.dK (dvK t))/\RepL K F j us/\g a j t=some (r,t') /\
 ∀v H' F',Grow F (del H a) F' H'->H' a=some (.dK (dvK t'))->F' a=none->Rep K F' r v->Q v H'
def runD(N n:Nat)(m:MV)(a:Addr)(G:List PV)(t:DT):Option (PV×DT):=if G.length+1=n/\n<=N then m (QK N (G++[.opq a])) t else none
def runD_len{N n:Nat}{m:MV}:∀a G t r,runD N n m a G t=some r->G.length+1=n:=λa G t r h=>by
 unfold runD at h;exact(Yx h).1.1
def CalDD(P:aN)(w:bg)(K:ac)(mg:Str->Option Value)(base:Heap)(k:Nat)(x:Str)(n:Nat)(g:Addr->List PV->DT->Option (PV×DT)):Prop :=
 ∃f fd ps,FnOk P w K mg base CX0 k f fd ps (spD K n g)/\mg x=some (.ref f)/\bN K (.ref f)=true/\YQ K fd ps []
section
variable{P:aN}{w:bg}{K:ac}{mg:Str->Option Value}{base:Heap}
def fnDD{x qual:Str}{st:Stmt}{f:Addr}{fd:cA}{N ps:List Str}{k n j:Nat}{m:MV}(O:Fun K x qual st f fd)(U:FnScope N ps (Qc st))(hn:ps.length=n)(hj:j+1=n)(J:∀G A outer s H E,Room k (A.deeper (cH qual (Qc st) s.heap.objs.size f G)) ->
   VMs (cxOf CX0 P w K mg base N qual (Qc st) f G A outer s H E).nox j (Qy st) m):FnOk P w K mg base CX0 (k+1) f fd ps (spD K n (runD N.length n m)):=by
 refine O.ok U (λvs H Q E h=>by rw[h.1,hn]) λG A outer s H vs Q E T h=>⟨_,J G A outer s H E T,?_⟩
 obtain⟨hl,F,us,a,t,B,r,t',rfl,h1,h2,h3,Y,D,wv⟩:=h;obtain⟨⟨hq,hN⟩,D⟩:=Yx D;have T0:SR K H F F (Xg N (us++[.ref a])) H (QK N.length (B++[.opq a])):=Qdf h1 (Y.append (.cons (by rfl) .nil));have hE:H=orH (del H a) (upd (λ_=>none) a (.dK (dvK t))):=by
  grind[orH,QgX,Qk,Qaw,Qj]
 have I:Xx (QK N.length (B++[.opq a])) j=some a:=by
  have:B.length=j:=by lia
  subst this;unfold Xx QK;simp
 have E0:∀(B' F':Hp) b o,(upd (λ_=>none) a (.dK (dvK t)):Hp) b=some o->b=a:=λB' F' b o q=>by
  grind[Qj]
 refine⟨del H a,F,F,upd (λ_=>none) a (.dK (dvK t)),a,_,t,r,t',⟨by rw[<-hE];exact T0,I,⟨Qk,E0 H F⟩,λb o q=>by rw[E0 H F b o q];exact QgX,λb o q=>by rw[E0 H F b o q];exact h2⟩,D,λv H' F' E' M hdb L gr q=>?_⟩;have ha :=gr.same a _ (QdQ QgX M.at_);exact wv v H' F' ⟨gr.ext,gr.sub,Qpg.trans gr.same,λb o q=>(gr.new b o q).imp id λz=>(Qgj z).1⟩ ha (L a _ M.at_) q
end
section
variable{X:Cx}{e1 e2:Expr}{ms ns:List Nat}{pos p p2 p3 dp:Pos}{i j kk n:Nat}{m1 m2:MEx}{x y d:Str}{g:Addr->List PV->DT->Option (PV×DT)}
def sCalD(ms:List Nat)(i j:Nat)(g:Addr->List PV->DT->Option (PV×DT))(m1 m2:MEx):MSt:=λγ=>(m1 γ).bind λm=>(m2 γ).bind λB=>match (frz ms γ)[j]? with
 |some (.od t)=>(allB λa=>g a [m,B] t).map λr=>.nx (((frz ms γ).set j (.od r.2)).set i (.fz r.1))
 |_=>none
def sm_calD(hN:X.N.Nodup)(hi:X.N[i]?=some y)(hy:Loc X.env.scope y)(c:CalDD X.prog X.w X.K X.mg X.base kk x n g)(hn:∀a qs t r,g a qs t=some r->qs.length+1=n)(hr:Room kk X.A)(hg:Gl X x)(h1:EM X ms e1 m1)(h2:EM X ns e2 m2)(hd:PE X (.Name d dp) (tVar j))(O:(x==("__debug__":Str))=false:=by decide)(J:ai [e1,e2,.Name d dp] X.env=(false,eval e1 X.env)::ai [e2,.Name d dp] X.env:=by rfl)(U:ai [e2,.Name d dp] X.env=(false,eval e2 X.env)::ai [.Name d dp] X.env:=by rfl)(Y:ai [.Name d dp] X.env=(false,eval (.Name d dp) X.env)::ai [] X.env:=by rfl)(hpl:(bB p3 (ai [e2,.Name d dp] X.env)).any (·.1)=false:=by rfl)(hs:cp (.Call (.Name x p) [e1,e2,.Name d dp] [] p3) (some (.Name y p2)) pos.line X.env=pure false:=by rfl)(hf:X.fn y=true\/X.env.scope.names.lookup y=some .local:=by first | exact .inl rfl | exact .inr rfl | assumption) :
  SM X (.Assign [.Name y p2] (.Call (.Name x p) [e1,e2,.Name d dp] [] p3) pos) (sCalD (ms++ns) i j g m1 m2):=by
 obtain⟨f,fd,ps,Fn,hm,hk,m⟩:=c;refine PS.imp (QeT hN hi hy (QfJ (E:=E0) Fn hr hg hm hk m .nil pass0 (ZF h1 (ZF h2 (ZF hd Qbf Y) U) J) O J hpl) hs hf) λD σ H ⟨B,F₀,F,γ,o,S,e,ok⟩=>?_;obtain⟨q1,k1,e⟩:=Qe e;obtain⟨q2,k2,e⟩:=Qe e;split at e
 .rename_i t ht;obtain⟨⟨r,t'⟩,k3,rfl⟩:=QN e;obtain⟨F1,S1,x1,er⟩:=S.see (ms++ns);obtain⟨a,a1,M,a3,a4⟩:=S1.dq.at_ j t ht;refine⟨F1,γ,q1,S1.sub,er.left,k1,λv1 H1 F2 Q r1=>⟨F2,γ,q2,Q.sub,er.right.mono Q.ext,k2,λv2 H2 F3 g2 r2=>⟨.ref a,a1,?_⟩⟩⟩;dsimp only;have gr:=Q.trans g2;have f3:F3 a=none:=by
   cases z:F3 a with
   |none=>rfl
   |some o =>
    rcases gr.new a o z with y | y
    .rw[a3]at y;cases y
    .rw[M]at y;cases y
  have k4:=allB_get k3 a;refine⟨by simpa using hn _ _ _ _ k4,F3,[v1,v2],a,t,[q1,q2],r,t',rfl,gr.sub,f3,gr.same _ _ M,.cons (r1.mono g2.ext) (.cons r2 .nil),k4,λv H' F' L ha I rv=>?_⟩;have G:Grow F1 H F' (upd H' a (.dK (dvK t))):=⟨gr.ext.trans L.ext,λb o q=>by rw[Qj (Ql q I)];exact L.sub b o q,λb o q=>?_,λb o q=>?_⟩
  .have T:=(S1.grow G).writeD (lvs:=t') ht a1;have eH:upd (upd H' a (.dK (dvK t))) a (.dK (dvK t'))=H':=by
    funext b;by_cases m:b=a
    .subst m;rw[Qk,ha]
    .rw[Qj m,Qj m]
   rw[eH]at T;exact ok _ _ F' (T.setFz i rv)
  .by_cases m:b=a
   .subst m;rw[Qk,<-M];exact q
   .rw[Qj m];exact L.same b o (by rw[Qaw m];exact gr.same b o q)
  .rcases L.new b o q with y | y
   .exact gr.new b o y
   .have m:b≠a:=λz=>by subst z;rw[I]at q;cases q
    rw[Qaw m]at y;exact .inr (gr.same.free y)
 .cases e
end
end L2.PM
namespace L2.PM
open PySem PySem.Spec PyProof.Rows PySem.Builtin PySem.Builtin.Str
section
variable{X:Cx}{o e:Expr}{es:List Expr}{ms ns:List Nat}{m:MEx}{ma:PEnv->Option (List PV)}
def Qcj:PV->List PV->Option PV
 |.str x,[.str y]=>some (.int (Txt.count x y))
 |_,_=>none
def mm_count:MtR X "str.count" (rMt X.K Qcj):=by
 intro pins s σ H x xs v us Q I m rs h;obtain⟨F,p,ps,r,h1,h2,B,j,w⟩:=h;unfold Qcj at j;split at j
 .cases j;subst h2;obtain⟨t,rfl⟩:=m;obtain⟨G,rfl,D⟩:=Qgc B;subst D;obtain⟨u,rfl,E⟩:=YD rs;obtain⟨t2,rfl⟩:=E;exact SC.count ⟨.int _,H,I.tok _,⟨_,rfl⟩,w.here h1 (QL _)⟩
 .cases j
def QkP(h:EM X ms o m)(Y:AM X ns (e::es) ma)(J:cQ o "count" X.env (eval o X.env)=eval o X.env:=by rfl)(U:((bB cpos (ai (e::es) X.env)).all (λx => !x.1)&&(gS cpos (eM [] X.env)).all (λx=>x.1.isSome)
   && decide ((e::es).length+([]:List dL).length+(if ([]:List dL).isEmpty then 0 else 1)<30))=true:=by rfl)(O:(apos.endLine==cpos.line)=true:=by rfl)(hs:ai (e::es) X.env=(false,eval e X.env)::ai es X.env:=by rfl)(G:(bB cpos (ai es X.env)).any (·.1)=false:=by rfl) :
  EM X (ms++ns) (.Call (.Attribute o "count" apos) (e::es) [] cpos) (mMt "str" Qcj m ma) :=
 em_mt h Y (Qad dF PySem.F.slot_str_count PySem.F.type_str_count mm_count h Y J U O hs G)
end
def QcD(x y z:Str)(n:Nat):Str:=if (occurrences x y 0 x.length n).isEmpty=true then x else glued z (cY x (occurrences x y 0 x.length n) y.length)
def QlA x y z t u v tk k (J:0<=k/\k<2^62) (G:(y.length==0)=false) (hf:(u==0||v==0)=false/\(u==v)=false/\(y==z)=false/\tooLong (x.length+(occurrences x y 0 x.length k.toNat).length*z.length)=false) :
    Gives («str.replace» ⟨[.str x t,.str y u,.str z v,.int k tk],[]⟩) (if (occurrences x y 0 x.length k.toNat).isEmpty=true then .val (.str x t) else .str (glued z (cY x (occurrences x y 0 x.length k.toNat) y.length))):=by
  have j:countLimit "str.replace" (some (.int k tk)) (x.length+1)=pure k.toNat:=by
    show(do let i <-asSsize "str.replace" (.int k tk);pure (if i<0 then x.length+1 else i.toNat))=_;grind[asSsize_int]
  show Gives (countLimit "str.replace" (some (.int k tk)) (x.length+1) >>= λm =>
      (if ((occurrences x y 0 x.length m).isEmpty||(y.length==0&&z.length==0))=true then (do rule "str.replace.nothing";ret (.str x t)) else
          (do let same <-isSame (.str y u) (.str z v)
              if same=true then (do rule "str.replace.old-is-new";ret (.str x t)) else
              if tooLong (x.length+(occurrences x y 0 x.length m).length*z.length)=true then unsupported "str.replace:memory" else
              retStr (glued z (cY x (occurrences x y 0 x.length m) y.length))))) _
  rw[j];show Gives (if ((occurrences x y 0 x.length k.toNat).isEmpty||(y.length==0&&z.length==0))=true then (do rule "str.replace.nothing";ret (.str x t)) else
          (do let same <-isSame (.str y u) (.str z v)
              if same=true then (do rule "str.replace.old-is-new";ret (.str x t)) else
              if tooLong (x.length+(occurrences x y 0 x.length k.toNat).length*z.length)=true then unsupported "str.replace:memory" else
              retStr (glued z (cY x (occurrences x y 0 x.length k.toNat) y.length)))) _
  rw[G,jj,ik];cases hc:(occurrences x y 0 x.length k.toNat).isEmpty
  · rw[isSame_str_other y z u v hf.1 hf.2.1 hf.2.2.1,hf.2.2.2]
    exact .of_eq rfl
  · exact .rule (.of_eq rfl)
def len_repl(x y z:Str)(n:Nat)(G:x.length+(occurrences x y 0 x.length n).length*z.length<=16777216):(glued z (cY x (occurrences x y 0 x.length n) y.length)).length<=ax:=by
 have h:=congrArg b9 (StrLaws.glued_between_self x y n);rw[size_glued,fL,dG]at h;rw[size_glued,fL,dG,eL];omega
section
variable{X:Cx}{e3:Expr}{ns:List Nat}{m3:MEx}
def Qoo{i:Nat}(I:Inv X pins σ H s)(J:X.N[i]?=some x)(O:Vis X.env.scope x)(e:σ[i]?=some (some v))(h:∀u,RelV v u->Q u s)(hd:(x=="__debug__")=false)(G:(x=="__classdict__")=false):av (model X.prog X.w) X.A (eval (.Name x pos) X.env) Q E s:=by
 obtain⟨m,hn,D⟩:=I.loc;obtain⟨u,r,l⟩:=D i x v J e O;have fin:=h u r;rcases l with⟨B,hm⟩|⟨B,c,hc,j⟩
 .exact g1 (l6 I.ok.kind B hn hm fin) hd
 .rcases B with B | B
  .exact g1 (wpAny_loadName_cell I.ok.kind B hc j fin) hd
  .exact g1 (wpAny_loadName_free I.ok.kind B hc j fin G) hd
def repK(a x y z:Str):PV->Option PV
 |.int n=>if 0<=n/\n<=100000/\x.length<=1000000/\z.length<=10/\(y.length==0)=false/\(y==z)=false then some (.tup [.str a,.str (QcD x y z n.toNat)]) else none
 |_=>none
def repS(a y z:Str)(m3:MEx)(γ:PEnv):PV->Option PV
 |.str x=>(m3 γ).bind (repK a x y z)
 |_=>none
def mRep(i:Nat)(a y z:Str)(m3:MEx):MEx:=λγ=>(mVar i γ).bind (repS a y z m3 γ)
def em_rep{i:Nat}{a y z x:Str}{j0 G J:Nat}{p0 p1 p2 np apos cpos pos:Pos}{x1}(hN:X.N[i]?=some x)(hv:Vis X.env.scope x)(h3:EM X ns e3 m3)(hd:(x==("__debug__":Str))=false:=by decide)(hcd:(x==("__classdict__":Str))=false:=by decide)(hs0:ai [.Constant (.str a) j0 p0,.Call (.Attribute (.Name x np) "replace" apos) [.Constant (.str y) G p1,.Constant (.str z) J p2,e3] [] cpos] X.env=[(false,eval (.Constant (.str a) j0 p0) X.env),(false,eval (.Call (.Attribute (.Name x np) "replace" apos) [.Constant (.str y) G p1,.Constant (.str z) J p2,e3] [] cpos) X.env)]:=by rfl)(O:cQ (.Name x np) "replace" X.env (eval (.Name x np) X.env)=eval (.Name x np) X.env:=by rfl)(Y:((bB cpos (ai [.Constant (.str y) G p1,.Constant (.str z) J p2,e3] X.env)).all (λx => !x.1)&&(gS cpos (eM [] X.env)).all (λx=>x.1.isSome)
   && decide ([Expr.Constant (.str y) G p1,.Constant (.str z) J p2,e3].length+([]:List dL).length+(if ([]:List dL).isEmpty then 0 else 1)<30))=true:=by rfl)(U:(apos.endLine==cpos.line)=true:=by rfl)(hs1:ai [.Constant (.str y) G p1,.Constant (.str z) J p2,e3] X.env=[(false,eval (.Constant (.str y) G p1) X.env),(false,eval (.Constant (.str z) J p2) X.env),(false,eval e3 X.env)]:=by rfl) :
  EM X (i::ns) (.Tuple [.Constant (.str a) j0 p0,.Call (.Attribute (.Name x np) "replace" apos) [.Constant (.str y) G p1,.Constant (.str z) J p2,e3] [] cpos] x1 pos) (mRep i a y z m3):=by
 intro pins s σ H Q I ⟨F,γ,r,k1,k2,k3,w⟩;obtain⟨q,e1,k3⟩:=Qe k3;obtain⟨v,T,rv⟩:=k2 i (.head _) q e1;cases q with
 |str j =>
  obtain⟨k,e2,k3⟩:=Qe (show(m3 γ).bind (repK a j y z)=some r from k3);cases k with
  |int n =>
   obtain⟨⟨c1,c2,c3,c4,c5,c6⟩,rfl⟩:=Qt (show(if 0<=n/\n<=100000/\j.length<=1000000/\z.length<=10/\(y.length==0)=false/\(y==z)=false then some (PV.tup [.str a,.str (QcD j y z n.toNat)]) else none)=some r from k3);unfold Rep at rv;subst rv;have hlen:=il j y 0 j.length n.toNat;have hmul:(occurrences j y 0 j.length n.toNat).length*z.length<=100000*10:=Nat.mul_le_mul (by omega) c4;refine wpAny_Tuple_spliced ?_;rw[hs0];refine dR (gq (k:=j0) (pos:=p0) (dR ?_));have I1:Inv X pins σ H { s with toks:=s.toks+1 }:=I.tok _;refine hB O Y U rfl (Qoo I1 hN hv T (λu ru=>?_) hd hcd);obtain⟨tx,rfl⟩:=ru;refine⟨"str","str.replace",dF,jt,PySem.F.type_str_replace,eJ _ _ _,(λ_ z=>nomatch z),?_⟩;rw[hs1];refine ia rfl (iH (dR (gq (k:=G) (pos:=p1) (dR (gq (k:=J) (pos:=p2) (dR ?_))))));refine thn (h3 pins { s with toks:=s.toks+1+1+1 } σ H (λv B=>∃E,Grow F H E B/\Rep X.K E (.int n) v) (I.tok _) ⟨F,γ,.int n,k1,λl hl=>k2 l (.tail _ hl),e2,λv3 B E g3 r3=>⟨E,g3,r3⟩⟩) λu3 D ⟨v3,B,I3,ru3,E,L,M⟩=>?_;unfold Rep at M;subst M;obtain⟨t3,rfl⟩:=ru3;refine ji ?_;refine call_gives jt (eJ _ _ _) PySem.F.entry_str_replace (PySem.F.args_str_replace_4 _ _ _ _) (QlA j y z tx (s.toks+1) (s.toks+1+1) t3 n ⟨c1,by omega⟩ c5 ⟨by simp,by simp,c6,by unfold tooLong ax;exact aH (by omega)⟩) ?_;have fin:∀t' kk,av (model X.prog X.w) X.A (spliced []) (λvs m=>(gb a s.toks::gb (QcD j y z n.toNat) t'::vs).length<=ax/\EP X pins σ Q (.ref m.heap.objs.size) { m with heap:=m.heap.push { cls := .type "tuple",data := .seq (gb a s.toks::gb (QcD j y z n.toNat) t'::vs).toArray } }) X.xe { D with toks:=kk }:=λt' kk=>by
    refine ji ⟨by show 2<=ax;decide,?_⟩;have I4:Inv X pins σ B { D with toks:=kk }:=I3.tok _;have hf:B D.heap.objs.size=none:=I3.hok.fresh (am _);refine⟨.ref D.heap.objs.size,upd B D.heap.objs.size (.tup [.str a,.str (QcD j y z n.toNat)]),I4.laid (t':=kk) (λb u e=>ag _ e) (am _) ⟨by show 2<=ax;decide,_,.cons ⟨_,rfl⟩ (.cons ⟨_,rfl⟩ .nil),⟨_,aB _ rfl,rfl,.inl rfl,_,rfl⟩⟩,rfl,?_⟩;refine w _ _ _ (L.trans (.laid L.sub hf)) ?_;unfold Rep;exact⟨_,_,rfl,.of Qk,.cons (Xa _) (.cons (Xa _) .nil)⟩
   unfold QcD at fin;cases hc:(occurrences j y 0 j.length n.toNat).isEmpty with
   |true =>
    rw[hc,ak rfl]at fin;rw[ak rfl];exact fin tx D.toks
   |false =>
    rw[hc,ar cC]at fin;rw[ar cC];exact⟨len_repl j y z n.toNat (by omega),fin _ _⟩
  |_=>cases k3
 |_=>cases k3
end
end L2.PM
namespace L2.PM
open PySem PySem.Spec PyProof.Rows
mutual
def hard:PV->Bool
 |.tup xs=>hardL xs
 |.non=>true
 |.bl _=>true
 |.int _=>true
 |.str _=>true
 |_=>false
def hardL:List PV->Bool
 |[]=>true
 |x::xs=>hard x&&hardL xs
end
section
variable{K:ac}{F F' F2:Hp}
def QhV:Option HO->Option HO
 |some (.tup xs)=>some (.tup xs)
 |some (.frz o u)=>some (.frz o u)
 |_=>none
def Qgz(F F':Hp):Hp:=λb=>match F b with
 |some o=>some o
 |none=>QhV (F' b)
mutual
theorem Rep.hard(G:∀b o,QhV (F' b)=some o->F2 b=some o):∀{p:PV}{v:V},hard p=true->Rep K F' p v->Rep K F2 p v
 |.non,_,_,h=>h
 |.bl _,_,_,h=>h
 |.int _,_,_,h=>h
 |.str _,_,_,h=>h
 |.tup xs,_,z,h=>by
  unfold Rep at h |-;unfold PM.hard at z;obtain⟨a,vs,h1,h2,j⟩:=h;refine⟨a,vs,h1,?_,RepL.hard G z j⟩;rcases h2 with(h|⟨o,h⟩) | h
  .exact .inl (.inl (G _ _ (by rw[h];rfl)))
  .exact .inl (.inr ⟨o,G _ _ (by rw[h];rfl)⟩)
  .exact .inr h
theorem RepL.hard(G:∀b o,QhV (F' b)=some o->F2 b=some o):∀{ps:List PV}{vs:List V},hardL ps=true->RepL K F' ps vs->RepL K F2 ps vs
 |[],_,_,h=>h
 |p::ps,_,z,h=>by
  unfold RepL at h |-;unfold PM.hardL at z;rw[aD]at z;obtain⟨v,t,h1,h2,j⟩:=h;exact⟨v,t,h1,Rep.hard G z.1 h2,RepL.hard G z.2 j⟩
end
end
def XZ{F':Hp}{b:Addr}{o:HO}(h:QhV (F' b)=some o):F' b=some o:=by
 unfold QhV at h;split at h
 .rename_i q;rw[q];exact h
 .rename_i q;rw[q];exact h
 .cases h
def Qee{F F':Hp}{b:Addr}{o:HO}(h:Qgz F F' b=some o):F b=some o\/(F b=none/\QhV (F' b)=some o):=by
 unfold Qgz at h;split at h
 .rename_i q;rw[q];exact .inl h
 .rename_i q;exact .inr ⟨q,h⟩
section
variable{X:Cx}{ms:List Nat}{e:Expr}{m:MEx}{pos p2:Pos}
def SR.valH{K:ac}(S:SR K B F₀ F σ H γ)(J:Same F G)(S1:SR K B F₀ G σ H (PM.frz ms γ))(g:Grow G H F' H')(q:Rep K F' r v) :
  ∃F2,SR K B F₀ F2 σ H' (Qw (hard r) ms γ)/\Rep K F2 r v:=by
 cases f:hard r with
 |false=>exact⟨F',S1.grow g,q⟩
 |true =>
  have j:Same F (Qgz F F'):=λb o h=>by unfold Qgz;rw[h]
  have no:∀a,F a=none->∀o,H a=some o->QhV (some o)=none->Qgz F F' a=none:=λa n o h z=>by
   cases w:Qgz F F' a with
   |none=>rfl
   |some u =>
    rcases Qee w with y|⟨_,y⟩
    .grind
    .have:=g.sub _ _ (XZ y);rw[g.same _ _ h]at this;cases this;have I:=XZ y;grind
  refine⟨Qgz F F',⟨λb o h=>?_,S.base.trans g.same,S.f0.trans j,λb o h=>?_,S.len,λi p h=>?_,λi xs h=>?_,S.dj,⟨λi kvs h=>?_,S.dq.dj⟩⟩,q.hard (λb o h=>?_) f⟩
  .rcases Qee h with y|⟨_,y⟩
   .exact g.same _ _ (S.sub _ _ y)
   .exact g.sub _ _ (XZ y)
  .rcases Qee h with y|⟨_,y⟩
   .exact S.fb b o y
   .rcases g.new b o (XZ y) with z | z
    .exact S1.fb b o z
    .exact .inr (S.base.free z)
  .obtain⟨v,h1,h2⟩:=S.fz i p h;exact⟨v,h1,h2.mono j⟩
  .obtain⟨a,vs,h1,h2,E,m,D⟩:=S.ow i xs h;exact⟨a,vs,h1,g.same _ _ h2,E.mono j,no a m _ h2 rfl,D⟩
  .obtain⟨a,h1,h2,m,D⟩:=S.dq.at_ i kvs h;exact⟨a,h1,g.same _ _ h2,no a m _ h2 rfl,D⟩
  .unfold Qgz;cases w:F b with
   |none=>exact h
   |some u =>
    have:=g.ext _ _ (J _ _ w);rw[XZ h]at this;grind
def QoZ(ms:List Nat)(i:Nat)(m:MEx):MSt:=λγ=>(m γ).map λr=>.nx ((Qw (hard r) ms γ).set i (.fz r))
def sm_setH(G:X.N.Nodup)(hi:X.N[i]?=some x)(J:Loc X.env.scope x)(h:EM X ms e m)(hs:cp e (some (.Name x p2)) pos.line X.env=pure false:=by rfl)(hf:X.fn x=true\/X.env.scope.names.lookup x=some .local:=by first | exact .inl rfl | exact .inr rfl | assumption) :
  SM X (.Assign [.Name x p2] e pos) (QoZ ms i m):=PS.imp (QeT G hi J h hs hf) λD σ H ⟨B,F₀,F,γ,o,S,e,ok⟩=>by
 obtain⟨r,e1,e2⟩:=QN e;subst e2;obtain⟨j,S1,E,I⟩:=S.see ms;refine⟨j,γ,r,S1.sub,I,e1,λv H' F' g q=>?_⟩;obtain⟨F2,S2,L⟩:=S.valH E S1 g q;exact ok _ _ F2 (S2.setFz i L)
end
end L2.PM
namespace HD
open PySem PySem.W PySem.Calls PyProof.Rows L2
abbrev fo(x q:Str)(st:Stmt)(dV doc G:Value)(c:Addr):Obj:=⟨.type "function",none,.func (fnOf x q (QT st) (Qy st) (Qc st) dV .none doc G none (.ref c) .none),#[]⟩
abbrev co(x q:Str)(t:Nat)(l n:Int)(a b:Addr)(u v:Value)(c:Addr)(z:Nat):Obj:=⟨.type "code",none,.fields #[.str x t,.str q (t+1),.str "/claim/cut.py" (t+2),.int l 0,.int n 0,.int 0 0,.int 0 0,.int 3 0,.ref a,.bool true,.int 181 0,.ref b,.none,u,v,.ref c,.int z 0,.int l 0,.str "/claim/cut.py" (z+1)],#[]⟩
abbrev en(P:jv)(x:Str)(t:Nat)(v:Value):DictEntry:=⟨PyData.keyHash P x,.str x t,v⟩
def run(G ok:Thread->Bool)(st:kH->Thread->Option (kH×Thread)):Nat->kH->Thread->Option kH
 |0,_,_=>none
 | n+1,s,t=>match G t with
  |true=>some s
  | false=>match ok t with
   |false=>none
   | true=>match st s t with
    |some x=>run G ok st n x.1 x.2
    |none=>none
def run_top{tb:String->Option iJ}{p:aN}{w:bg}{m:Nat}{an:Option Value}:∀(n:Nat)(s r:kH)(t:Thread),
  run through (stepOk m an) (stepT (denote tb) p w) n s t=some r->topRun tb p w m an n s.abs t=some r.abs:=by
 intro n;induction n with
 |zero=>intro s r t h;cases h
 |succ n j =>
  intro s r t h;simp only[run]at h;simp only[topRun];split at h
  .next e=>cases h;rw[e]
  .next e =>
   rw[e];split at h
   .cases h
   .next e2 =>
    rw[e2];split at h
    .next x e3=>rw[stepT_spec (s':=x.1) (t':=x.2) e3];exact j _ _ _ h
    .cases h
def tree(l:List Obj):BT:=(l.foldl (λx o=>(x.1.ins x.2 o,x.2+1)) (BT.nil,0)).1
def st0(w:bg)(os:jd):kH:=⟨tree (cJ w.params).objs.toList,11,(cJ w.params).life,kF [],kX,lU,os⟩
def st0_abs(w:bg)(os:jd):(st0 w os).abs=⟨cJ w.params,kF [],kX,lU,os⟩:=by
 have h:∀P:jv,absHeap (tree (cJ P).objs.toList) 11 (cJ P).life=cJ P:=λP=>by kernel_rfl
 show ap.mk (absHeap (tree (cJ w.params).objs.toList) 11 (cJ w.params).life) _ _ _ _=_;rw[h];rfl
def only(p:aN)(st:Stmt):aN:={ p with main:={ p.main with body:=[st] } }
def defPos(s:Stmt):Pos:=match s with
 |.FunctionDef _ _ _ _ _ _ _ _ _ c=>c
 |_=>⟨0,0,0,0⟩
def Qau(p:aN):List Str:=(p.main.scope.names.map (·.1)).filter λn => !(n==("law":Str))
def sees(p:aN)(P:jv)(h:Heap)(s:ap):Bool :=
 staticsOk (jK p.main.body) (cJ P) h&&namesBound p h&&gensDone s&&laidKept (cJ P) h
def end_(p q:aN)(as:List Addr)(w:bg)(os:jd)(N:Nat) :=
 (run through (lj 11 (some (.ref 6))) (kR (kQ kP) p w) N (st0 w os) (topStub p)).map λs =>
  (sees p w.params s.abs.heap s.abs,Fast.tw4187177175401517315 q (Qau p) (jK p.main.body) (λ_=>true) true s.abs,as.map s.abs.heap.get?)
def left{p q:aN}{K:jv->Frag}{as:List Addr}{N:Nat}(e:opening p=plainProg p.main.scope.names)(f:∀s,fenceModules? p s=some s)(G:Nat.ble 600 N=true)(one:∀(w:bg) (os:jd),end_ p q as w os N=some (true,openGood q (Qau p),(K w.params).map λx=>some x.2)) :
  LeftO p q (Qau p) (λ_=>true) (λs=>as.map s.heap.get?) (λw=>(K w.params).map λx=>some x.2) N:=by
 intro w;have o:=boot_open (p:=p) (N:=N) e G f w;match hf:fencedOpening lq p w N with
 |none=>rw[hf]at o;cases o
 |some ⟨h,E,d,k,os⟩ =>
  rw[hf]at o;have j:=aR o;have H:h=cJ w.params:=congrArg kr j;have I:E=kF []:=congrArg (λx=>x.2.1) j;have J:d=kX:=congrArg (λx=>x.2.2.1) j;have L:k=lU:=congrArg (λx=>x.2.2.2) j;have r:=one w os;unfold end_ at r;rw[<-Fast.te6613529449190102663,<-Fast.te10156331382660048174,<-Fast.te11892475500146522536,<-Fast.te14364793385576792824,<-Fast.te4187177175401517315]at r;match m:run through (stepOk 11 (some (.ref 6))) (stepT (denote lq) p w) N (st0 w os) (topStub p) with
  |none=>rw[m]at r;cases r
  |some s =>
   rw[m]at r;have B:=aR r;have l1:=congrArg kr B;have l2:=congrArg (λx=>x.2.1) B;have M:=congrArg (λx=>x.2.2) B;have t:=run_top N _ _ _ m;rw[st0_abs]at t;subst H I J L;have z:(cJ w.params).isNs cG=true/\(cJ w.params).objs.size=11/\(cJ w.params).nsMap cG "__annotations__"=some (.ref 6):=⟨by kernel_rfl,by kernel_rfl,by kernel_rfl⟩
   have u:topFrom lq p w N ⟨cJ w.params,kF [],kX,lU,os⟩=some s.abs:=by
    simp only[topFrom,z.1,z.2.1,z.2.2,t];have D:(staticsOk (jK p.main.body) (cJ w.params) s.abs.heap&&namesBound p s.abs.heap&&gensDone s.abs&&laidKept (cJ w.params) s.abs.heap)=true:=l1;simp only[aQ,D];rfl
   have v:openEnds lq p w N=some s.abs:=by
    unfold openEnds;rw[hf];exact u
   rw[v];exact congrArg some (Prod.ext l2 M)
def opens{l:OpenLaw}{K:jv->Frag}{as:List Addr}{st:Stmt}{N:Nat}(ws:li l=true)(e:opening l.prog=plainProg l.prog.main.scope.names)(f:∀s,fenceModules? l.prog s=some s)(G:Nat.ble 600 N=true)(one:∀(w:bg) (os:jd),end_ l.prog (only l.prog st) as w os N=some (true,openGood (only l.prog st) (Qau l.prog),(K w.params).map λx=>some x.2))(J:∀P,as=(K P).map (·.1))(hd:defOf (only l.prog st) l.name=some (⟨l.name,QT st,Qy st,Qc st,defPos st⟩,[]))(O:l.prog.theDef l.name=some (QT st,Qy st,Qc st))(U:kwWritten? (QT st).kwonlyargs (QT st).kw_defaults=some [])(ok:(chainsOk (only l.prog st)&&opensWell l.prog&&(frees l.row.toRowW&&l.row.within.isEmpty))=true)(Y:l.prog.bare)(hw:l.row.toRowW.promised)(go:WalkO (only l.prog st) (Qau l.prog) (λ_ _=>True) (InK K) l.row.toRowW ⟨l.name,QT st,Qy st,Qc st,defPos st⟩ [] λf vs=>k9 f vs):l.Holds:=by
 rw[<-Fast.te9446332074065402090]at ws;exact holds_law ws λk=>holds_open (r:=l.row) (left e f G one) (InK.of J) InK.keeps (λ_ _=>trivial) (λ_ _ _ _ _=>trivial) hd O U (λs _=>recFacts_of (R:=[]) rfl) (eG _) k ok Y hw go
def hof(p:aN)(N:Nat)(P:jv):Heap:=match run through (lj 11 (some (.ref 6))) (kR (kQ kP) p ⟨λ_ _=>0,P⟩) N (st0 ⟨λ_ _=>0,P⟩ {}) (topStub p) with
 |some s=>s.abs.heap
 |none=>cJ P
def kof(p:aN)(as:List Addr)(N:Nat)(P:jv):Frag:=as.map λa=>(a,((hof p N P).get? a).getD ⟨.none,none,.plain,#[]⟩)
def fv(K:Frag)(f:Addr):Option (cA×Bool):=match K.lookup f with
 |some ⟨_,_,.func d,_⟩=>some ({ d with kwdefaults := .none,doc := .none,pyModule := .none,annotations:=none,code := .none,closureTuple := .none },codeIn K d.code d.qualname)
 |_=>none
def fe(x q:Str)(st:Stmt)(dV:Value):Option (cA×Bool):=some (fnOf x q (QT st) (Qy st) (Qc st) dV .none .none .none none .none .none,true)
def fv_get{K:Frag}{f:Addr}{x q:Str}{st:Stmt}{dV:Value}(h:fv K f=fe x q st dV):∃O od kV doc U an J ct G,K.lookup f=some ⟨O,od,.func (fnOf x q (QT st) (Qy st) (Qc st) dV kV doc U an J ct),G⟩/\codeIn K J q=true/\me K (.ref f)=true:=by
 unfold fv at h;split at h
 .rename_i O od d G e;obtain⟨n,m,ps,b,B,g,cl,df,j,doc,U,an,cd,ct,bl⟩:=d;have h2:=congrArg Prod.snd (aR h);have h1:=congrArg kr (aR h);cases h1;exact⟨O,od,j,doc,U,an,cd,ct,G,e,h2,by unfold me;dsimp only;rw[e]⟩
 .cases h
def fun_of{K:Frag}{f:Addr}{x q:Str}{st:Stmt}(h:fv K f=fe x q st .none):∃fd,Fun K x q st f fd:=by
 obtain⟨_,_,_,_,_,_,_,_,_,l,c,k⟩:=fv_get h;exact⟨_,fun_mk l c k⟩
def dv(K:Frag)(x:Str):Option (cA×Bool):=match nsIn K cG x with
 |some (some (.ref f))=>fv K f
 |_=>none
def Qpn{K:Frag}{x:Str}{st:Stmt}(h:dv K x=fe x x st .none):∃f fd,nsIn K cG x=some (some (.ref f))/\Fun K x x st f fd:=by
 unfold dv at h;split at h
 .rename_i f e;obtain⟨fd,F⟩:=fun_of h;exact⟨f,fd,e,F⟩
 .cases h
def mv(K:Frag)(C:Addr)(m:Str):Option (Bool×cA×Bool):=match eQ K (.ref C) m with
 |some (some (.ref f))=>(fv K f).map λx=>(isFn K (.ref f),x)
 |_=>none
def nm:Stmt->Str
 |.FunctionDef n ..=>n
 |_=>""
def an(st:Stmt):List Str:=(QT st).args.map (·.arg)
def mapE{α G:Type}{f g:α->G}{l:List α}(h:l.map f=l.map g):∀a,a∈l->f a=g a:=List.map_inj_left.mp h
theorem lb1{α:Type}{P:List α->Prop}(h:∀a,P [a]):∀us,us.length=1->P us
 |[a],_=>h a
theorem lb2{α:Type}{P:List α->Prop}(h:∀a b,P [a,b]):∀us,us.length=2->P us
 |[a,b],_=>h a b
theorem lb3{α:Type}{P:List α->Prop}(h:∀a b c,P [a,b,c]):∀us,us.length=3->P us
 |[a,b,c],_=>h a b c
theorem lb4{α:Type}{P:List α->Prop}(h:∀a b c d,P [a,b,c,d]):∀us,us.length=4->P us
 |[a,b,c,d],_=>h a b c d
def cnE{α G:Type}[BEq α][LawfulBEq α]{f g:α->G}{l:List α}(h:l.map f=l.map g):∀a,l.contains a=true->f a=g a:=λa j=>mapE h a (by simpa using j)
def iv:Option Value->Option Int
 |some (.int v _)=>some v
 |_=>none
def in_of{o:Option (Option Value)}{v:Int}(h:o.bind iv=some v):∃t,o=some (some (.int v t)):=by
 match o,h with
 |some (some (.int _ t)),h=>cases h;exact⟨t,rfl⟩
theorem lk_mem{D:Addr}{b:Bool}:∀{l:List (Addr×Bool)},l.lookup D=some b->(D,b)∈l
 | (a,c)::l,h=>by
  rw[bn]at h;cases e:D==a with
  |true=>rw[e]at h;cases h;rw[bM.mp e];exact .head _
  |false=>rw[e]at h;exact .tail _ (lk_mem h)
end HD
namespace L2.PM
open PySem PySem.Spec PyProof.Rows
def QlP(h1 : -(2^64)<j)(h2:j<2^64):cMul i j=true:=by
 unfold cMul;rw[ef];exact .inr (Qdd ⟨h1,h2⟩)
def QoU(h1 : -(2^64)<i)(h2:i<2^64):cMul i j=true:=by
 unfold cMul;rw[ef];exact .inl (Qdd ⟨h1,h2⟩)
theorem pAdd_i i j:pAdd (.int i) (.int j)=some (.int (i+j)):=rfl
def pSub_i i j:pSub (.int i) (.int j)=some (.int (i-j)):=rfl
theorem pMul_l(h1 : -(2^64)<i)(h2:i<2^64):pMul (.int i) (.int j)=some (.int (i*j)):=ak (QoU h1 h2)
def pMul_r(h1 : -(2^64)<j)(h2:j<2^64):pMul (.int i) (.int j)=some (.int (i*j)):=ak (QlP h1 h2)
theorem pMod_i(h:0<j):pMod (.int i) (.int j)=some (.int (i%j)):=ak (aE h)
theorem pDiv_i(h:0<j)(h2:j<2^200):pDiv (.int i) (.int j)=some (.int (i/j)):=ak (Qdd ⟨h,h2⟩)
def pLt_i i j:pLt (.int i) (.int j)=some (.bl (decide (i<j))):=rfl
def pLe_i i j:pLe (.int i) (.int j)=some (.bl (decide (i<=j))):=rfl
def pGt_i i j:pGt (.int i) (.int j)=some (.bl (decide (j<i))):=rfl
def pGe_i i j:pGe (.int i) (.int j)=some (.bl (decide (j<=i))):=rfl
def okv_int i:okv (.int i)=true:=by simp[okv,dep,okS]
def QaU(h:aW s=true):okv (.str s)=true:=by simp[okv,dep,okS,h]
def Qmo(h1:okv p=true)(h2:okv q=true):pEq p q=some (.bl (peq p q)):=ak ⟨h1,h2⟩
def pNe_ok(h1:okv p=true)(h2:okv q=true):pNe p q=some (.bl (!peq p q)):=ak ⟨h1,h2⟩
def pEq_i i j:pEq (.int i) (.int j)=some (.bl (i==j)):=by rfl
def pNe_i i j:pNe (.int i) (.int j)=some (.bl (!(i==j))):=by rfl
def Yb(h:n<=100000):n<=LIM:=aS h (by decide)
def Qja(h:n<=100000):n<LIM:=iq h (by decide)
def keepE_true ms γ:Qw true ms γ=γ:=rfl
def keepE_false ms γ:Qw false ms γ=frz ms γ:=rfl
def flat_int i:flat (.int i)=true:=rfl
def flat_bl i:flat (.bl i)=true:=rfl
def flat_str i:flat (.str i)=true:=rfl
def flat_non:flat .non=true:=rfl
def flat_tup i:flat (.tup i)=false:=rfl
def flat_lst i:flat (.lst i)=false:=rfl
def allflat_ints(ns:List Int):(ns.map PV.int).all flat=true:=by simp[flat]
def allflat_strs(ns:List Str):(ns.map PV.str).all flat=true:=by simp[flat]
def pIx_lst xs i:pIx (.lst xs) (.int i)=atI xs i:=rfl
def pIx_tup xs i:pIx (.tup xs) (.int i)=atI xs i:=rfl
theorem Xw{α:Type} f b y :
  ∀(xs:List α),(∀x∈xs,∃γ1,g (f x) γ=some γ1/\t γ1=some (b x)/\(b x=true->e γ1=some (y x)))->QaQ g t e γ (xs.map f)=some ((xs.filter b).map y)
 |[],_=>rfl
 |x::xs,h=>by
  obtain⟨γ1,h1,h2,j⟩:=h x bp;have m:=Xw f b y xs λz hz=>h z (aw _ hz);rw[aL,QaQ,h1,aQ,h2,aQ];grind
def ZH{α:Type} f y (xs:List α) (h:∀x∈xs,∃γ1,g (f x) γ=some γ1/\e γ1=some (y x)):QaQ g YE e γ (xs.map f)=some (xs.map y):=by
 have:=Xw (t:=YE) f (λ_=>true) y xs λx j=>by
  obtain⟨γ1,h1,h2⟩:=h x j;exact⟨γ1,h1,rfl,λ_=>h2⟩
 rw[this,List.filter_eq_self.mpr (λ_ _=>rfl)]
theorem Qgo{α:Type} f (R:List α->PEnv->Prop) xs :
  ∀ys pre γ,pre++ys=xs->R pre γ->(∀pre x post γ,pre++x::post=xs->R pre γ->∃γ1 G,g (f x) γ=some γ1/\b γ1=some (.nx G)/\R (pre++[x]) G)->∃γ',forL g b (ys.map f) γ=some (.nx γ')/\R xs γ'
 |[],pre,γ,e,r,_=>by
  rw[bQ]at e;subst e;exact⟨γ,rfl,r⟩
 |x::ys,pre,γ,e,r,h=>by
  obtain⟨γ1,G,h1,h2,j⟩:=h pre x ys γ e r;obtain⟨γ',m,B⟩:=Qgo f R xs ys (pre++[x]) G (by rw[fP];exact e) j h;refine⟨γ',?_,B⟩;rw[aL,forL,h1,aQ,h2,aQ];exact m
def pw(G:List Nat):Nat:=(G.map λi=>2^i).sum
def rngL_0 j:rngL 0 j=(az j.toNat).map λ(k:Nat)=>PV.int k:=by
 grind[rngL]
def rg1:PV->Option (List PV)
 |.int j=>if rOk j=true then some (rngL 0 j) else none
 |_=>none
def rg1_i(h1 : -100000<=j)(h2:j<=100000):rg1 (.int j)=some ((az j.toNat).map λ(k:Nat)=>PV.int k):=by
 have e:rg1 (.int j)=if rOk j=true then some (rngL 0 j) else none:=rfl;rw[e,ak (rOk_of (by omega) (by omega)),rngL_0]
def ev_iRg1 m γ:iRg1 m γ=(m γ).bind rg1:=by
 unfold iRg1;cases m γ with
 |none=>rfl
 |some p=>cases p<;>rfl
def itL:PV->Option (List PV)
 |.lst xs=>some xs
 |_=>none
def itL_l xs:itL (.lst xs)=some xs:=rfl
def ev_iLst m γ:iLst m γ=(m γ).bind itL:=by
 unfold iLst;cases m γ with
 |none=>rfl
 |some p=>cases p<;>rfl
def itT:PV->Option (List PV)
 |.tup xs=>some xs
 |_=>none
def itT_t xs:itT (.tup xs)=some xs:=rfl
def itS:PV->Option (List PV)
 |.lst xs=>some xs
 |.tup xs=>some xs
 |_=>none
def itS_l xs:itS (.lst xs)=some xs:=rfl
def itS_t xs:itS (.tup xs)=some xs:=rfl
def ev_iSeq m γ:iSeq m γ=(m γ).bind itS:=by
 unfold iSeq;cases m γ with
 |none=>rfl
 |some p=>cases p<;>rfl
def pEnum_l xs:QgQ [.lst xs]=some (xs.zipIdx.map λx=>.tup [pN x.2,x.1]):=rfl
def pEnum_t xs:pEnumT [.tup xs]=some (xs.zipIdx.map λx=>.tup [pN x.2,x.1]):=rfl
def cmpK(g:PV->PEnv->Option PEnv)(t:PEnv->Option Bool)(e:MEx)(γ:PEnv)(xs:List PV):Option (List PV):=if xs.length<=LIM then QaQ g t e γ xs else none
def cmpK_ok(h:xs.length<=100000):cmpK g t e γ xs=QaQ g t e γ xs:=ak (Yb h)
def ev_mComp mi nt caps g t e γ:Yg mi nt caps g t e γ=(mi γ).bind (cmpK g t e (blkG nt caps γ)):=rfl
def seqK(s2:MSt):Out->Option Out
 |.nx γ=>s2 γ
 |o=>some o
def seqK_nx s2 γ:seqK s2 (.nx γ)=s2 γ:=rfl
def seqK_rt s2 p:seqK s2 (.rt p)=some (.rt p):=rfl
def seqK_ro s2 p:seqK s2 (.ro p)=some (.ro p):=rfl
def seqK_ct s2 γ:seqK s2 (.ct γ)=some (.ct γ):=rfl
def seqK_bk s2 γ:seqK s2 (.bk γ)=some (.bk γ):=rfl
def ev_sSeq s1 s2 γ:sSeq s1 s2 γ=(s1 γ).bind (seqK s2):=by
 unfold sSeq;cases s1 γ with
 |none=>rfl
 |some o=>cases o<;>rfl
def ev_startG1 N ps:QK N ps=ps.map .fz++dB (N-ps.length) .un:=rfl
def outV_rt p:outV (.rt p)=some p:=rfl
def outV_ro xs:outV (.ro xs)=some (.lst xs):=rfl
def outV_nx γ:outV (.nx γ)=some .non:=rfl
def ev_bin2{α:Type}(f:PV->PV->Option α) m1 m2 γ:bin2 f m1 m2 γ=(m1 γ).bind λx=>(m2 γ).bind (f x):=rfl
def ev_mVar i γ:mVar i γ=getV γ i:=rfl
def ev_mC p γ:mC p γ=some p:=rfl
def ev_mCall{α:Type}(g:List PV->Option α) ma γ:Qg g ma γ=(ma γ).bind g:=rfl
def ev_mLst m γ:mLst m γ=(m γ).map PV.lst:=rfl
def tupK(xs:List PV):Option PV:=if xs.length<=LIM then some (.tup xs) else none
def tupK_ok(h:xs.length<=100000):tupK xs=some (.tup xs):=ak (Yb h)
def ev_mTup m γ:mTup m γ=(m γ).bind tupK:=rfl
def limK(xs:List PV):Option (List PV):=if xs.length<=LIM then some xs else none
def limK_ok(h:xs.length<=100000):limK xs=some xs:=ak (Yb h)
def ev_mLim m γ:mLim m γ=(m γ).bind limK:=rfl
def ev_aNil γ:aNil γ=some []:=rfl
def ev_aCons m ma γ:Qa m ma γ=(m γ).bind λx=>(ma γ).map (x :: ·):=rfl
theorem isB_bl b:isB (.bl b)=some b:=rfl
def ev_truB m γ:truB m γ=(m γ).bind isB:=rfl
def ev_mIsi f m γ:mIsi f m γ=(m γ).bind (isiK f):=rfl
def isiK_i f i:isiK f (.int i)=some (.bl (f (.int i))):=rfl
def isiK_b f i:isiK f (.bl i)=some (.bl (f (.bl i))):=rfl
def isiK_s f i:isiK f (.str i)=some (.bl (f (.str i))):=rfl
def isiK_t f i:isiK f (.tup i)=some (.bl (f (.tup i))):=rfl
def isiK_l f i:isiK f (.lst i)=some (.bl (f (.lst i))):=rfl
def isiK_0 f:isiK f .non=some (.bl (f .non)):=rfl
def isiK_n f i:isiK f (pN i)=some (.bl (f (pN i))):=rfl
def getV_0 s (γ:PEnv):getV (s::γ) 0=s.val:=rfl
def getV_s s (γ:PEnv) i:getV (s::γ) (i+1)=getV γ i:=rfl
def val_fz p:(Slot.fz p).val=some p:=rfl
def val_ow p:(Slot.ow p).val=some (.lst p):=rfl
def keep(k:Bool)(ms:List Nat)(γ:PEnv):PEnv:=Qw k ms γ
def ev_sRet m γ:sRet m γ=(m γ).map .rt:=rfl
def ev_sRetO m γ:QhX m γ=(m γ).map .ro:=rfl
def retS:Option Slot->Option Out
 |some (.ow xs)=>some (.ro xs)
 |some (.fz p)=>some (.rt p)
 |_=>none
def retS_ow xs:retS (some (.ow xs))=some (.ro xs):=rfl
def retS_fz p:retS (some (.fz p))=some (.rt p):=rfl
def ev_sRetV i γ:Qbl i γ=retS γ[i]?:=by
 unfold Qbl;cases γ[i]? with
 |none=>rfl
 |some s=>cases s<;>rfl
def ifK(s1 s2:MSt)(γ:PEnv)(k:Bool):Option Out:=if k=true then s1 γ else s2 γ
def ifK_t s1 s2 γ:ifK s1 s2 γ true=s1 γ:=rfl
def ifK_f s1 s2 γ:ifK s1 s2 γ false=s2 γ:=rfl
def ev_sIf t s1 s2 γ:sIf t s1 s2 γ=(t γ).bind (ifK s1 s2 γ):=rfl
def ev_sNx γ:sNx γ=some (.nx γ):=rfl
def ev_sBk γ:sBk γ=some (.bk γ):=rfl
def ev_sCt γ:sCt γ=some (.ct γ):=rfl
def ev_sSet ms i m γ:sSet ms i m γ=(m γ).map λr=>.nx ((Qw (flat r) ms γ).set i (.fz r)):=rfl
def ev_sSetO ms i m γ:QE ms i m γ=(m γ).map λxs=>.nx ((Qw (xs.all flat) ms γ).set i (.ow xs)):=rfl
def ev_gSet i p γ:gSet i p γ=some (γ.set i (.fz p)):=rfl
def gSet2_t i j x y γ:QbY i j (.tup [x,y]) γ=some ((γ.set i (.fz x)).set j (.fz y)):=rfl
def gSet3_t i j k x y z γ:gSet3 i j k (.tup [x,y,z]) γ=some (((γ.set i (.fz x)).set j (.fz y)).set k (.fz z)):=rfl
def appK(ms:List Nat)(i:Nat)(γ:PEnv)(r:PV):Option Slot->Option Out
 |some (.ow xs)=>if xs.length<LIM/\(flat r || !ms.contains i)=true then some (.nx ((Qw (flat r) ms γ).set i (.ow (xs++[r])))) else none
 |_=>none
def QaV(h:xs.length<=100000)(h2:(flat r || !ms.contains i)=true):appK ms i γ r (some (.ow xs))=some (.nx ((Qw (flat r) ms γ).set i (.ow (xs++[r])))):=ak ⟨Qja h,h2⟩
def ev_sApp ms i m γ:sApp ms i m γ=(m γ).bind λr=>appK ms i γ r γ[i]?:=by
 unfold sApp;cases γ[i]? with
 |none=>cases m γ<;>rfl
 |some s =>
  cases s with
  |ow xs=>rfl
  |_=>cases m γ<;>rfl
def sixK(ms:List Nat)(i:Nat)(γ:PEnv)(r k:PV):Option Slot->Option Out
 | some (.ow xs)=>match k with
  |.int j=>(ixN xs.length j).bind λn=>if (flat r || !ms.contains i)=true then some (.nx ((Qw (flat r) ms γ).set i (.ow (xs.set n r)))) else none
  |_=>none
 |_=>none
def sixK_ow{ms:List Nat}{i:Nat}{γ:PEnv}{r:PV}{xs:List PV}{j:Int}(h0:0<=j)(h1:j<xs.length)(h2:(flat r || !ms.contains i)=true):sixK ms i γ r (.int j) (some (.ow xs))=some (.nx ((Qw (flat r) ms γ).set i (.ow (xs.set j.toNat r)))):=by
 show((ixN xs.length j).bind λn=>if (flat r || !ms.contains i)=true then some (Out.nx ((Qw (flat r) ms γ).set i (.ow (xs.set n r)))) else none)=_;unfold ixN;rw[ak h0,ak h1,aQ,ak h2]
def ev_sSetIx ms i mv mi γ:Qcg ms i mv mi γ=(mv γ).bind λr=>(mi γ).bind λk=>sixK ms i γ r k γ[i]?:=by
 unfold Qcg;cases γ[i]? with
 |none=>cases mv γ<;>cases mi γ<;>rfl
 |some s =>
  cases s with
  |ow xs =>
   cases mv γ with
   |none=>rfl
   |some r =>
    cases mi γ with
    |none=>rfl
    |some k=>cases k<;>rfl
  |_=>cases mv γ<;>cases mi γ<;>rfl
def ev_sFor ms mi g b γ:sFor ms mi g b γ=(mi γ).bind λxs=>forL g b xs (frz ms γ):=rfl
def ev_sForR mi g b γ:Qac mi g b γ=(mi γ).bind λxs=>forL g b xs γ:=rfl
def capO:Option PV->Slot
 |some p=>.fz p
 |none=>.un
def capO_s p:capO (some p) = .fz p:=rfl
def ev_capS γ j:capS γ j=capO (getV γ j):=by
 unfold capS;cases getV γ j<;>rfl
def ev_blkG nt caps γ:blkG nt caps γ=dB nt .un++caps.map (capS γ):=rfl
def ev_tYesM γ:YE γ=some true:=rfl
def ev_mTru m γ:mTru m γ=(m γ).bind tru:=rfl
def tru_i i:tru (.int i)=some (i != 0):=rfl
def tru_b i:tru (.bl i)=some i:=rfl
def tru_l i:tru (.lst i)=some (!i.isEmpty):=rfl
def tru_t i:tru (.tup i)=some (!i.isEmpty):=rfl
def andK(t2:PEnv->Option Bool)(γ:PEnv)(x:Bool):Option Bool:=if x=true then t2 γ else some false
def andK_t t2 γ:andK t2 γ true=t2 γ:=rfl
def andK_f t2 γ:andK t2 γ false=some false:=rfl
def ev_bAnd t1 t2 γ:bAnd t1 t2 γ=(t1 γ).bind (andK t2 γ):=rfl
def orK(t2:PEnv->Option Bool)(γ:PEnv)(x:Bool):Option Bool:=if x=true then some true else t2 γ
def orK_t t2 γ:orK t2 γ true=some true:=rfl
def orK_f t2 γ:orK t2 γ false=t2 γ:=rfl
def ev_bOr t1 t2 γ:bOr t1 t2 γ=(t1 γ).bind (orK t2 γ):=rfl
def ev_bNot t1 γ:bNot t1 γ=(t1 γ).map not:=rfl
def vAndK(m2:MEx)(γ:PEnv)(k:Bool):Option PV:=if k=true then m2 γ else some (.bl false)
def vAndK_t m2 γ:vAndK m2 γ true=m2 γ:=rfl
def vAndK_f m2 γ:vAndK m2 γ false=some (.bl false):=rfl
def ev_vAnd m1 m2 γ:vAnd m1 m2 γ=(m1 γ).bind λx=>(isB x).bind (vAndK m2 γ):=rfl
def vOrK(m2:MEx)(γ:PEnv)(k:Bool):Option PV:=if k=true then some (.bl true) else m2 γ
def vOrK_t m2 γ:vOrK m2 γ true=some (.bl true):=rfl
def vOrK_f m2 γ:vOrK m2 γ false=m2 γ:=rfl
def ev_vOr m1 m2 γ:vOr m1 m2 γ=(m1 γ).bind λx=>(isB x).bind (vOrK m2 γ):=rfl
def ev_vNot m1 γ:vNot m1 γ=(m1 γ).bind λx=>(isB x).map λk=>.bl (!k):=rfl
def ifEK(m1 m2:MEx)(γ:PEnv)(k:Bool):Option PV:=if k=true then m1 γ else m2 γ
def ifEK_t m1 m2 γ:ifEK m1 m2 γ true=m1 γ:=rfl
def ifEK_f m1 m2 γ:ifEK m1 m2 γ false=m2 γ:=rfl
def ev_mIfE t m1 m2 γ:mIfE t m1 m2 γ=(t γ).bind (ifEK m1 m2 γ):=rfl
def chK(g:PV->PV->Option PV)(m3:MEx)(γ:PEnv)(y:PV)(k:Bool):Option PV:=if k=true then (m3 γ).bind λw=>g y w else some (.bl false)
def chK_t g m3 γ y:chK g m3 γ y true=(m3 γ).bind (g y):=rfl
def chK_f g m3 γ y:chK g m3 γ y false=some (.bl false):=rfl
def ev_ch3 f g m1 m2 m3 γ:ch3 f g m1 m2 m3 γ=(m1 γ).bind λx=>(m2 γ).bind λy=>(f x y).bind λz=>(isB z).bind (chK g m3 γ y):=rfl
def ev_un1 f m γ:un1 f m γ=(m γ).bind f:=rfl
def pNeg_i i:pNeg (.int i)=some (.int (-i)):=rfl
def mtK{α:Type}(T:String)(g:PV->List PV->Option α)(q:Option (List PV))(p:PV):Option α:=if tyOk T p=true then q.bind (g p) else none
def mtK_i(g:PV->List PV->Option α) q i:mtK "int" g q (.int i)=q.bind (g (.int i)):=rfl
def mtK_s(g:PV->List PV->Option α) q i:mtK "str" g q (.str i)=q.bind (g (.str i)):=rfl
def mtK_l(g:PV->List PV->Option α) q i:mtK "list" g q (.lst i)=q.bind (g (.lst i)):=rfl
def ev_mMt T (g:PV->List PV->Option α) m ma γ:mMt T g m ma γ=(m γ).bind (mtK T g (ma γ)):=rfl
def ev_mMt0 T (g:PV->List PV->Option α) m γ:mMt0 T g m γ=(m γ).bind (mtK T g (some [])):=rfl
def ev_sl3{α:Type}(f:PV->Option Int->Option Int->Option α) m ml mh γ:sl3 f m ml mh γ=(m γ).bind λx=>(ml γ).bind λl=>(mh γ).bind (f x l):=rfl
def ev_mNo γ:mNo γ=some none:=rfl
def ev_mSo m γ:mSo m γ=(m γ).bind pInt:=rfl
def pInt_i i:pInt (.int i)=some (some i):=rfl
def pCut_l xs lo hi:pCut (.lst xs) lo hi=some (cutP xs lo hi):=rfl
def pCutS_s(h:z.length<=100000) lo hi:QcE (.str z) lo hi=some (.str (bT z lo hi)):=ak (Yb h)
def pItems_l xs:XF [.lst xs]=some xs:=rfl
def pItems_t xs:XF [.tup xs]=some xs:=rfl
def pTuple_l xs:ZK [.lst xs]=some (.tup xs):=rfl
def pTuple_t xs:ZK [.tup xs]=some (.tup xs):=rfl
theorem pMin_i i j:pMin [.int i,.int j]=some (.int (if j<i then j else i)):=rfl
def pAdd_s(h:a.length+b.length<=100000):pAdd (.str a) (.str b)=some (.str (a++b)):=ak (Yb h)
def pCat_l(h:a.length+b.length<=100000):pCat (.lst a) (.lst b)=some (a++b):=ak (Yb h)
def tru_bit b:(((if b=true then 1 else 0):Int) != 0)=b:=by cases b<;>rfl
def isInt_i i:isInt (.int i)=true:=rfl
def isBl_i i:isBl (.int i)=false:=rfl
def isBl_b i:isBl (.bl i)=true:=rfl
def isStr_s i:isStr (.str i)=true:=rfl
def isTup_t i:Qmc (.tup i)=true:=rfl
def isTup_l i:Qmc (.lst i)=false:=rfl
def isLst_l i:isLst (.lst i)=true:=rfl
def isN_i i:isN (.int i)=false:=rfl
def isN_n:isN .non=true:=rfl
def isN_t i:isN (.tup i)=false:=rfl
def forL_nil g b γ:forL g b [] γ=some (.nx γ):=rfl
def runV_0:runV N 0 m []=(m (QK N [])).bind outV:=rfl
def runV_1:runV N 1 m [G]=(m (QK N [G])).bind outV:=rfl
def runV_2:runV N 2 m [G,J]=(m (QK N [G,J])).bind outV:=rfl
def runV_3:runV N 3 m [G,J,O]=(m (QK N [G,J,O])).bind outV:=rfl
def runV_4:runV N 4 m [G,J,O,U]=(m (QK N [G,J,O,U])).bind outV:=rfl
def runV_5:runV N 5 m [G,J,O,U,Y]=(m (QK N [G,J,O,U,Y])).bind outV:=rfl
def runV_6:runV N 6 m [G,J,O,U,Y,a5]=(m (QK N [G,J,O,U,Y,a5])).bind outV:=rfl
def runV_7:runV N 7 m [G,J,O,U,Y,a5,a6]=(m (QK N [G,J,O,U,Y,a5,a6])).bind outV:=rfl
def frzS:Slot->Slot
 |.ow xs=>.fz (.lst xs)
 |.od kvs=>.fz (.dcw kvs)
 |s=>s
def frzS_ow xs:frzS (.ow xs) = .fz (.lst xs):=rfl
def frzS_fz p:frzS (.fz p) = .fz p:=rfl
def frzS_un:frzS .un = .un:=rfl
def frz_nil γ:frz [] γ=γ:=rfl
def frz_cons i ms γ:frz (i::ms) γ=frz ms (frz1 γ i):=rfl
def frz1_0 s (γ:PEnv):frz1 (s::γ) 0=frzS s::γ:=by cases s<;>rfl
def frz1_s s (γ:PEnv) i:frz1 (s::γ) (i+1)=s::frz1 γ i:=by
 unfold frz1;rw[jE];cases γ[i]? with
 |none=>rfl
 |some t=>cases t<;>rfl
def ev_mN n γ:mN n γ=some (pN n):=rfl
def encN(xs:List Nat):List PV:=xs.map pN
def encN_len xs:(encN xs).length=xs.length:=aj _
def flat_n n:flat (pN n)=true:=rfl
def encN_flat xs:(encN xs).all flat=true:=by
 unfold encN;rw[eD,aV];exact λ_ _=>rfl
def pAdd_n a b:pAdd (pN a) (pN b)=some (pN (a+b)):=by
 grind[pN,pAdd_i]
def pSub_n(h:b<=a):pSub (pN a) (pN b)=some (pN (a-b)):=by
 unfold pN;rw[pSub_i,Int.ofNat_sub h]
def pMul_ln(h:a<2^60):pMul (pN a) (pN b)=some (pN (a*b)):=by
 grind[pN,pMul_l]
def pMul_rn(h:b<2^60):pMul (pN a) (pN b)=some (pN (a*b)):=by
 unfold pN;rw[pMul_r (by omega) (by omega)];simp
def pMod_n(h:0<b):pMod (pN a) (pN b)=some (pN (a%b)):=by
 grind[pN,pMod_i]
def pMod_in(h:0<b):pMod (.int c) (pN b)=some (pN (c%b).toNat):=by
 unfold pN;rw[pMod_i (by omega),Int.toNat_of_nonneg (lZ _ (by omega))]
def pDiv_n(h:0<b)(h2:b<2^100):pDiv (pN a) (pN b)=some (pN (a/b)):=by
 grind[pN,pDiv_i]
def pDiv_in(h:0<b)(h2:b<2^100):pDiv (.int c) (pN b)=some (.int (c/b)):=by
 unfold pN;rw[pDiv_i (by omega) (by omega)]
def pLt_n a b:pLt (pN a) (pN b)=some (.bl (decide (a<b))):=by
 unfold pN;rw[pLt_i];simp
def pLe_n a b:pLe (pN a) (pN b)=some (.bl (decide (a<=b))):=by
 unfold pN;rw[pLe_i];simp
def pGt_n a b:pGt (pN a) (pN b)=some (.bl (decide (b<a))):=by
 unfold pN;rw[pGt_i];simp
def pGe_n a b:pGe (pN a) (pN b)=some (.bl (decide (b<=a))):=by
 unfold pN;rw[pGe_i];simp
def Qds(a b:Nat):(a==(b:Int))=(a==b):=by
 rw[eY,bM,bM];exact Int.ofNat_inj
def pEq_n a b:pEq (pN a) (pN b)=some (.bl (a==b)):=by
 unfold pN;rw[pEq_i,Qds]
def pNe_n a b:pNe (pN a) (pN b)=some (.bl (!(a==b))):=by
 unfold pN;rw[pNe_i,Qds]
def testBit_odd(m k:Nat):((m/2^k)&&&1 != 0)=m.testBit k:=by
 rw[Nat.testBit,Nat.shiftRight_eq_div_pow,Nat.and_comm]
def testBit_mod m k:(m/2^k%2==1)=m.testBit k:=by
 grind
def pMin_n a b:pMin [pN a,pN b]=some (pN (min a b)):=by
 grind[pN,pMin_i]
def pLen_ln xs:pLen [.lst xs]=some (pN xs.length):=rfl
def pLen_tn xs:pLen [.tup xs]=some (pN xs.length):=rfl
def pLen_sn(h:z.length<=100000):pLen [.str z]=some (pN z.length):=ak (Yb h)
def rg1_n(h:n<=100000):rg1 (pN n)=some (encN (az n)):=by
 unfold pN;rw[rg1_i (by lia) (by lia),cu];rfl
def mtK_n(g:PV->List PV->Option α) q i:mtK "int" g q (pN i)=q.bind (g (pN i)):=rfl
def isInt_n i:isInt (pN i)=true:=rfl
def isBl_n i:isBl (pN i)=false:=rfl
def isTup_n i:Qmc (pN i)=false:=rfl
def isN_pn i:isN (pN i)=false:=rfl
def tru_n i:tru (pN i)=some (i != 0):=by
 have:=Qds i 0;show some (!(i==((0:Nat):Int)))=_;rw[this];rfl
def pNeg_n i:pNeg (pN i)=some (.int (-i)):=rfl
def atI_last1 xs (v:PV):atI (xs++[v]) (-((1:Nat)))=some v:=atI_last xs v
def pInt_n i:pInt (pN i)=some (some (i:Int)):=rfl
def QkX(xs:List α)(i:Nat):atI xs i=xs[i]?:=by
 cases h:xs[i]? with
 |some v=>exact QnL h
 |none =>
  have:=jm.mp h;unfold atI ixN;rw[ak (by omega),ar (by omega)];rfl
def pIx_ln xs i:pIx (.lst xs) (pN i)=xs[i]?:=QkX xs i
def pIx_tn xs i:pIx (.tup xs) (pN i)=xs[i]?:=QkX xs i
def encN_get xs (i:Nat):(encN xs)[i]?=(xs[i]?).map pN:=by grind[encN]
def sixK_n(h1:j<xs.length)(h2:(flat r || !ms.contains i)=true):sixK ms i γ r (pN j) (some (.ow xs))=some (.nx ((Qw (flat r) ms γ).set i (.ow (xs.set j r)))):=by
 have:=sixK_ow (γ:=γ) (xs:=xs) (j:=j) (by lia) (by lia) h2;exact this
def peq_pn a b:peq (pN a) (pN b)=(a==b):=by
 unfold pN;have:peq (.int a) (.int b)=(a==(b:Int)):=rfl;rw[this,Qds]
def okv_n a:okv (pN a)=true:=okv_int _
def Qkr xs:(encN xs).all okv=true:=by
 unfold encN;rw[eD,aV];exact λ_ _=>okv_n _
def any_pn k xs:((encN xs).any λy=>peq y (pN k))=decide (k∈xs):=by
 unfold encN;rw[fr,eY,eS];simp[peq_pn]
def pIn_nl k xs:pIn (pN k) (.lst (encN xs))=some (.bl (decide (k∈xs))):=by
 have e:pIn (pN k) (.lst (encN xs))=if okv (pN k)=true/\(encN xs).all okv=true then some (.bl ((encN xs).any λy=>peq y (pN k))) else none:=rfl;rw[e,ak ⟨okv_n k,Qkr xs⟩,any_pn]
def pIn_nt k xs:pIn (pN k) (.tup (encN xs))=some (.bl (decide (k∈xs))):=by
 have e:pIn (pN k) (.tup (encN xs))=if okv (pN k)=true/\(encN xs).all okv=true then some (.bl ((encN xs).any λy=>peq y (pN k))) else none:=rfl;rw[e,ak ⟨okv_n k,Qkr xs⟩,any_pn]
def QdZ(h:pIn x y=some (.bl b)):Qat x y=some (.bl (!b)):=by
 grind[Qat]
def pNotIn_nl k xs:Qat (pN k) (.lst (encN xs))=some (.bl (!decide (k∈xs))):=QdZ (pIn_nl k xs)
def pNotIn_nt k xs:Qat (pN k) (.tup (encN xs))=some (.bl (!decide (k∈xs))):=QdZ (pIn_nt k xs)
def cutP_map{α G:Type}(f:α->G) xs lo hi:cutP (xs.map f) lo hi=(cutP xs lo hi).map f:=by
 grind[cutP,ii,d8]
def cutP_nn{α:Type}(xs:List α)(a b:Nat):cutP xs (some a) (some b)=(xs.take b).drop a:=by
 unfold cutP;rw[HT.sIx_nat,HT.sIx_nat];apply fO;intro i;rw[lh,iu,iu,lh];by_cases h:min a xs.length+i<xs.length
 .have j:min a xs.length=a:=by omega
  rw[j];by_cases h2:i<min b xs.length-a
  .rw[ak h2,ak (by omega)]
  .rw[ar h2,ar (by omega)]
 .have hn:xs[min a xs.length+i]?=none:=aY (by omega);rw[hn];by_cases m:a+i<b
  .rw[ak m,aY (by omega)];split<;>rfl
  .split<;>rfl
def QdO{α:Type}(xs:List α)(b:Nat):cutP xs none (some b)=xs.take b:=by
 unfold cutP;rw[HT.sIx_nat,HT.sIx_none];simp
def QiH{α:Type}(xs:List α)(a:Nat):cutP xs (some a) none=xs.drop a:=by
 unfold cutP;rw[HT.sIx_nat,HT.sIx_none];rw[cU (by rw[bu];omega)];by_cases h:a<=xs.length
 .rw[Nat.min_eq_left h]
 .rw[Nat.min_eq_right (by omega),eR,List.drop_of_length_le (by omega)]
def Qox s r:QcF (.str s::r)=none:=rfl
def pSort_s(h:G.length<64):Qgx [.lst (G.map .str)]=some ((Ze G).map .str):=by
 cases G with
 |nil=>simp[Qgx,QcF,QeO,Ze]
 |cons s r =>
  show(match QcF (.str s::r.map .str) with
   |some ns=>if ns.length<64 then some ((QeO ns).map PV.int) else none
   | none=>match ZI ((s::r).map .str) with
    |some G=>if G.length<64 then some ((Ze G).map PV.str) else none
    |none=>none)=_
  rw[Qox,strs?_map];exact ak h
def pSort_i(h:G.length<64):Qgx [.lst (G.map .int)]=some ((QeO G).map .int):=by
 show(match QcF (G.map .int) with
   |some ns=>if ns.length<64 then some ((QeO ns).map PV.int) else none
   | none=>match ZI (G.map .int) with
    |some G=>if G.length<64 then some ((Ze G).map PV.str) else none
    |none=>none)=_
 rw[Qoy];exact ak h
theorem QnS G:(Ze G).length=G.length:=(QW G).length_eq
def Qkq{G:List Str}(h:∀s∈G,aW s=true):(G.map PV.str).all okv=true:=by
 rw[eD,aV];exact λs hs=>QaU (h s hs)
def peq_s a b:peq (.str a) (.str b)=(a==b):=rfl
def Qmn{G:List Str}(h:aW s=true)(hs:∀s∈G,aW s=true):pIn (.str s) (.lst (G.map .str))=some (.bl (G.any (·==s))):=by
 have e:pIn (.str s) (.lst (G.map .str))=if okv (.str s)=true/\(G.map PV.str).all okv=true then some (.bl ((G.map PV.str).any λy=>peq y (.str s))) else none:=rfl;rw[e,ak ⟨QaU h,Qkq hs⟩,fr];congr 3
def pIn_st{G:List Str}(h:aW s=true)(hs:∀s∈G,aW s=true):pIn (.str s) (.tup (G.map .str))=some (.bl (G.any (·==s))):=by
 have e:pIn (.str s) (.tup (G.map .str))=if okv (.str s)=true/\(G.map PV.str).all okv=true then some (.bl ((G.map PV.str).any λy=>peq y (.str s))) else none:=rfl;rw[e,ak ⟨QaU h,Qkq hs⟩,fr];congr 3
def Qhr{G:List Str}(h:aW s=true)(hs:∀s∈G,aW s=true):Qat (.str s) (.lst (G.map .str))=some (.bl (!G.any (·==s))):=QdZ (Qmn h hs)
theorem QP(G:aW a=true)(J:aW b=true):pEq (.str a) (.str b)=some (.bl (a==b)):=by rw[Qmo (QaU G) (QaU J),peq_s]
def QeN(G:aW a=true)(J:aW b=true):pNe (.str a) (.str b)=some (.bl (!(a==b))):=by rw[pNe_ok (QaU G) (QaU J),peq_s]
def allflat_nats(ns:List Nat):(ns.map λ(k:Nat)=>PV.int k).all flat=true:=by simp[flat]
def Qca(a b:Str):(a++b).length=a.length+b.length:=by
 show(a.cps++b.cps).size=_;rw[iI];rfl
theorem QhT(a b c:Str):a++b++c=a++(b++c):=by
 show(⟨a.cps++b.cps++c.cps⟩:Str)=⟨a.cps++(b.cps++c.cps)⟩;grind
def Qhg G:aM G [] = "":=by
 rfl
theorem Yc G x:aM G [x]=x:=by
 rfl
theorem Zl G x y r:aM G (x::y::r)=x++G++aM G (y::r):=by
 unfold aM;rw[im,im];rfl
theorem Zr G J:(aM G J).length=(J.map b9).sum+(J.length-1)*G.length:=by
 grind[aM,PySem.size_glued]
def QdF(G:List Str) b (h:∀s∈G,s.length<=b):(G.map b9).sum<=G.length*b:=by
 induction G with
 |nil=>simp
 |cons x l j =>
  have h1:=j λk m=>h k (aw _ m);have h2:=h x (by simp);simp only[aL,jw,aK,Nat.succ_mul];omega
def EVc:=(ae (ae (ae (ae (ae (ae (ae @ev_mN (ae @encN_len @encN_flat)) (ae @flat_n (ae @pAdd_n @pSub_n))) (ae (ae @pMul_ln (ae @pMul_rn @pMod_n)) (ae (ae @pMod_in @pDiv_n) (ae @pDiv_in @pLt_n)))) (ae (ae (ae @pLe_n (ae @pGt_n @pGe_n)) (ae (ae @pEq_n @pNe_n) (ae @testBit_odd @testBit_mod))) (ae (ae @pMin_n (ae @rg1_n @mtK_n)) (ae (ae @isInt_n @isBl_n) (ae @isTup_n @isN_pn))))) (ae (ae (ae (ae @tru_n (ae @pNeg_n @atI_last1)) (ae (ae @pInt_n @pIx_ln) (ae @pIx_tn @encN_get))) (ae (ae @sixK_n (ae @pIn_nl @pIn_nt)) (ae (ae @pNotIn_nl @pNotIn_nt) (ae @runV_0 @runV_1)))) (ae (ae (ae @runV_2 (ae @runV_3 @runV_4)) (ae (ae @runV_5 @runV_6) (ae @runV_7 @ev_startG1))) (ae (ae @ev_sSeq (ae @seqK_nx @seqK_rt)) (ae (ae @seqK_ro @seqK_ct) (ae @seqK_bk @ev_sSet)))))) (ae (ae (ae (ae (ae @ev_sSetO (ae @ev_sRet @ev_sRetO)) (ae (ae @ev_sRetV @retS_ow) (ae @retS_fz @ev_sIf))) (ae (ae @ifK_t (ae @ifK_f @ev_sNx)) (ae (ae @ev_sBk @ev_sCt) (ae @ev_bin2 @ev_mVar)))) (ae (ae (ae @ev_mC (ae @ev_mCall @ev_mLst)) (ae (ae @ev_mTup @tupK_ok) (ae @ev_mLim @limK_ok))) (ae (ae @ev_aCons (ae @ev_aNil @ev_truB)) (ae (ae @isB_bl @ev_mIsi) (ae @isiK_i @isiK_b))))) (ae (ae (ae (ae @isiK_s (ae @isiK_t @isiK_l)) (ae (ae @isiK_0 @isiK_n) (ae @getV_0 @getV_s))) (ae (ae @val_fz (ae @val_ow @pAdd_i)) (ae (ae @pSub_i @pLt_i) (ae @pLe_i @pGt_i)))) (ae (ae (ae @pGe_i (ae @pEq_i @pNe_i)) (ae (ae @pLen_ln @pLen_tn) (ae @pIx_lst @pIx_tup))) (ae (ae @keepE_true (ae @keepE_false @flat_int)) (ae (ae @flat_bl @flat_str) (ae @flat_non @flat_tup))))))) (ae (ae (ae (ae (ae (ae @flat_lst (ae @outV_rt @outV_ro)) (ae (ae @outV_nx @ev_bAnd) (ae @andK_t @andK_f))) (ae (ae @ev_bOr (ae @orK_t @orK_f)) (ae (ae @ev_bNot @ev_vAnd) (ae @vAndK_t @vAndK_f)))) (ae (ae (ae @ev_vOr (ae @vOrK_t @vOrK_f)) (ae (ae @ev_vNot @ev_mIfE) (ae @ifEK_t @ifEK_f))) (ae (ae @ev_ch3 (ae @chK_t @chK_f)) (ae (ae @ev_un1 @pNeg_i) (ae @ev_mMt0 @ev_mMt))))) (ae (ae (ae (ae @mtK_i (ae @mtK_s @mtK_l)) (ae (ae @ev_sForR @ev_sFor) (ae @ev_mComp @cmpK_ok))) (ae (ae @ev_iRg1 (ae @rg1_i @ev_iLst)) (ae (ae @itL_l @itT_t) (ae @ev_iSeq @itS_l)))) (ae (ae (ae @itS_t (ae @pEnum_l @pEnum_t)) (ae (ae @ev_blkG @ev_capS) (ae @capO_s @ev_gSet))) (ae (ae @gSet2_t (ae @gSet3_t @ev_mTru)) (ae (ae @tru_i @tru_b) (ae @tru_l @tru_t)))))) (ae (ae (ae (ae (ae @ev_tYesM (ae @pMod_i @pDiv_i)) (ae (ae @pMul_l @pMul_r) (ae @tru_bit @ev_sl3))) (ae (ae @ev_mNo (ae @ev_mSo @pInt_i)) (ae (ae @pCut_l @pCutS_s) (ae @pItems_l @pItems_t)))) (ae (ae (ae @pTuple_l (ae @pTuple_t @pMin_i)) (ae (ae @pLen_sn @pAdd_s) (ae @pCat_l @isInt_i))) (ae (ae @isBl_i (ae @isBl_b @isStr_s)) (ae (ae @isTup_t @isTup_l) (ae @isLst_l @isN_i))))) (ae (ae (ae (ae @isN_n (ae @isN_t @forL_nil)) (ae (ae @frz_nil @frz_cons) (ae @frz1_0 @frz1_s))) (ae (ae @frzS_ow (ae @frzS_fz @frzS_un)) (ae (ae @ev_sApp @ev_sSetIx) (ae @sixK_ow @allflat_ints)))) (ae (ae (ae @allflat_strs (ae @allflat_nats @cutP_map)) (ae (ae @Nat.not_lt_zero @decide_true) (ae @decide_false @jy))) (ae (ae @Bool.not_false (ae @Bool.true_or @jz)) (ae (ae @eG @ik) (ae @ij @jj))))))))
end L2.PM
set_option maxHeartbeats 4000000
namespace DH
open PySem PySem.Spec PyProof.Rows L2 L2.PM
def XC:MSt:=(sSeq (sSet [2] 2 (bin2 pMod (bin2 pMul (mVar 2) (mN 48271)) (mN 2147483647)))
 (sApp [2] 3 (bin2 pDiv (mVar 2) (mN 13))))
def QcP:MSt:=(sSeq (sSet [0] 2 (bin2 pMod (bin2 pMul (bin2 pAdd (bin2 pMod (mVar 0) (mN 2147483629)) (mN 1)) (mN 1103515245)) (mN 2147483647)))
 (sSeq (QE [] 3 (mLim aNil))
 (sSeq (Qac (iRg1 (mVar 1)) (gSet 4) XC)
 (Qbl 3))))
def Qv:List PV->Option PV:=runV 5 2 QcP
def XB:MSt:=(sSeq (sSet [0] 0 (bin2 pMod (bin2 pAdd (bin2 pMul (mVar 0) (mN 69621)) (mN 1)) (mN 2147483647)))
 (sSet [3,2,0] 3 (bin2 pAdd (mVar 3) (bin2 pIx (mVar 2) (bin2 pMod (bin2 pDiv (mVar 0) (mN 17)) (mN 26))))))
def QcM:MSt:=(sSeq (sSet [] 2 (mC (.str "abcdefghijklmnopqrstuvwxyz")))
 (sSeq (sSet [] 3 (mC (.str "")))
 (sSeq (Qac (iRg1 (mVar 1)) (gSet 4) XB)
 (Qbl 3))))
def ZT:List PV->Option PV:=runV 5 2 QcM
def XQ:MSt:=(sSeq (sSet [] 2 (mC (.str "abcdefghijklmnopqrstuvwxyz")))
 (sSeq (QE [0,0] 3 (Qg QiU (Qa (Qg ZT (Qa (bin2 pIx (mVar 0) (mN 0)) (Qa (bin2 pAdd (mN 2) (bin2 pMod (bin2 pIx (mVar 0) (mN 1)) (mN 11))) aNil))) aNil)))
 (sSeq (sSet [0,3] 4 (bin2 pMod (bin2 pIx (mVar 0) (mN 2)) (Qg pLen (Qa (mVar 3) aNil))))
 (sSeq (sSet [4,0,3,3] 5 (bin2 pMod (bin2 pAdd (bin2 pAdd (mVar 4) (mN 1)) (bin2 pMod (bin2 pIx (mVar 0) (mN 3)) (bin2 pSub (Qg pLen (Qa (mVar 3) aNil)) (mN 1)))) (Qg pLen (Qa (mVar 3) aNil))))
 (sSeq (Qcg [2,0,1,0] 3 (bin2 pIx (mVar 2) (bin2 pMod (bin2 pAdd (bin2 pIx (mVar 0) (mN 4)) (bin2 pMul (mVar 1) (bin2 pIx (mLst (mLim (Qa (mN 1) (Qa (mN 3) (Qa (mN 5) (Qa (mN 7) (Qa (mN 9) (Qa (mN 11) aNil)))))))) (bin2 pMod (bin2 pIx (mVar 0) (mN 5)) (mN 6))))) (mN 26))) (mVar 4))
 (sSeq (Qcg [2,0,1] 3 (bin2 pIx (mVar 2) (bin2 pMod (bin2 pAdd (bin2 pIx (mVar 0) (mN 6)) (bin2 pDiv (mVar 1) (mN 26))) (mN 26))) (mVar 5))
 (sRet (mMt "str" QhZ (mC (.str "")) (Qa (mVar 3) aNil)))))))))
def ZO:List PV->Option PV:=runV 6 2 XQ
def XL:MSt:=(sSeq (sSet [0] 2 (Qg ZT (Qa (bin2 pIx (mVar 0) (mN 0)) (Qa (mN 12) aNil))))
 (sSeq (sSet [1,0] 3 (bin2 pMod (bin2 pAdd (bin2 pMul (mVar 1) (mN 7)) (bin2 pIx (mVar 0) (mN 1))) (mN 30)))
 (sSeq (sIf (truB (bin2 pLt (mVar 3) (mN 12))) (sRet (sl3 QcE (mVar 2) mNo (mSo (bin2 pAdd (mN 1) (mVar 3))))) sNx)
 (sSeq (sIf (truB (bin2 pLt (mVar 3) (mN 23))) (sRet (sl3 QcE (mVar 2) (mSo (bin2 pSub (mVar 3) (mN 11))) mNo)) sNx)
 (sRet (sl3 QcE (un1 pRvS (mVar 2)) mNo (mSo (bin2 pSub (mVar 3) (mN 20)))))))))
def ZM:List PV->Option PV:=runV 4 2 XL
def XO:MSt:=(sSeq (QE [] 1 (mLim (Qa (mC (.str "guesss")) (Qa (mC (.str "gues")) (Qa (mC (.str "uess")) (Qa (mC (.str "unles")) (Qa (mC (.str "nless")) (Qa (mC (.str "ifs")) (Qa (mC (.str "fi")) (Qa (mC (.str "i")) (Qa (mC (.str "f")) (Qa (mC (.str "unlessif")) (Qa (mC (.str "guessif")) (Qa (mC (.str "ifguess")) aNil))))))))))))))
 (sSeq (QE [1] 1 (bin2 pCat (mVar 1) (mLst (mLim (Qa (mC (.str "guesses")) (Qa (mC (.str "guessunless")) (Qa (mC (.str "iff")) (Qa (mC (.str "unlessguess")) aNil))))))))
 (sRet (bin2 pIx (mVar 1) (bin2 pMod (mVar 0) (mN 16))))))
def ZN:List PV->Option PV:=runV 2 1 XO
def ZP:MSt:=(sSeq (sSet [2,4,2,4] 5 (Qg ZT (Qa (bin2 pIx (mVar 2) (mVar 4)) (Qa (bin2 pAdd (mN 1) (bin2 pMod (bin2 pDiv (bin2 pIx (mVar 2) (bin2 pAdd (mVar 4) (mN 1))) (mN 5)) (mN 12))) aNil))))
 (sSeq (sIf (truB (bin2 pEq (bin2 pMod (bin2 pIx (mVar 2) (mN 40)) (mN 4)) (mN 1))) (sSet [2,4] 5 (Qg ZO (Qa (mVar 2) (Qa (mVar 4) aNil)))) sNx)
 (sSeq (sIf (bAnd (truB (bin2 pEq (bin2 pMod (bin2 pIx (mVar 2) (mN 40)) (mN 4)) (mN 2))) (truB (bin2 pLt (mVar 4) (mN 30)))) (sSet [2,4] 5 (Qg ZM (Qa (mVar 2) (Qa (mVar 4) aNil)))) sNx)
 (sSeq (sIf (bAnd (truB (bin2 pEq (bin2 pMod (bin2 pIx (mVar 2) (mN 40)) (mN 4)) (mN 3))) (truB (bin2 pLt (mVar 4) (mN 16)))) (sSet [4,2] 5 (Qg ZN (Qa (bin2 pAdd (mVar 4) (bin2 pIx (mVar 2) (mN 41))) aNil))) sNx)
 (sSeq (sIf (truB (bin2 pIn (mVar 5) (mTup (Qa (mC (.str "guess")) (Qa (mC (.str "unless")) (Qa (mC (.str "if")) aNil)))))) (sSet [5] 5 (bin2 pAdd (mVar 5) (mC (.str "a")))) sNx)
 (sIf (truB (bin2 Qat (mVar 5) (mVar 3))) (sApp [5] 3 (mVar 5)) sNx))))))
def QaC:MSt:=(sSeq (sSet [0] 2 (Qg Qv (Qa (mVar 0) (Qa (mN 44) aNil))))
 (sSeq (QE [] 3 (mLim aNil))
 (sSeq (Qac (iRg1 (mVar 1)) (gSet 4) ZP)
 (Qbl 3))))
def Zz:List PV->Option PV:=runV 6 2 QaC
def Qba:MSt:=(sSeq (sIf (truB (bin2 pLt (mVar 1) (Qg pLen (Qa (mVar 0) aNil)))) (sRet (bin2 pIx (mVar 0) (mVar 1))) sNx)
 (sRet (mN 0)))
def Qn:List PV->Option PV:=runV 2 2 Qba
def ZA:MSt:=(sSeq (sSet [1,3,5,1] 6 (bin2 pIx (mVar 1) (bin2 pMod (bin2 pIx (mVar 3) (bin2 pAdd (mN 1) (mVar 5))) (Qg pLen (Qa (mVar 1) aNil)))))
 (sIf (truB (bin2 Qat (mVar 6) (mVar 4))) (sApp [6] 4 (mVar 6)) sNx))
def QaY:MSt:=(sSeq (sSet [0] 3 (Qg Qv (Qa (mVar 0) (Qa (mN 8) aNil))))
 (sSeq (QE [] 4 (mLim aNil))
 (sSeq (Qac (iRg1 (bin2 pMod (bin2 pIx (mVar 3) (mN 0)) (mN 7))) (gSet 5) ZA)
 (sRet (mTup (Qa (mC (.str "rule")) (Qa (bin2 pIx (mVar 1) (bin2 pAdd (mVar 2) (bin2 pMod (bin2 pIx (mVar 3) (mN 7)) (bin2 pSub (Qg pLen (Qa (mVar 1) aNil)) (mVar 2))))) (Qa (Qg ZK (Qa (mVar 4) aNil)) aNil))))))))
def Yt:List PV->Option PV:=runV 7 3 QaY
def Qes:MSt:=(sSeq (sIf (bOr (truB (bin2 pNe (bin2 pIx (mVar 0) (mN 0)) (bin2 pIx (mVar 1) (mN 0)))) (bOr (truB (bin2 pNe (bin2 pIx (mVar 0) (mN 1)) (bin2 pIx (mVar 1) (mN 1)))) (truB (bin2 pEq (bin2 pIx (mVar 0) (mN 0)) (mC (.str "bad")))))) (sRet (mC (.bl false))) sNx)
 (sRet (vOr (bin2 pEq (bin2 pIx (mVar 0) (mN 0)) (mC (.str "guess"))) (bin2 pEq (mLst (Qg QeU (Qa (bin2 pIx (mVar 0) (mN 2)) aNil))) (mLst (Qg QeU (Qa (bin2 pIx (mVar 1) (mN 2)) aNil)))))))
def Yq:List PV->Option PV:=runV 2 2 Qes
def QeF:∀ps r,Yq ps=some r->ps.length=2:=Qai
def Zc:MSt:=(QE [3,0,5,5] 3 (bin2 pCat (mVar 3) (mLst (mLim (Qa (bin2 pAdd (bin2 pMod (Qg Qn (Qa (mVar 0) (Qa (mN 2) aNil))) (bin2 pPow (mN 10) (mN 60))) (bin2 pMul (bin2 pMul (mN 7919) (mVar 5)) (mVar 5))) aNil)))))
def Zb:MSt:=(sIf (bAnd (truB (bin2 pLt (Qg pLen (Qa (mVar 6) aNil)) (mVar 4))) (truB (bin2 pLt (mVar 2) (Qg pLen (Qa (mVar 1) aNil))))) (sSeq (sSet [7,1,2] 8 (Qg Yt (Qa (mVar 7) (Qa (mVar 1) (Qa (mVar 2) aNil)))))
 (sIf (truB (bin2 pEq (Qg pLen (Qa (mLst (Yg (iLst (mVar 6)) 1 [8] (gSet 0) (mTru (Qg Yq (Qa (mVar 0) (Qa (mVar 1) aNil)))) (mVar 0))) aNil)) (mN 0))) (sApp [8] 6 (mVar 8)) sNx)) sNx)
def Za:MSt:=(sSeq (sSet [1,9,5,1] 10 (bin2 pIx (mVar 1) (bin2 pMod (bin2 pIx (mVar 9) (mVar 5)) (Qg pLen (Qa (mVar 1) aNil)))))
 (sIns [1,5,10] 6 (bin2 pMod (bin2 pIx (mVar 9) (bin2 pAdd (mN 9) (mVar 5))) (bin2 pAdd (Qg pLen (Qa (mVar 6) aNil)) (mN 1))) (mTup (Qa (mC (.str "guess")) (Qa (bin2 pIx (mVar 1) (mVar 5)) (Qa (mVar 10) aNil))))))
def XR:MSt:=(sSeq (QE [0] 3 (sl3 pCut (mVar 0) (mSo (mN 3)) (mSo (mN 45))))
 (sSeq (sSet [3] 4 (Qg pLen (Qa (mVar 3) aNil)))
 (sSeq (sIf (truB (bin2 pEq (bin2 pMod (Qg Qn (Qa (mVar 0) (Qa (mN 0) aNil))) (mN 3)) (mN 1))) (sSet [0] 4 (bin2 pAdd (mN 38) (bin2 pMod (bin2 pDiv (Qg Qn (Qa (mVar 0) (Qa (mN 0) aNil))) (mN 3)) (mN 5)))) sNx)
 (sSeq (Qac (iRg1 (mN 42)) (gSet 5) Zc)
 (sSeq (QE [] 6 (mLim aNil))
 (sSeq (sFor [3] (iLst (mVar 3)) (gSet 7) Zb)
 (sSeq (sSet [0] 9 (Qg Qv (Qa (bin2 pDiv (Qg Qn (Qa (mVar 0) (Qa (mN 1) aNil))) (mN 7)) (Qa (mN 20) aNil))))
 (sSeq (Qac (iRg1 (mVar 2)) (gSet 5) Za)
 (Qbl 6)))))))))
def QQ:List PV->Option (List PV):=runO 11 3 XR
def QaW:∀ps r,QQ ps=some r->ps.length=3:=QfZ
def YH:MSt:=(sSeq (sIf (truB (bin2 pEq (bin2 pIx (mVar 0) (mN 0)) (mC (.str "bad")))) (sRet (bin2 pIx (mVar 0) (mN 1))) sNx)
 (sSeq (sIf (truB (bin2 pEq (bin2 pIx (mVar 0) (mN 0)) (mC (.str "guess")))) (sRet (bin2 pAdd (bin2 pAdd (bin2 pAdd (mC (.str "guess ")) (bin2 pIx (mVar 0) (mN 1))) (mC (.str " unless "))) (bin2 pIx (mVar 0) (mN 2)))) sNx)
 (sSeq (sIf (truB (bin2 pEq (Qg pLen (Qa (bin2 pIx (mVar 0) (mN 2)) aNil)) (mN 0))) (sRet (bin2 pIx (mVar 0) (mN 1))) sNx)
 (sRet (bin2 pAdd (bin2 pAdd (bin2 pIx (mVar 0) (mN 1)) (mC (.str " if "))) (mMt "str" QgP (mC (.str " ")) (Qa (bin2 pIx (mVar 0) (mN 2)) aNil)))))))
def QB:List PV->Option PV:=runV 1 1 YH
def QcA:∀ps r,QB ps=some r->ps.length=1:=Qai
def Qbb:MSt:=(sSeq (QE [] 2 (mLim (Qa (mC (.str "")) (Qa (mC (.str " ")) (Qa (mC (.str "guess")) (Qa (mC (.str "a if")) (Qa (mC (.str "a if ")) (Qa (mC (.str "a b")) (Qa (mC (.str " a")) (Qa (mC (.str "a ")) (Qa (mC (.str "a  if b")) (Qa (mC (.str "if")) (Qa (mC (.str "unless a")) (Qa (mC (.str "guess a")) (Qa (mC (.str "A")) aNil)))))))))))))))
 (sSeq (QE [2] 2 (bin2 pCat (mVar 2) (mLst (mLim (Qa (mC (.str "guess a unless")) (Qa (mC (.str "guess a unless b c")) (Qa (mC (.str "a if b if c")) (Qa (mC (.str "a if b c d e f g 1")) (Qa (mC (.str "aaaaaaaaaaaaa")) aNil)))))))))
 (sSeq (sIf (truB (bin2 pEq (bin2 pMod (bin2 pIx (mVar 0) (mN 12)) (mN 2)) (mN 0))) (sRet (mTup (Qa (mC (.str "bad")) (Qa (bin2 pIx (mVar 2) (bin2 pMod (bin2 pIx (mVar 0) (mN 11)) (mN 18))) aNil)))) sNx)
 (sSeq (sSet [1] 3 (Qg QB (Qa (mVar 1) aNil)))
 (sSeq (sSet [0,3] 4 (bin2 pMod (bin2 pIx (mVar 0) (mN 13)) (bin2 pAdd (Qg pLen (Qa (mVar 3) aNil)) (mN 1))))
 (sSeq (sIf (truB (bin2 pEq (bin2 pMod (bin2 pIx (mVar 0) (mN 14)) (mN 2)) (mN 0))) (sRet (mTup (Qa (mC (.str "bad")) (Qa (bin2 pAdd (bin2 pAdd (sl3 QcE (mVar 3) mNo (mSo (mVar 4))) (bin2 pIx (mC (.str "A1-_'.Z,")) (bin2 pMod (bin2 pIx (mVar 0) (mN 15)) (mN 8)))) (sl3 QcE (mVar 3) (mSo (bin2 pAdd (mVar 4) (mN 1))) mNo)) aNil)))) sNx)
 (sSeq (sIf (truB (bin2 pEq (bin2 pMod (bin2 pIx (mVar 0) (mN 15)) (mN 3)) (mN 0))) (sRet (mTup (Qa (mC (.str "bad")) (Qa (bin2 pAdd (mC (.str " ")) (mVar 3)) aNil)))) sNx)
 (sSeq (sIf (bAnd (truB (bin2 pEq (bin2 pMod (bin2 pIx (mVar 0) (mN 15)) (mN 3)) (mN 1))) (truB (bin2 pGt (mMt "str" Qcj (mVar 3) (Qa (mC (.str " ")) aNil)) (mN 0)))) (sRet (mRep 3 "bad" " " "  " (bin2 pAdd (mN 1) (bin2 pMod (bin2 pIx (mVar 0) (mN 13)) (mMt "str" Qcj (mVar 3) (Qa (mC (.str " ")) aNil)))))) sNx)
 (sRet (mTup (Qa (mC (.str "bad")) (Qa (bin2 pAdd (mVar 3) (mC (.str " "))) aNil))))))))))))
def QH:List PV->Option PV:=runV 5 2 Qbb
def QcL:MSt:=(sSeq (sIf (bOr (truB (bin2 pEq (bin2 pMod (bin2 pIx (mVar 1) (mN 12)) (mN 3)) (mN 0))) (truB (bin2 pLt (Qg pLen (Qa (mVar 0) aNil)) (mN 2)))) (sSeq (sSet [1,0] 2 (bin2 pMod (bin2 pIx (mVar 1) (mN 10)) (bin2 pAdd (Qg pLen (Qa (mVar 0) aNil)) (mN 1))))
 (sRet (bin2 QgR (sl3 Qci (mVar 0) (mSo (mVar 2)) mNo) (sl3 Qci (mVar 0) mNo (mSo (mVar 2)))))) sNx)
 (sSeq (sIf (truB (bin2 pEq (bin2 pMod (bin2 pIx (mVar 1) (mN 12)) (mN 3)) (mN 1))) (sRet (un1 pRvT (mVar 0))) sNx)
 (sSeq (QE [0] 3 (Qg XF (Qa (mVar 0) aNil)))
 (sSeq (sSet [1,3] 4 (bin2 pMod (bin2 pIx (mVar 1) (mN 10)) (Qg pLen (Qa (mVar 3) aNil))))
 (sSeq (sSet [1,3] 5 (bin2 pMod (bin2 pIx (mVar 1) (mN 13)) (Qg pLen (Qa (mVar 3) aNil))))
 (sSeq (Qcg [0,5] 3 (bin2 pIx (mVar 0) (mVar 5)) (mVar 4))
 (sSeq (Qcg [0,4] 3 (bin2 pIx (mVar 0) (mVar 4)) (mVar 5))
 (sRet (Qg ZK (Qa (mVar 3) aNil))))))))))
def Yv:List PV->Option PV:=runV 6 2 QcL
def QcN:MSt:=(sSeq (sSet [0] 4 (Qg Qv (Qa (mVar 0) (Qa (mN 16) aNil))))
 (sSeq (sSet [4] 5 (bin2 pMod (bin2 pIx (mVar 4) (mN 0)) (mN 6)))
 (sSeq (sSet [] 6 (mTup (Qa (mC (.str "bad")) (Qa (mC (.str "")) aNil))))
 (sSeq (sIf (truB (bin2 pGt (Qg pLen (Qa (mVar 1) aNil)) (mN 0))) (sSet [1,4,1] 6 (bin2 pIx (mVar 1) (bin2 pMod (bin2 pIx (mVar 4) (mN 1)) (Qg pLen (Qa (mVar 1) aNil))))) sNx)
 (sSeq (QE [4,2,4] 7 (Yg (iRg1 (bin2 pAdd (mN 7) (bin2 pMod (bin2 pIx (mVar 4) (mN 4)) (mN 3)))) 1 [2,4] (gSet 0) YE (bin2 pIx (mVar 1) (bin2 pMod (bin2 pAdd (bin2 pIx (mVar 2) (mN 2)) (bin2 pMul (mVar 0) (bin2 pAdd (mN 1) (bin2 pMod (bin2 pIx (mVar 2) (mN 3)) (mN 3))))) (Qg pLen (Qa (mVar 1) aNil))))))
 (sSeq (sSet [2,4,2] 8 (bin2 pIx (mVar 2) (bin2 pMod (bin2 pIx (mVar 4) (mN 5)) (Qg pLen (Qa (mVar 2) aNil)))))
 (sSeq (sIf (truB (bin2 pEq (mVar 5) (mN 1))) (sRet (mTup (Qa (mC (.str "rule")) (Qa (mVar 8) (Qa (Qg ZK (Qa (mVar 7) aNil)) aNil))))) sNx)
 (sSeq (sIf (truB (bin2 pEq (mVar 5) (mN 2))) (sSeq (QE [7,4] 7 (sl3 pCut (mVar 7) mNo (mSo (bin2 pAdd (mN 1) (bin2 pMod (bin2 pIx (mVar 4) (mN 6)) (mN 5))))))
 (sSeq (sIns [7,4,7] 7 (bin2 pMod (bin2 pIx (mVar 4) (mN 7)) (bin2 pAdd (Qg pLen (Qa (mVar 7) aNil)) (mN 1))) (bin2 pIx (mVar 7) (bin2 pMod (bin2 pIx (mVar 4) (mN 8)) (Qg pLen (Qa (mVar 7) aNil)))))
 (sRet (mTup (Qa (mC (.str "rule")) (Qa (mVar 8) (Qa (Qg ZK (Qa (mVar 7) aNil)) aNil))))))) sNx)
 (sSeq (sIf (bAnd (truB (bin2 pEq (mVar 5) (mN 3))) (truB (bin2 pEq (bin2 pIx (mVar 6) (mN 0)) (mC (.str "guess"))))) (sRet (mTup (Qa (mC (.str "guess")) (Qa (bin2 pIx (mVar 6) (mN 1)) (Qa (bin2 pIx (mVar 2) (bin2 pMod (bin2 pIx (mVar 4) (mN 9)) (Qg pLen (Qa (mVar 2) aNil)))) aNil))))) sNx)
 (sSeq (sIf (bAnd (truB (bin2 pEq (mVar 5) (mN 4))) (truB (bin2 pEq (bin2 pIx (mVar 6) (mN 0)) (mC (.str "rule"))))) (sRet (mTup (Qa (mC (.str "rule")) (Qa (bin2 pIx (mVar 6) (mN 1)) (Qa (Qg Yv (Qa (bin2 pIx (mVar 6) (mN 2)) (Qa (mVar 4) aNil))) aNil))))) sNx)
 (sSeq (sIf (bAnd (truB (bin2 pEq (mVar 5) (mN 5))) (truB (bin2 pGt (mVar 3) (mN 0)))) (sRet (mTup (Qa (mC (.str "rule")) (Qa (bin2 pIx (mVar 2) (bin2 pMod (bin2 pIx (mVar 4) (mN 11)) (mVar 3))) (Qa (Qg ZK (Qa (mLst (sl3 pCut (mVar 7) mNo (mSo (bin2 pMod (bin2 pIx (mVar 4) (mN 6)) (mN 7))))) aNil)) aNil))))) sNx)
 (sRet (Qg QH (Qa (mVar 4) (Qa (mVar 6) aNil)))))))))))))))
def ZU:List PV->Option PV:=runV 9 4 QcN
def Zp:MSt:=(sSeq (sSet [0,6] 7 (bin2 Qpf (bin2 pAdd (bin2 pMod (bin2 pDiv (Qg Qn (Qa (mVar 0) (Qa (mN 2) aNil))) (mN 5)) (bin2 pPow (mN 10) (mN 30))) (mN 17)) (bin2 pIx (mLst (mLim (Qa (mN 1) (Qa (mN 69069) (Qa (mN 1664525) aNil))))) (mVar 6))))
 (sSeq (QoZ [7,5,3,4] 8 (Qg ZU (Qa (mVar 7) (Qa (mVar 5) (Qa (mVar 3) (Qa (mVar 4) aNil))))))
 (sIns [8] 5 (bin2 pMod (bin2 pIx (Qg Qv (Qa (bin2 pAdd (bin2 pDiv (Qg Qn (Qa (mVar 0) (Qa (mN 0) aNil))) (mN 15)) (bin2 pMul (mN 40) (mVar 6))) (Qa (mN 2) aNil))) (mN 1)) (bin2 pAdd (Qg pLen (Qa (mVar 5) aNil)) (mN 1))) (mVar 8))))
def QbS:MSt:=(sSeq (sSet [0] 1 (Qg Qv (Qa (Qg Qn (Qa (mVar 0) (Qa (mN 1) aNil))) (Qa (mN 16) aNil))))
 (sSeq (sSet [1] 2 (bin2 pAdd (mN 1) (bin2 pMod (bin2 pIx (mVar 1) (mN 10)) (mN 33))))
 (sSeq (sIf (truB (bin2 pGt (bin2 pMod (bin2 pIx (mVar 1) (mN 11)) (mN 3)) (mN 0))) (sSet [1] 2 (bin2 pAdd (mN 29) (bin2 pMod (bin2 pIx (mVar 1) (mN 10)) (mN 5)))) sNx)
 (sSeq (sSet [0,2] 3 (Qg Zz (Qa (bin2 pDiv (Qg Qn (Qa (mVar 0) (Qa (mN 1) aNil))) (mN 5)) (Qa (mVar 2) aNil))))
 (sSeq (sSet [1,3] 4 (Qg pMin (Qa (bin2 pMod (bin2 pIx (mVar 1) (mN 12)) (mN 10)) (Qa (Qg pLen (Qa (mVar 3) aNil)) aNil))))
 (sSeq (QE [0,3,4] 5 (Qg QQ (Qa (mVar 0) (Qa (mVar 3) (Qa (mVar 4) aNil)))))
 (sSeq (Qac (iRg1 (bin2 pMod (bin2 pIx (mVar 1) (mN 13)) (mN 4))) (gSet 6) Zp)
 (Qbl 5))))))))
def Yf:List PV->Option (List PV):=runO 9 1 QbS
def Qcz:∀ps r,Yf ps=some r->ps.length=1:=QfZ
def QR:MSt:=(sIf (mTru (Qg Yq (Qa (mVar 3) (Qa (mVar 0) aNil)))) (sRet (mN 2)) sNx)
def Zn:MX DT:=(Qjg (mVar 4) (mC (.bl true)))
def QaB:MV:=(vPre 2 (sIf (truB (bin2 pEq (bin2 pIx (mVar 0) (mN 0)) (mC (.str "bad")))) (sRet (mN 0)) sNx)
 (vPre 2 (sIf (bAnd (truB (bin2 pEq (bin2 pIx (mVar 0) (mN 0)) (mC (.str "rule")))) (truB (bin2 pGt (Qg pLen (Qa (bin2 pIx (mVar 0) (mN 2)) aNil)) (mN 6)))) (sRet (mN 1)) sNx)
 (vPre 2 (sIf (bAnd (truB (bin2 pEq (bin2 pIx (mVar 0) (mN 0)) (mC (.str "rule")))) (truB (bin2 pLt (Qg Xu (Qa (bin2 pIx (mVar 0) (mN 2)) aNil)) (Qg pLen (Qa (bin2 pIx (mVar 0) (mN 2)) aNil))))) (sRet (mN 2)) sNx)
 (vPre 2 (sFor [1] (iLst (mVar 1)) (gSet 3) QR)
 (vX (Qjg (bin2 pIx (mVar 0) (mN 1)) (mC (.bl true)))
 (vX (xFor 2 [0,0,0] (iLst (mIfE (truB (bin2 pEq (bin2 pIx (mVar 0) (mN 0)) (mC (.str "guess")))) (mLst (mLim (Qa (bin2 pIx (mVar 0) (mN 2)) aNil))) (mLst (Qg XF (Qa (bin2 pIx (mVar 0) (mN 2)) aNil))))) (gSet 4) Zn)
 (vPre 2 (sSet [1,0] 5 (Qg pLen (Qa (mLst (Yg (iLst (mVar 1)) 1 [0] (gSet 0) (truB (bin2 pEq (bin2 pIx (mVar 0) (mN 0)) (bin2 pIx (mVar 1) (mN 0)))) (mVar 0))) aNil)))
 (vIf 2 (bOr (truB (bin2 pGt (Qg QhY (Qa (mVar 2) aNil)) (mN 30))) (truB (bin2 pGe (mVar 5) (bin2 pIx (mLst (mLim (Qa (mN 40) (Qa (mN 8) aNil)))) (Qg pI01 (Qa (bin2 pEq (bin2 pIx (mVar 0) (mN 0)) (mC (.str "guess"))) aNil)))))) (QhU (sRet (mN 1)))
 (QhU (sRet (un1 pNeg (mN 1))))))))))))
def Qs:Addr->List PV->DT->Option (PV×DT):=runD 6 3 (QaB)
def Qbv:∀a G t r,Qs a G t=some r->G.length+1=3:=runD_len
def QG:MSt:=(sSeq (sCalD [0,2,0,2] 3 1 Qs (bin2 pIx (mVar 0) (mVar 2)) (mLst (sl3 pCut (mVar 0) mNo (mSo (mVar 2)))))
 (sIf (truB (bin2 pGe (mVar 3) (mN 0))) (QhX (mLim (Qa (mVar 3) (Qa (mVar 2) aNil)))) sNx))
def YI:MSt:=(sIf (bAnd (truB (bin2 pEq (bin2 pIx (bin2 pIx (mVar 0) (mVar 2)) (mN 0)) (mC (.str "rule")))) (truB (bin2 pIn (bin2 pIx (bin2 pIx (mVar 0) (mVar 2)) (mN 1)) (mVar 4)))) (QhX (mLim (Qa (mN 3) (Qa (mVar 2) aNil)))) sNx)
def QcO:MSt:=(sSeq (sIf (truB (bin2 pEq (mVar 0) (mLst (mLim (Qa (mTup (Qa (mC (.str "bad")) (Qa (mC (.str "")) aNil))) aNil))))) (QhX (mLim (Qa (un1 pNeg (mN 1)) (Qa (mN 0) aNil)))) sNx)
 (sSeq (sDnew 1)
 (sSeq (Qac (iRg1 (Qg pLen (Qa (mVar 0) aNil))) (gSet 2) QG)
 (sSeq (QE [0] 4 (Yg (iLst (mVar 0)) 1 [] (gSet 0) (truB (bin2 pEq (bin2 pIx (mVar 0) (mN 0)) (mC (.str "guess")))) (bin2 pIx (mVar 0) (mN 1))))
 (sSeq (Qac (iRg1 (Qg pLen (Qa (mVar 0) aNil))) (gSet 2) YI)
 (QhX (mLim (Qa (un1 pNeg (mN 1)) (Qa (mN 0) aNil)))))))))
def Zt:List PV->Option (List PV):=runO 5 1 QcO
def Qdz:∀ps r,Zt ps=some r->ps.length=1:=QfZ
def QhL:MSt:=(sSeq (sIf (bOr (truB (bin2 pIn (mVar 0) (mC (.tup ((["guess","unless","if"]:List Str).map .str))))) (bNot (truB (ch3 pLe pLe (mN 1) (Qg pLen (Qa (mVar 0) aNil)) (mN 12))))) (sRet (mC (.bl false))) sNx)
 (sRet (Qg QlY (Qa (mLst (Yg (iStr (mVar 0)) 1 [] (gSet 0) YE (ch3 pLeS pLeS (mC (.str "a")) (mVar 0) (mC (.str "z"))))) aNil))))
def Yd:List PV->Option PV:=runV 1 1 QhL
def QgG:∀ps r,Yd ps=some r->ps.length=1:=Qai
def Xi:MSt:=(sSeq (sIf (bOr (truB (bin2 pNe (Qg pLen (Qa (mVar 0) aNil)) (mN 4))) (bOr (truB (bin2 pNe (bin2 pIx (mVar 0) (mN 0)) (mC (.str "guess")))) (truB (bin2 pNe (bin2 pIx (mVar 0) (mN 2)) (mC (.str "unless")))))) (sRet (mC (.bl false))) sNx)
 (sRet (vAnd (Qg Yd (Qa (bin2 pIx (mVar 0) (mN 1)) aNil)) (Qg Yd (Qa (bin2 pIx (mVar 0) (mN 3)) aNil)))))
def ZJ:List PV->Option PV:=runV 1 1 Xi
def YG:MSt:=(sSeq (sIf (truB (bin2 pEq (Qg pLen (Qa (mVar 0) aNil)) (mN 1))) (sRet (Qg Yd (Qa (bin2 pIx (mVar 0) (mN 0)) aNil))) sNx)
 (sSeq (sIf (bOr (truB (bin2 pEq (Qg pLen (Qa (mVar 0) aNil)) (mN 2))) (truB (bin2 pNe (bin2 pIx (mVar 0) (mN 1)) (mC (.str "if"))))) (sRet (mC (.bl false))) sNx)
 (sRet (Qg QlY (Qa (mLst (Yg (iLst (mLst (bin2 pCat (mLst (sl3 pCut (mVar 0) mNo (mSo (mN 1)))) (mLst (sl3 pCut (mVar 0) (mSo (mN 2)) mNo))))) 1 [] (gSet 0) YE (Qg Yd (Qa (mVar 0) aNil)))) aNil)))))
def ZB:List PV->Option PV:=runV 1 1 YG
def QcK(C:Nat->Addr):MStR:=(rSeq (Xh (QE [0] 2 (mMt "str" QcV (mVar 0) (Qa (mC (.str " ")) aNil))))
 (rSeq (Xh (sIf (mTru (Qg ZJ (Qa (mVar 2) aNil))) (sRet (mTup (Qa (mC (.str "guess")) (Qa (bin2 pIx (mVar 2) (mN 1)) (Qa (bin2 pIx (mVar 2) (mN 3)) aNil))))) sNx))
 (rSeq (rIf (bNot (mTru (Qg ZB (Qa (mVar 2) aNil)))) (Qch [1] (C 2) "row" (Qa (mVar 1) aNil)) (Xh sNx))
 (rSeq (Xh (sSet [2] 3 (Qg ZK (Qa (mLst (sl3 pCut (mVar 2) (mSo (mN 2)) mNo)) aNil))))
 (rSeq (rIf (truB (bin2 pGt (Qg pLen (Qa (mVar 3) aNil)) (mN 6))) (Qch [1] (C 3) "row" (Qa (mVar 1) aNil)) (Xh sNx))
 (rSeq (rIf (truB (bin2 pLt (Qg Xu (Qa (mVar 3) aNil)) (Qg pLen (Qa (mVar 3) aNil)))) (Qch [1] (C 4) "row" (Qa (mVar 1) aNil)) (Xh sNx))
 (Xh (sRet (mTup (Qa (mC (.str "rule")) (Qa (bin2 pIx (mVar 2) (mN 0)) (Qa (mVar 3) aNil))))))))))))
def Zs(C:Nat->Addr):List PV->Option (PV ⊕ PV):=runR 4 2 (QcK C)
def Qdy C:∀ps r,Zs C ps=some r->ps.length=2:=Qby
def Qej:MSt:=(QhX (Yg (iLst (mVar 0)) 1 [1] (gSet 0) (truB (bin2 pEq (bin2 pIx (mVar 0) (mN 0)) (mVar 1))) (mVar 0)))
def Zj:List PV->Option PV:=runV 2 2 Qej
def Qbt:MSt:=(sSeq (sApp [2] 1 (bin2 pIx (mVar 2) (mN 1)))
 (sExM [2,2,2] 1 (mIfE (truB (bin2 pEq (bin2 pIx (mVar 2) (mN 0)) (mC (.str "guess")))) (mLst (mLim (Qa (bin2 pIx (mVar 2) (mN 2)) aNil))) (bin2 pIx (mVar 2) (mN 2)))))
def Qfw:MSt:=(sSeq (QE [] 1 (mLim aNil))
 (sSeq (sFor [0] (iLst (mVar 0)) (gSet 2) Qbt)
 (Qbl 1)))
def Xn:List PV->Option PV:=runV 3 1 Qfw
def QbR:MSt:=(sSeq (sIf (bOr (truB (bin2 pGt (Qg pLen (Qa (Qg Zj (Qa (mVar 0) (Qa (mC (.str "guess")) aNil))) aNil)) (mN 8))) (truB (bin2 pGt (Qg pLen (Qa (Qg Zj (Qa (mVar 0) (Qa (mC (.str "rule")) aNil))) aNil)) (mN 40)))) (sRet (mC (.bl true))) sNx)
 (sRet (bin2 pGt (Qg QbJ (Qa (Qg Xn (Qa (mVar 0) aNil)) aNil)) (mN 30))))
def Ye:List PV->Option PV:=runV 1 1 QbR
def Qbp:MSt:=(sSeq (sIf (truB (bin2 pEq (bin2 pIx (mVar 0) (mN 0)) (mC (.str "guess")))) (sRet (mTup (Qa (mC (.str "guess")) (Qa (bin2 pIx (mVar 0) (mN 1)) aNil)))) sNx)
 (sRet (mTup (Qa (mC (.str "rule")) (Qa (bin2 pIx (mVar 0) (mN 1)) (Qa (Qg ZK (Qa (mLst (Qg QeU (Qa (bin2 pIx (mVar 0) (mN 2)) aNil))) aNil)) aNil))))))
def ZL:List PV->Option PV:=runV 1 1 Qbp
def QeE:∀ps r,ZL ps=some r->ps.length=1:=Qai
def Qx(C:Nat->Addr):MStR:=(rSeq (rSet [3,2] 4 (Zs C) (Qa (mVar 3) (Qa (mVar 2) aNil)))
 (rSeq (rIf (truB (bin2 pIn (Qg ZL (Qa (mVar 4) aNil)) (mLst (Yg (iLst (mVar 1)) 1 [] (gSet 0) YE (Qg ZL (Qa (mVar 0) aNil)))))) (Qch [2] (C 4) "row" (Qa (mVar 2) aNil)) (Xh sNx))
 (rSeq (Xh (sApp [4] 1 (mVar 4)))
 (rIf (mTru (Qg Ye (Qa (mVar 1) aNil))) (Qch [2] (C 3) "row" (Qa (mVar 2) aNil)) (Xh sNx)))))
def QbP(C:Nat->Addr):MStR:=(rSeq (Xh (QE [] 1 (mLim aNil)))
 (rSeq (rFor [0] (Qg QgQ (Qa (mVar 0) aNil)) (QbY 2 3) (Qx C))
 (Xh (Qbl 1))))
def Zh(C:Nat->Addr):List PV->Option (PV ⊕ PV):=runR 5 1 (QbP C)
def Qcx C:∀ps r,Zh C ps=some r->ps.length=1:=Qby
def Zq(C:Nat->Addr):MStR:=(rIf (bAnd (truB (bin2 pEq (bin2 pIx (mVar 3) (mN 0)) (mC (.str "rule")))) (truB (bin2 pIn (bin2 pIx (mVar 3) (mN 1)) (mVar 1)))) (Qch [2] (C 5) "row" (Qa (mVar 2) aNil)) (Xh sNx))
def Xv(C:Nat->Addr):MStR:=(rSeq (Xh (QE [0] 1 (Yg (iLst (Qg Zj (Qa (mVar 0) (Qa (mC (.str "guess")) aNil)))) 1 [] (gSet 0) YE (bin2 pIx (mVar 0) (mN 1)))))
 (rFor [0] (Qg QgQ (Qa (mVar 0) aNil)) (QbY 2 3) (Zq C)))
def Qz(C:Nat->Addr):List PV->Option (PV ⊕ PV):=runR 4 1 (Xv C)
def QaN C:∀ps r,Qz C ps=some r->ps.length=1:=Qby
def Qfx:MSt:=(sSeq (QE [0] 1 (Yg (iLst (Qg Zj (Qa (mVar 0) (Qa (mC (.str "guess")) aNil)))) 1 [] (gSet 0) YE (bin2 pIx (mVar 0) (mN 1))))
 (sRet (Qg ZK (Qa (mLst (bin2 pCat (mLst (Qg Qgx (Qa (mVar 1) aNil))) (mLst (Qed (Qa (Qg Xn (Qa (mVar 0) aNil)) aNil) (Qa (mVar 1) aNil))))) aNil))))
def QaG:List PV->Option PV:=runV 2 1 Qfx
def Qaz:MSt:=(sSeq (QE [1,0] 2 (Qg Qgx (Qa (mLst (Yg (iSeq (bin2 pIx (mVar 1) (mN 2))) 1 [0] (gSet 0) YE (mMtT QaT (mVar 1) (Qa (mVar 0) aNil)))) aNil)))
 (sRet (mTup (Qa (mMtT QaT (mVar 0) (Qa (bin2 pIx (mVar 1) (mN 1)) aNil)) (Qa (Qg ZK (Qa (mVar 2) aNil)) aNil)))))
def Zy:List PV->Option PV:=runV 3 2 Qaz
def Qbu:∀ps r,Zy ps=some r->ps.length=2:=Qai
def QaA:MSt:=(sSeq (QE [1] 2 (Qg QfL (Qa (Qg Zj (Qa (mVar 1) (Qa (mC (.str "guess")) aNil))) aNil)))
 (sSeq (sSet [2,0] 3 (Qg ZK (Qa (mLst (Yg (iLst (mVar 2)) 1 [0] (gSet 0) YE (mMtT QaT (mVar 1) (Qa (bin2 pIx (mVar 0) (mN 2)) aNil)))) aNil)))
 (sSeq (sSet [1,0] 4 (Qg ZK (Qa (mLst (Yg (iLst (Qg Zj (Qa (mVar 1) (Qa (mC (.str "rule")) aNil)))) 1 [0] (gSet 0) YE (Qg Zy (Qa (mVar 1) (Qa (mVar 0) aNil))))) aNil)))
 (sRet (mTup (Qa (Qg pLen (Qa (mVar 0) aNil)) (Qa (mVar 3) (Qa (mVar 4) aNil))))))))
def Yi:List PV->Option PV:=runV 5 2 QaA
def Yu(C:Nat->Addr):MStR:=(rSeq (rSet [0] 1 (Zh C) (Qa (mVar 0) aNil))
 (rSeq (rExE [1] (Qz C) (Qa (mVar 1) aNil))
 (Xh (sSeq (sSet [1] 2 (Qg QaG (Qa (mVar 1) aNil)))
 (sRet (mTup (Qa (mVar 2) (Qa (Qg Yi (Qa (mVar 2) (Qa (mVar 1) aNil))) aNil))))))))
def QV(C:Nat->Addr):List PV->Option (PV ⊕ PV):=runR 3 1 (Yu C)
def Qce C:∀ps r,QV C ps=some r->ps.length=1:=Qby
def Qcr:MSt:=(sRet (mIfE (mTru (mVar 0)) (mLst (mMt "str" QcV (mVar 0) (Qa (mC (.str "\n")) aNil))) (mLst (mLim aNil))))
def YL:List PV->Option PV:=runV 1 1 Qcr
def QbQ(C:Nat->Addr):MStR:=(rRet (QV C) (Qa (Qg YL (Qa (mVar 0) aNil)) aNil))
def Zi(C:Nat->Addr):List PV->Option (PV ⊕ PV):=runR 1 1 (QbQ C)
def Qcy C:∀ps r,Zi C ps=some r->ps.length=1:=Qby
def Yh(C:Nat->Addr):MSt:=(sSeq (QE [5,5,5,5] 2 (mLim (Qa (mIsX [(C 1,false),(C 2,true),(C 3,false),(C 4,false),(C 5,false)] (mVar 5)) (Qa (mIsX [(C 1,false),(C 2,false),(C 3,true),(C 4,false),(C 5,false)] (mVar 5)) (Qa (mIsX [(C 1,false),(C 2,false),(C 3,false),(C 4,true),(C 5,false)] (mVar 5)) (Qa (mIsX [(C 1,false),(C 2,false),(C 3,false),(C 4,false),(C 5,true)] (mVar 5)) aNil))))))
 (sSeq (QE [2,5,5] 2 (bin2 pCat (mVar 2) (mLst (mLim (Qa (mIsX [(C 1,true),(C 2,true),(C 3,true),(C 4,true),(C 5,true)] (mVar 5)) (Qa (mIsX [(C 1,true),(C 2,true),(C 3,true),(C 4,true),(C 5,true)] (mVar 5)) aNil))))))
 (sSet [5] 3 (mFldX [C 1,C 2,C 3,C 4,C 5] "row" (mVar 5)))))
def QaZ(C:Nat->Addr):MSt:=(sSeq (QE [] 2 (mLim aNil))
 (sSeq (sSet [] 3 (mN 0))
 (sSeq (sSet [] 4 (mC .non))
 (sSeq (sTry 5 [C 1,C 2,C 3,C 4,C 5] (qSet [0] 4 (Zi C) (Qa (mVar 0) aNil)) (Yh C))
 (sSeq (sIf (truB (bin2 pLt (bin2 pIx (mVar 1) (mN 0)) (mN 0))) (sRet (vAnd (bin2 pEq (mVar 2) (mLst (mLim aNil))) (vAnd (mIsi Qmc (mVar 4)) (bin2 pEq (Qg pLen (Qa (mVar 4) aNil)) (mN 2))))) sNx)
 (sSeq (sIf (truB (bin2 pNe (mVar 2) (mLst (bin2 pCat (mLst (Yg (iRg1 (mN 4)) 1 [1] (gSet 0) YE (bin2 pEq (mVar 0) (bin2 pIx (mVar 1) (mN 0))))) (mLst (mLim (Qa (mC (.bl true)) (Qa (mC (.bl true)) aNil)))))))) (sRet (mC (.bl false))) sNx)
 (sRet (vAnd (mIsi isInt (mVar 3)) (vAnd (vNot (mIsi isBl (mVar 3))) (bin2 pEq (mVar 3) (bin2 pIx (mVar 1) (mN 1))))))))))))
def Zo(C:Nat->Addr):List PV->Option PV:=runV 6 2 (QaZ C)
def Xo(C:Nat->Addr):MSt:=(sSeq (QE [1] 3 (Qg Zt (Qa (mVar 1) aNil)))
 (sSeq (sIf (bNot (mTru (Qg (Zo C) (Qa (mMt "str" QhZ (mC (.str "\n")) (Qa (mLst (Yg (iLst (mVar 1)) 1 [] (gSet 0) YE (Qg QB (Qa (mVar 0) aNil)))) aNil)) (Qa (mVar 3) aNil))))) (sRet (mC (.bl false))) sNx)
 (sSeq (sIf (truB (bin2 pLt (bin2 pIx (mVar 3) (mN 0)) (mN 0))) (sRet (mC (.bl true))) sNx)
 (sPop 1 (bin2 pIx (mVar 3) (mN 1))))))
def QhK(C:Nat->Addr):MSt:=(sSeq (QE [0] 1 (Qg Yf (Qa (mVar 0) aNil)))
 (sSeq (Qac (iRg1 (mN 3)) (gSet 2) (Xo C))
 (sRet (mC (.bl true)))))
def QbF(C:Nat->Addr):List PV->Option PV:=runV 4 1 (QhK C)
end DH
namespace DH
open PySem PySem.Spec PyProof.Rows L2 L2.PM
open Builtin.Str StrLaws
def posL(c:Nat):List Nat->Nat->List Nat
 |[],_=>[]
 |d::l,a=>if d=c then a::posL c l (a+1) else posL c l (a+1)
def splL(c:Nat):List Nat->List (List Nat)
 |[]=>[[]]
 | d::l=>if d=c then []::splL c l else match splL c l with
  |h::t=>(d::h)::t
  |[]=>[[d]]
def QbE c l:∃h t,splL c l=h::t:=by
 cases l with
 |nil=>exact⟨_,_,rfl⟩
 |cons d l =>
  unfold splL;split
  .exact⟨_,_,rfl⟩
  .cases splL c l with
   |nil=>exact⟨_,_,rfl⟩
   |cons h t=>exact⟨_,_,rfl⟩
theorem QdU:∀{w:List Nat},c∉w->splL c w=[w]
 |[],_=>rfl
 |d::w,h=>by
  unfold splL;rw[ar (λe=>h (by simp[e])),QdU (λe=>h (by simp[e]))]
theorem QfW:∀{w rest:List Nat},c∉w->splL c (w++c::rest)=w::splL c rest
 |[],rest,_=>by
  show splL c (c::rest)=_;conv=>lhs;unfold splL
  rw[ak rfl]
 |d::w,rest,h=>by
  show splL c (d::(w++c::rest))=_;conv=>lhs;unfold splL
  rw[ar (λe=>h (by simp[e])),QfW (λe=>h (by simp[e]))]
def QmH x c i:subAt x ⟨#[c]⟩ i=true↔x.cps.toList[i]?=some c:=by
 rw[subAt_eq];show((x.cps.toList.drop i).take 1==[c])=true↔_;rw[bM];constructor
 .intro h;have:=congrArg (λl=>l[0]?) h;simpa using this
 .intro h;rw[bL (al.mp h).1,(al.mp h).2];simp
theorem QdJ x c:∀k a G f,a+k=x.length+1->G.size<=a->f<=a ->
  (forIn (cw a k) (G,f) (occBody x ⟨#[c]⟩ x.length (x.length+1))).run.fst.toList=G.toList++posL c (x.cps.toList.drop a) a
 |0,a,G,f,h1,_,_=>by
  have B:x.cps.toList.length=x.length:=by simp[b9]
  have:x.cps.toList.drop a=[]:=dH (by omega);rw[this];simp[posL]
 |k+1,a,G,f,h1,h2,D=>by
  rw[lM,gG];by_cases hs:subAt x ⟨#[c]⟩ a=true
  .have m:=(QmH x c a).mp hs;have j:=(al.mp m).1;have B:x.cps.toList.length=x.length:=by simp[b9]
   have e:occBody x ⟨#[c]⟩ x.length (x.length+1) a (G,f)=pure (bY (G.push a,a+1)):=by
    unfold occBody;rw[ak]
    .rfl
    .simp[hs];refine⟨by omega,?_⟩;show a+1<=x.length;omega
   rw[e];refine Eq.trans (QdJ x c k (a+1) (G.push a) (a+1) (by omega) (by simp;omega) (am _)) ?_;rw[bL j,(al.mp m).2];simp[posL]
  .have e:occBody x ⟨#[c]⟩ x.length (x.length+1) a (G,f)=pure (bY (G,f)):=by
    unfold occBody;rw[ar (by simp[hs])]
    try rfl
   rw[e];refine Eq.trans (QdJ x c k (a+1) G f (by omega) (by omega) (by omega)) ?_;congr 1;by_cases j:a<x.cps.toList.length
   .rw[bL j];conv=>rhs;unfold posL
    rw[ar];intro z;exact hs ((QmH x c a).mpr (by rw[aU j,z]))
   .rw[dH (by omega),dH (by omega)];rfl
theorem QbH x c:∀n s a,a+n=x.cps.toList.length->s<=a->∃h t,splL c (x.cps.toList.drop a)=h::t /\
  partsFrom x 1 s (posL c (x.cps.toList.drop a) a)=⟨((x.cps.toList.drop s).take (a-s)++h).toArray⟩::t.map λl=>⟨l.toArray⟩
 |0,s,a,h1,h2=>by
  rw[dH (by omega)];refine⟨[],[],rfl,?_⟩;show [strSub x s x.length]=_;have m:x.cps.toList.length=x.length:=by simp[b9]
  simp;congr 1;apply Str.ext';apply gu.mp;rw[strSub_toList];rw[show x.length-s=a-s by omega]
 |n+1,s,a,h1,h2=>by
  have j:a<x.cps.toList.length:=by omega
  rw[bL j];unfold splL posL;by_cases hc:x.cps.toList[a]=c
  .rw[ak hc,ak hc];obtain⟨h,t,e1,e2⟩:=QbH x c n (a+1) (a+1) (by omega) (am _);refine⟨[],_,rfl,?_⟩;show strSub x s a::partsFrom x 1 (a+1) _=_;rw[e2,e1];congr 1
   .apply Str.ext';apply gu.mp;rw[strSub_toList];simp
   .simp
  .rw[ar hc,ar hc];obtain⟨h,t,e1,e2⟩:=QbH x c n s (a+1) (by omega) (by omega);rw[e1];refine⟨x.cps.toList[a]::h,t,rfl,?_⟩;rw[e2];congr 2;rw[show a+1-s=(a-s)+1 by omega,List.take_succ_eq_append_getElem (by rw[bu];omega),fP,List.getElem_drop];have e3:s+(a-s)=a:=by omega
   simp only[j3,e3]
def sp:Str := " "
def QhW:sp=⟨#[32]⟩:=by decide+kernel
def QfV x:bh x sp=(splL 32 x.cps.toList).map λl=>⟨l.toArray⟩:=by
 have m:x.cps.toList.length=x.length:=by simp[b9]
 have ho:occurrences x sp 0 x.length (x.length+1)=posL 32 x.cps.toList 0:=by
  rw[occ_eq];have:=QdJ x 32 (x.length+1) 0 #[] 0 (by omega) (by simp) (am _);rw[<-QhW]at this;simpa using this
 obtain⟨h,t,e1,e2⟩:=QbH x 32 x.cps.toList.length 0 0 (by omega) (am _);rw[fH]at e1 e2;have main:partsFrom x 1 0 (posL 32 x.cps.toList 0)=(splL 32 x.cps.toList).map λl=>⟨l.toArray⟩:=by
  rw[e2,e1];simp
 unfold bh;rw[ho];by_cases h0:posL 32 x.cps.toList 0=[]
 .rw[h0]at main;have one:[x]=(splL 32 x.cps.toList).map λl=>⟨l.toArray⟩:=by
   rw[<-main];show [x]=[strSub x 0 x.length];rw[sub_whole]
  rw[h0];split
  .exact one
  .exact one
 .have j:¬(decide (x.length<sp.length)||decide (bU x<bU sp))=true:=by
   have k1:bU sp=1:=by decide+kernel
   have k2:1<=bU x:=by unfold bU;split;omega;split<;>omega
   have k3:sp.length=1:=rfl;have B:0<x.cps.toList.length:=by
    cases L:x.cps.toList with
    |nil=>rw[L]at h0;exact absurd rfl h0
    |cons _ _=>simp
   simp;omega
  rw[ar j,ar (by simpa using h0),partsBetween_eq];exact main
def Qlf:∀w ws,(∀s∈w::ws,32∉s.cps.toList)->bh (aM sp (w::ws)) sp=w::ws:=by
 have key:∀w ws,(∀s∈w::ws,32∉s.cps.toList)->splL 32 (aM sp (w::ws)).cps.toList=(w::ws).map λs=>s.cps.toList:=by
  intro w ws;induction ws generalizing w with
  |nil =>
   intro h;rw[Yc,QdU (h w (by simp))];rfl
  |cons v ws j =>
   intro h;rw[Zl];have e:(w++sp++aM sp (v::ws)).cps.toList=w.cps.toList++32::(aM sp (v::ws)).cps.toList:=by
    show(w.cps++sp.cps++(aM sp (v::ws)).cps).toList=_;rw[show sp.cps = #[32] by rw[QhW]];simp
   rw[e,QfW (h w (by simp)),j v λs hs=>h s (aw _ hs)];rfl
 intro w ws h;rw[QfV,key w ws h,bc];exact List.map_id' _
end DH
namespace DH
open PySem PySem.Spec PyProof.Rows L2 L2.PM
def Asc(s:Str):Prop:=∀c∈s.cps.toList,c<128
def QgY{s:Str}(h:Asc s):aW s=true:=by
 unfold aW;rw[ix];intro c hc;have:=h c (by simpa using hc);simp;omega
def QoV(h:Asc s):(s.cps.all (· < 128))=true:=by
 rw[ix];intro c hc;have:=h c (by grind);simp;omega
def no3:List Str:=["guess","unless","if"]
def ok3:∀s∈no3,aW s=true:=by decide+kernel
def lowB(s:Str):Bool:=s.cps.toList.all λc=>decide (97<=c)&&decide (c<=122)
def wdB(s:Str):Bool := !no3.any (·==s)&&(decide (1<=s.length)&&(decide (s.length<=12)&&lowB s))
def pIn_3(h:Asc s):pIn (.str s) (.tup [.str "guess",.str "unless",.str "if"])=some (.bl (no3.any (·==s))):=by
 show pIn (.str s) (.tup (no3.map .str))=_;rw[pIn_st (QgY h) ok3]
def sLe_a c:sLe "a" ⟨#[c]⟩=decide (97<=c):=by
 unfold sLe;rw[show("a":Str).cps.toList=[97] by decide+kernel];grind[mo]
def sLe_z c:sLe ⟨#[c]⟩ "z"=decide (c<=122):=by
 unfold sLe;rw[show("z":Str).cps.toList=[122] by decide+kernel];grind[mo]
def pLeS_s a b:pLeS (.str a) (.str b)=some (.bl (sLe a b)):=rfl
def ev_iStr m γ:iStr m γ=(m γ).bind itX:=rfl
def itX_asc(h:Asc s):itX (.str s)=some (Qcf s):=ak (QoV h)
def signs_len s:(Qcf s).length=s.length:=by unfold Qcf;simp[b9]
def Qnd(bs:List Bool):QlY [.lst (bs.map .bl)]=some (.bl (bs.all id)):=by
 show(bls? (bs.map PV.bl)).map (λbs=>PV.bl (bs.all id))=_;rw[QkV];rfl
def EVl:=(ae (ae (ae (ae @aK.{0} @c7.{0}) (ae @if_true.{1} @aL.{0,0})) (ae (ae @List.map_nil.{0,0} @kK.{0}) (ae @kL.{0} (ae @lP.{0} @i0.{0})))) (ae (ae (ae @List.getElem?_cons_zero.{0} @jE.{0}) (ae @aQ.{0,0} (ae @Option.map_some.{0,0} @List.set_cons_zero.{0}))) (ae (ae @List.set_cons_succ.{0} @aj.{0,0}) (ae @List.all_nil.{0} (ae @fY.{0} @aJ.{0})))))
local macro_rules | `(tactic| walk_at "eb")=>`(tactic| first | assumption | omega | (simp only[signs_len,encN_len,List.length_map,List.length_range,List.length_cons,List.length_nil,List.length_append];omega) | decide)
local macro_rules | `(tactic| walk_at "ev")=>`(tactic| try simp (disch:=walk_at "eb") only[pLen_sn,ev_iStr,pLeS_s,signs_len,EVc,EVl,List.length_range])
def QbK(h:Asc s)(G:s.length<=9000):Yd [.str s]=some (.bl (wdB s)):=by
 delta Yd QhL;unfold wdB;walk_at "ev";rw[pIn_3 h];walk_at "ev";cases hn:no3.any (·==s) with
 |true=>walk_at "ev";try rfl
 |false =>
  walk_at "ev";by_cases h1:1<=s.length
  .rw[aE h1];walk_at "ev";by_cases h2:s.length<=12
   .rw[aE h2];walk_at "ev";rw[itX_asc h];walk_at "ev";unfold Qcf;rw[ZH (λc=>PV.str ⟨#[c]⟩) (λc=>PV.bl (decide (97<=c)&&decide (c<=122))) _ λc hc=>⟨_,rfl,by
     walk_at "ev";rw[sLe_a];by_cases j:97<=c
     .rw[aE j];walk_at "ev";rw[sLe_z];try rfl
     .rw[aH j];walk_at "ev";try rfl⟩]
    rw[show(s.cps.toList.map λc=>PV.bl (decide (97<=c)&&decide (c<=122)))=(s.cps.toList.map λc=>decide (97<=c)&&decide (c<=122)).map PV.bl by simp_all];walk_at "ev";rw[Qnd,eD];rfl
   .rw[aH h2];walk_at "ev"
    try rfl
  .rw[aH h1];walk_at "ev"
   try rfl
theorem QkG{α:Type}{g:PV->PEnv->Option PEnv}{b:MSt}(f:α->PV)(P:α->Bool)(p:PV)(I:PEnv->Prop):∀(xs:List α)(γ:PEnv),I γ->(∀x∈xs,∀γ,I γ->∃γ1,g (f x) γ=some γ1/\(P x=true->∃G,b γ1=some (.nx G)/\I G)/\(P x=false->b γ1=some (.rt p))) ->
  (xs.all P=true->∃γ',forL g b (xs.map f) γ=some (.nx γ')/\I γ')/\(xs.all P=false->forL g b (xs.map f) γ=some (.rt p))
 |[],γ,h,_=>⟨λ_=>⟨γ,rfl,h⟩,λz=>by simp at z⟩
 |x::xs,γ,h,st=>by
  obtain⟨γ1,e1,y,n⟩:=st x (by simp) γ h;cases j:P x with
  |true =>
   obtain⟨G,e2,h2⟩:=y j;have m:=QkG f P p I xs G h2 λz hz=>st z (by simp[hz]);have e:forL g b ((x::xs).map f) γ=forL g b (xs.map f) G:=by
    rw[aL];conv=>lhs;unfold forL
    rw[e1,aQ,e2];rfl
   rw[e,fY,j,ij];exact m
  |false =>
   have e:forL g b ((x::xs).map f) γ=some (.rt p):=by
    rw[aL];conv=>lhs;unfold forL
    rw[e1,aQ,n j];rfl
   rw[e,fY,j,jj];exact⟨λz=>(by cases z),λ_=>rfl⟩
def AllA(ws:List Str):Prop:=∀s∈ws,Asc s/\s.length<=9000
def gB:List Str->Bool
 |[a,b,c,d]=>(a=="guess"&&c=="unless")&&(wdB b&&wdB d)
 |_=>false
def rB:List Str->Bool
 |[a]=>wdB a
 |[_,_]=>false
 |a::b::body=>b=="if"&&(a::body).all wdB
 |[]=>false
theorem QC:aW "guess"=true:=by decide+kernel
def un_ok:aW "unless"=true:=by decide+kernel
def if_ok:aW "if"=true:=by decide+kernel
def QjM:∀{ws:List Str},AllA ws->ws.length<=1000->ZJ [.lst (ws.map .str)]=some (.bl (gB ws)):=by
 intro ws j L;by_cases m:ws.length=4
 .match ws,m with
  |[a,b,c,d],_ =>
   obtain⟨B,M⟩:=j a (by simp);obtain⟨D,E⟩:=j b (by simp);obtain⟨G,O⟩:=j c (by simp);obtain⟨H,I⟩:=j d (by simp);delta ZJ Xi;unfold gB;walk_at "ev";rw[show(!0+1+1+1+1==4)=false from rfl];walk_at "ev";rw[QeN (QgY B) QC];cases Q:(a=="guess") with
   |false=>walk_at "ev";try rfl
   |true =>
    walk_at "ev";rw[QeN (QgY G) un_ok];cases T:(c=="unless") with
    |false=>walk_at "ev";try rfl
    |true =>
     walk_at "ev";rw[QbK D E];walk_at "ev";cases U:wdB b with
     |false=>walk_at "ev";try rfl
     |true =>
      walk_at "ev";rw[QbK H I];walk_at "ev"
      try rfl
 .have J:gB ws=false:=by
   unfold gB;split
   .exact absurd rfl m
   .rfl
  delta ZJ Xi;walk_at "ev";rw[show(!(ws.length==4))=true by simp[m],J];walk_at "ev"
def cut_01{α:Type} x y (l:List α):cutP (x::y::l) none (some ((1:Nat)))=[x]:=by
 rfl
def cut_2{α:Type} x y (l:List α):cutP (x::y::l) (some ((2:Nat))) none=l:=by
 rw[QiH];rfl
def e_wcomp(G:AllA ws):QaQ (gSet 0) YE (Qg Yd (Qa (mVar 0) aNil)) [.un] (ws.map .str)=some ((ws.map wdB).map .bl):=by
 rw[ZH PV.str (λs=>PV.bl (wdB s)) _ λs hs=>⟨_,rfl,by
  obtain⟨j,m⟩:=G s hs;walk_at "ev";rw[QbK j m]⟩]
 simp_all
def QlE:∀{ws:List Str},AllA ws->ws.length<=1000->0<ws.length->ZB [.lst (ws.map .str)]=some (.bl (rB ws)):=by
 intro ws j D h0;match ws with
 |[]=>cases h0
 |[a] =>
  obtain⟨E,G⟩:=j a (by simp);delta ZB YG;walk_at "ev";rw[show(0+1==1)=true from rfl];walk_at "ev";rw[QbK E G];walk_at "ev";rfl
 |[a,b] =>
  delta ZB YG;walk_at "ev";walk_at "ev";walk_at "ev";rfl
 |a::b::c::body =>
  obtain⟨H,M⟩:=j b (by simp);have I:body.length+1+1+1<=1000:=D;delta ZB YG;walk_at "ev";rw[show(body.length+1+1+1==1)=false by grind];walk_at "ev";rw[show(body.length+1+1+1==2)=false by grind];walk_at "ev";rw[QeN (QgY H) if_ok];have J:rB (a::b::c::body)=(b=="if"&&(a::c::body).all wdB):=rfl;obtain⟨A,B⟩:∃A,A=(a::c::body).all wdB:=⟨_,rfl⟩
  rw[J,<-B];cases O:(b=="if") with
  |false=>walk_at "ev";try rfl
  |true =>
   walk_at "ev";rw[cut_01,cut_2,pCat_l (by simp;lia),show [PV.str a]++PV.str c::body.map PV.str=(a::c::body).map PV.str from rfl];have m:AllA (a::c::body):=λs hs=>j s (by
    grind)
   have L:((a::c::body).map PV.str).length<=100000:=by simp;lia
   generalize a::c::body=us at *;walk_at "ev";rw[e_wcomp m];walk_at "ev";rw[Qnd,eD,B];rfl
def semT(ws:List Str):PV ⊕ Nat :=
 if gB ws=true then .inl (.tup [.str "guess",.str (ws.getD 1 ""),.str (ws.getD 3 "")])
 else if rB ws=false then .inr 0
 else if 6<(ws.drop 2).length then .inr 1
 else if (once (ws.drop 2)).length<(ws.drop 2).length then .inr 2
 else .inl (.tup [.str "rule",.str (ws.getD 0 ""),.tup ((ws.drop 2).map .str)])
def rdT(C:Nat->Addr)(r:PV):PV ⊕ Nat->PV ⊕ PV
 |.inl p=>.inl p
 |.inr k=>.inr (.obj (C (k+2)) ["row"] [r])
def Qpa(s2:MStR):Out ⊕ PV->Option (Out ⊕ PV)
 |.inl (.nx γ')=>s2 γ'
 |o=>some o
def ev_rSeq s1 s2 γ:rSeq s1 s2 γ=(s1 γ).bind (Qpa s2):=by
 congr 1
def rseqK_nx s2 γ:Qpa s2 (.inl (.nx γ))=s2 γ:=rfl
def rseqK_rt s2 p:Qpa s2 (.inl (.rt p))=some (.inl (.rt p)):=rfl
def rseqK_x s2 p:Qpa s2 (.inr p)=some (.inr p):=rfl
def ev_rLift m γ:Xh m γ=(m γ).map .inl:=rfl
def rifK(s1 s2:MStR)(γ:PEnv):Bool->Option (Out ⊕ PV)
 |true=>s1 γ
 |false=>s2 γ
def rifK_t s1 s2 γ:rifK s1 s2 γ true=s1 γ:=rfl
def rifK_f s1 s2 γ:rifK s1 s2 γ false=s2 γ:=rfl
def ev_rIf t s1 s2 γ:rIf t s1 s2 γ=(t γ).bind (rifK s1 s2 γ):=by
 unfold rIf;congr 1;funext k;cases k<;>rfl
def ev_rRaise ms C f ma γ:Qch ms C f ma γ=(ma γ).bind λG=>(one? G).map λp=>.inr (.obj C [f] [p]):=rfl
def one_1 p:one? [p]=some p:=rfl
def runR_2 N m a b:runR N 2 m [a,b]=(m (QK N [a,b])).bind outR:=ak rfl
def outR_rt p:outR (.inl (.rt p))=some (.inl p):=rfl
def outR_x p:outR (.inr p)=some (.inr p):=rfl
def Qll(G:L.length<=9000):QcV (.str L) [.str " "]=some ((bh L sp).map .str):=by
 show(if ((" ").length==0)=false/\L.length+2<=LIM then some ((bh L " ").map PV.str) else none)=_;rw[ak ⟨rfl,Yb (by lia)⟩];rfl
theorem Qdi{c:Nat}:∀{l w:List Nat},w∈splL c l->(∀d∈w,d∈l)/\w.length<=l.length
 |[],w,h=>by
  have:w=[]:=by simpa[splL] using h
  subst this;simp
 |d::l,w,h=>by
  unfold splL at h;split at h
  .rcases ao.mp h with rfl | h
   .simp
   .obtain⟨h1,h2⟩:=Qdi h;exact⟨λe he=>aw _ (h1 e he),by simp;omega⟩
  .obtain⟨y,t,e⟩:=QbE c l;rw[e]at h;rcases ao.mp h with rfl | h
   .obtain⟨h1,h2⟩:=Qdi (l:=l) (w:=y) (c:=c) (by rw[e];simp);refine⟨λe he=>?_,by simp;omega⟩;rcases ao.mp he with rfl | he
    .simp
    .exact aw _ (h1 e he)
   .obtain⟨h1,h2⟩:=Qdi (l:=l) (w:=w) (c:=c) (by rw[e];simp[h]);exact⟨λe he=>aw _ (h1 e he),by simp;omega⟩
theorem Qkc{c:Nat}:∀{l:List Nat},(splL c l).length<=l.length+1
 |[]=>by simp[splL]
 |d::l=>by
  have j:=Qkc (c:=c) (l:=l);unfold splL;split
  .simp;omega
  .obtain⟨y,t,e⟩:=QbE c l;rw[e]at j |-;simp at j |-;omega
def QnU(h:Asc L)(G:L.length<=900):AllA (bh L sp)/\(bh L sp).length<=1000/\0<(bh L sp).length:=by
 have j:L.cps.toList.length=L.length:=by simp[b9]
 rw[QfV];refine⟨λs hs=>?_,?_,?_⟩
 .obtain⟨w,hw,rfl⟩:=bw.mp hs;obtain⟨h1,h2⟩:=Qdi hw;refine⟨λc hc=>h c (h1 c (by grind)),?_⟩;show w.toArray.size<=9000;grind
 .grind[Qkc]
 .obtain⟨y,t,e⟩:=QbE 32 L.cps.toList;grind
theorem QiA:∀{l:List Str},(once l).length<=l.length
 |[]=>am _
 |x::l=>by
  have h1 := @QiA l;exact lI (aS (dN _ _) h1)
def Qhs(G:body.length<1000):Xu [.tup (body.map .str)]=some (pN (once body).length):=by
 show(match ZI (body.map PV.str) with
  |some j=>if j.length<1000 then some (PV.int (once j).length) else none
  |none=>none)=_
 rw[L2.PM.strs?_map];show(if body.length<1000 then some (PV.int (once body).length) else none)=_;rw[ak G];rfl
def Qef(ws:List Str):(ws.map PV.str).all flat=true:=by grind[flat]
local macro_rules | `(tactic| walk_at "ev")=>`(tactic| try simp (disch:=walk_at "eb") only[pLen_sn,ev_iStr,pLeS_s,signs_len,mtK_s,ev_rSeq,rseqK_nx,rseqK_rt,rseqK_x,ev_rLift,rifK_t,rifK_f,ev_rIf,ev_rRaise,one_1,runR_2,outR_rt,outR_x,EVc,EVl,List.length_range])
def Qfv C {L:Str} (h:Asc L) (G:L.length<=900) r (J:flat r=true):Zs C [.str L,r]=some (rdT C r (semT (bh L sp))):=by
 obtain⟨D,h1,h2⟩:=QnU h G;delta Zs QcK;unfold semT;walk_at "ev";rw[Qll (by lia)];generalize bh L sp=ws at *;walk_at "ev"
 try rw[Qef]
 walk_at "ev";rw[QjM D h1];walk_at "ev";cases E:gB ws with
 |true =>
  have j:=E;unfold gB at j;split at j
  .walk_at "ev";rfl
  .cases j
 |false =>
  walk_at "ev";rw[QlE D h1 h2];walk_at "ev";cases H:rB ws with
  |false=>walk_at "ev";rfl
  |true =>
   walk_at "ev";rw[QiH ws 2];have h0:(ws.map PV.str)[0]?=some (.str (ws.getD 0 "")):=by
    grind
   generalize ws.drop 2=body at *;walk_at "ev";by_cases m:6<body.length
   .rw[aE m,ak m];walk_at "ev";rfl
   .rw[aH m,ar m];walk_at "ev";rw[Qhs (by lia)];walk_at "ev";by_cases B:(once body).length<body.length
    .rw[aE B,ak B];walk_at "ev";rfl
    .rw[aH B,ar B];walk_at "ev";rw[h0];walk_at "ev";rfl
def dupB:List Str->Bool
 |[]=>false
 |x::l=>l.any (·==x)||dupB l
theorem Qgl:∀{l:List Str},x∈once l↔x∈l
 |[]=>by simp[once]
 |y::l=>by
  unfold once;rw[ao,ao,bP,Qgl];by_cases h:x=y
  .simp[h]
  .simp[h]
theorem QhI{p:Str->Bool}:∀{l:List Str}{x:Str},x∈l->p x=false->(l.filter p).length<l.length
 |y::l,x,h,j=>by
  rcases ao.mp h with rfl | h
  .rw[lN,j];exact Nat.lt_succ_of_le (dN _ _)
  .have:=QhI h j;rw[lN];split
   .simp only[aK];omega
   .simp only[aK];omega
theorem Qko:∀{l:List Str},((once l).length<l.length)↔dupB l=true
 |[]=>by simp[once,dupB]
 |x::l=>by
  have h1 := @QiA l;have D := @Qko l;unfold once dupB;rw[ef,<-D];by_cases j:x∈l
  .have h2:=QhI (p:=λy => !(y==x)) (l:=once l) (x:=x) (Qgl.mpr j) (by simp);have m:(l.any λy=>y==x)=true:=eS.mpr ⟨x,j,by simp⟩;simp only[aK,m,true_or,iff_true];omega
  .have m:(once l).filter (λy => !(y==x))=once l:=by
    rw[List.filter_eq_self];intro y B;have:y≠x:=λe=>j (e▸Qgl.mp B);simpa using this
   have E:(l.any λy=>y==x)=false:=by
    rw[fQ];intro y B e;exact j (by rw[<-bM.mp e];exact B)
   rw[m,E];simp
def bOr_b(h1:t1 γ=some a)(h2:t2 γ=some b):bOr t1 t2 γ=some (a||b):=by
 rw[ev_bOr,h1];cases a
 .exact h2
 .rfl
def Low(s:Str):Prop:=∀c∈s.cps.toList,97<=c/\c<=122
structure Wd (s:Str):Prop where
 l1:1<=s.length
 l2:s.length<=12
 low:Low s
 no:s∉no3
def ZD(h:Low s):aW s=true:=by
 unfold aW;rw[ix];intro c hc;have:=h c (by grind);lia
theorem low_sp(h:Low s):32∉s.cps.toList:=λz=>by
 have:=h 32 z;lia
def Qnh(h1:Low a)(h2:Low b):Low (a++b):=λc hc=>by
 have hc:c∈(a.cps++b.cps).toList:=hc;rw[ib]at hc;rcases aO.mp hc with z | z
 .exact h1 c z
 .exact h2 c z
def no_any(h:s∉no3):no3.any (·==s)=false:=by
 rw[fQ];intro x j e;exact h (by rw[<-bM.mp e];exact j)
def wd_ne(h:Wd s)(G:r∈no3):(s==r)=false:=by
 rw[cv];rintro rfl;exact h.no G
def mtK_s(g:PV->List PV->Option α) q z:mtK "str" g q (.str z)=q.bind (g (.str z)):=rfl
def Qgh(h1:i<26):pIx (.str "abcdefghijklmnopqrstuvwxyz") (pN i)=some (.str ⟨#[97+i]⟩):=by
 have key:∀i:_root_.Fin 26,atI ("abcdefghijklmnopqrstuvwxyz":Str).cps.toList (i)=some (97+(i:Nat)):=by decide+kernel
 have:=key ⟨i,h1⟩;show(if "abcdefghijklmnopqrstuvwxyz".length<=LIM then (atI ("abcdefghijklmnopqrstuvwxyz":Str).cps.toList i).map (λc=>PV.str ⟨#[c]⟩) else none)=_;rw[ak (Yb (by decide+kernel)),this];rfl
def QcZ(I:Nat->PEnv->Prop) n γ (h0:I 0 γ)
  (step:∀j γ,j<n->I j γ->∃γ1 G,g (pN j) γ=some γ1/\b γ1=some (.nx G)/\I (j+1) G):∃γ',forL g b (encN (az n)) γ=some (.nx γ')/\I n γ':=by
 obtain⟨γ',e,h⟩:=Qgo pN (λpre γ=>I pre.length γ) (az n) (az n) [] γ rfl h0 (λpre x post γ m D=>by
  have E:=congrArg di m;simp at E;have B:(az n)[pre.length]?=some x:=by rw[<-m];simp
  rw[kO (by omega)]at B;cases B;obtain⟨γ1,G,h1,h2,H⟩:=step pre.length γ (by omega) D;exact⟨γ1,G,h1,h2,by simpa using H⟩)
 rw[aq]at h;exact⟨γ',e,h⟩
def Qkv c:(⟨#[c]⟩:Str).length=1:=rfl
def low1(h:i<26):Low ⟨#[97+i]⟩:=λc hc=>by
 grind
def Qor:Low "":=λc hc=>by
 cases hc
local macro_rules | `(tactic| walk_at "ev")=>`(tactic| try simp (disch:=walk_at "eb") only[pLen_sn,mtK_s,EVc,EVl,List.length_range])
def QiF G {size:Nat} (hs:size<=12):∃s ,ZT [pN G,pN size]=some (.str s)/\s.length=size/\Low s:=by
 delta ZT QcM;walk_at "ev";obtain⟨γ',e,number,s,m,rfl,h1,h2⟩:=QcZ (g:=gSet 4) (b:=XB) (λj γ=>∃(number:Nat)(s:Str)(m:Slot),γ=[.fz (pN number),.fz (pN size),.fz (.str "abcdefghijklmnopqrstuvwxyz"),.fz (.str s),m]/\s.length=j/\Low s)
  size [.fz (pN G),.fz (pN size),.fz (.str "abcdefghijklmnopqrstuvwxyz"),.fz (.str ""),.un] ⟨G,"",.un,rfl,rfl,Qor⟩ (by
   rintro j γ B ⟨number,s,m,rfl,h1,h2⟩;have hm:(number*69621+1)%2147483647/17%26<26:=aP _ (by decide);refine⟨_,_,rfl,?_,(number*69621+1)%2147483647,s++⟨#[97+(number*69621+1)%2147483647/17%26]⟩,.fz (pN j),rfl,by rw[Qca,Qkv];omega,Qnh h2 (low1 hm)⟩;delta XB;generalize hn:(number*69621+1)%2147483647/17%26=i at *;walk_at "ev";rw[hn,Qgh hm];have:=Qkv (97+i);walk_at "ev")
 rw[e];walk_at "ev";exact⟨s,rfl,h1,h2⟩
def Qms u n:aZ none u 1 n=aZ (some ((0:Nat))) u 1 n:=by
 unfold aZ;grind
def Qmt l n:aZ l none 1 n=aZ l (some (n)) 1 n:=by
 unfold aZ;grind
def Qdm x {a b:Nat} (G:a<=b) (J:b<=x.length) l u (e:aZ l u 1 x.length=aZ (some a) (some b) 1 x.length) :
  (bT x l u).cps.toList=(x.cps.toList.drop a).take (b-a):=by
 have m:x.cps.toList.length=x.length:=by simp[b9]
 have j:=StrLaws.sliced_plain x G J;have hi:=StrLaws.strSliceIndices_plain G J;unfold bT;rw[e];split
 .rename_i h;rw[hi]at h;simp at h;have h2:a=0:=by omega
  subst h2;rw[fH,cU (by omega)]
 .exact j
def nl:Str := "\n"
def nl_is:nl=⟨#[10]⟩:=by decide+kernel
open Builtin.Str StrLaws in
def split_nl(x:Str):bh x nl=(splL 10 x.cps.toList).map λl=>(⟨l.toArray⟩:Str):=by
 have m:x.cps.toList.length=x.length:=by simp[b9]
 have ho:occurrences x nl 0 x.length (x.length+1)=posL 10 x.cps.toList 0:=by
  rw[occ_eq];have:=QdJ x 10 (x.length+1) 0 #[] 0 (by omega) (by simp) (am _);rw[<-nl_is]at this;simpa using this
 obtain⟨h,t,e1,e2⟩:=QbH x 10 x.cps.toList.length 0 0 (by omega) (am _);rw[fH]at e1 e2;have main:partsFrom x 1 0 (posL 10 x.cps.toList 0)=(splL 10 x.cps.toList).map λl=>(⟨l.toArray⟩:Str):=by
  rw[e2,e1];simp
 unfold bh;rw[ho];by_cases h0:posL 10 x.cps.toList 0=[]
 .rw[h0]at main;have one:[x]=(splL 10 x.cps.toList).map λl=>(⟨l.toArray⟩:Str):=by
   rw[<-main];show [x]=[strSub x 0 x.length];rw[sub_whole]
  rw[h0];split
  .exact one
  .rw[ak (show([]:List Nat).isEmpty=true from rfl)];exact one
 .have j:¬(decide (x.length<nl.length)||decide (bU x<bU nl))=true:=by
   have k1:bU nl=1:=by decide+kernel
   have k2:1<=bU x:=by unfold bU;split;omega;split<;>omega
   have k3:nl.length=1:=rfl;have B:0<x.cps.toList.length:=by
    cases L:x.cps.toList with
    |nil=>rw[L]at h0;exact absurd rfl h0
    |cons _ _=>simp
   rw[k1,k3];simp;omega
  rw[ar j,ar (by simpa using h0),partsBetween_eq];exact main
def Qjm:∀w ws,(∀s∈w::ws,10∉s.cps.toList)->bh (aM nl (w::ws)) nl=w::ws:=by
 have key:∀w ws,(∀s∈w::ws,10∉s.cps.toList)->splL 10 (aM nl (w::ws)).cps.toList=(w::ws).map λs=>s.cps.toList:=by
  intro w ws;induction ws generalizing w with
  |nil =>
   intro h;rw[Yc,QdU (h w (by simp))];rfl
  |cons v ws j =>
   intro h;rw[Zl];have e:(w++nl++aM nl (v::ws)).cps.toList=w.cps.toList++10::(aM nl (v::ws)).cps.toList:=by
    show(w.cps++nl.cps++(aM nl (v::ws)).cps).toList=_;rw[show nl.cps = #[10] by rw[nl_is]];simp
   rw[e,QfW (h w (by simp)),j v λs hs=>h s (aw _ hs)];rfl
 intro w ws h;rw[split_nl,key w ws h,bc];exact List.map_id' _
inductive Rw where
 |g (a b:Str)
 |r (h:Str) (b:List Str)
def Rw.v:Rw->PV
 |.g a b=>.tup [.str "guess",.str a,.str b]
 |.r h b=>.tup [.str "rule",.str h,.tup (b.map .str)]
def Rw.line:Rw->Str
 |.g a b=>aM sp ["guess",a,"unless",b]
 |.r h b=>if b=[] then h else aM sp (h::"if"::b)
def Rw.Ok:Rw->Prop
 |.g a b=>Wd a/\Wd b
 |.r h b=>Wd h/\(∀s∈b,Wd s)/\b.Nodup/\b.length<=6
theorem g_sp:("guess ") = "guess"++sp:=by decide+kernel
theorem u_sp:(" unless ")=sp++"unless"++sp:=by decide+kernel
def i_sp:(" if ")=sp++"if"++sp:=by decide+kernel
theorem QY:aW "rule"=true:=by decide+kernel
def QcC:(("rule":Str)=="guess")=false:=by decide+kernel
theorem QeP:(("guess":Str)=="rule")=false:=by decide+kernel
def pJoinT_s(h:(ys.map b9).sum+ys.length*x.length<=100000):QgP (.str x) [.tup (ys.map .str)]=some (.str (aM x ys)):=by
 show(match ZI (ys.map PV.str) with
  |some ys=>if (ys.map (λz:Str=>z.length)).sum+ys.length*x.length<=LIM then some (PV.str (aM x ys)) else none
  |none=>none)=_
 rw[L2.PM.strs?_map];exact ak (Yb h)
def Qnb(h:(ys.map b9).sum+ys.length*x.length<=100000):QhZ (.str x) [.lst (ys.map .str)]=some (.str (aM x ys)):=by
 show(match ZI (ys.map PV.str) with
  |some ys=>if (ys.map (λz:Str=>z.length)).sum+ys.length*x.length<=LIM then some (PV.str (aM x ys)) else none
  |none=>none)=_
 rw[L2.PM.strs?_map];grind
theorem QfP(a b:Str):(a++b).length=a.length+b.length:=Qca a b
def line_g a b : "guess "++a++" unless "++b=(Rw.g a b).line:=by
 show _=aM sp ["guess",a,"unless",b];grind[Zl,Yc,g_sp,u_sp,QhT]
def line_r h y ys:h++" if "++aM " " (y::ys)=(Rw.r h (y::ys)).line:=by
 show _=if y::ys=[] then h else aM sp (h::"if"::y::ys);rw[ar (by simp),Zl,Zl,i_sp,show(" ")=sp from rfl];simp only[QhT]
theorem QbB G:∀ws,c∈(aM G ws).cps.toList->c∈G.cps.toList\/∃w∈ws,c∈w.cps.toList
 |[],h=>by
  cases h
 |[w],h=>by
  exact .inr ⟨w,by simp,h⟩
 |w::v::ws,h=>by
  rw[Zl]at h;have h:c∈(w.cps++G.cps++(aM G (v::ws)).cps).toList:=h;rw[ib,ib,aO,aO]at h;rcases h with(h | h) | h
  .exact .inr ⟨w,by simp,h⟩
  .exact .inl h
  .rcases QbB G (v::ws) h with h|⟨x,j,h⟩
   .exact .inl h
   .exact .inr ⟨x,aw _ j,h⟩
theorem QfE{α:Type}[DecidableEq α]:∀{l m:List α},l.Nodup->(∀x∈l,x∈m)->l.length<=m.length
 |[],_,_,_=>by simp
 |x::l,m,hn,h=>by
  obtain⟨h1,h2⟩:=bO.mp hn;have j:=h x (by simp);have:=QfE h2 λy B=>(kz (λe:y=x=>h1 (e▸B))).mpr (h y (aw _ B));rw[jx j]at this;have :=jQ j;simp;omega
theorem Qfm{α:Type}[DecidableEq α]:∀{l m:List α},l.Nodup->m.Nodup->(∀x,x∈l↔x∈m)->l.Perm m
 |[],m,_,_,h=>by
  cases m with
  |nil=>exact .refl _
  |cons y m=>exact absurd ((h y).mpr (by simp)) (by simp)
 |x::l,m,hn,hm,h=>by
  obtain⟨h1,h2⟩:=bO.mp hn;have D :=(h x).mp (by simp);refine .trans (.cons x (Qfm h2 (hm.erase x) λy=>?_)) (gU D).symm;rw[hm.mem_erase_iff];constructor
  .intro j;exact⟨λe=>h1 (e▸j),(h y).mp (aw _ j)⟩
  .rintro⟨B,j⟩;rcases ao.mp ((h y).mpr j) with e | z
   .exact absurd e B
   .exact z
theorem Qck[BEq α][LawfulBEq α]:∀{xs:List α},y∈once xs↔y∈xs
 |[]=>by simp[once]
 |x::xs=>by
  unfold once;rw[ao,ao,bP,Qck];by_cases h:y=x
  .simp[h]
  .simp[h]
theorem Qak[BEq α][LawfulBEq α]:∀xs:List α,(once xs).Nodup
 |[]=>by simp[once]
 |x::xs=>by
  unfold once;rw[bO];refine⟨by simp[bP],kC _ (Qak xs)⟩
def Rw.isG:Rw->Bool
 |.g _ _=>true
 |_=>false
def Rw.gp:Rw->Option (Str×Str)
 |.g a b=>some (a,b)
 |_=>none
def Rw.rp:Rw->Option (Str×List Str)
 |.r h b=>some (h,b)
 |_=>none
def Rw.ws:Rw->List Str
 |.g a b=>[a,b]
 |.r h b=>h::b
def gRow(p:Str×Str):Rw := .g p.1 p.2
def rRow(p:Str×List Str):Rw := .r p.1 p.2
theorem Qmd:∀(R:List Rw),R.filter Rw.isG=(R.filterMap Rw.gp).map gRow
 |[]=>rfl
 |.g a b::R=>by
  rw[jG (by rfl),b6 (by rfl),aL,Qmd R];rfl
 |.r h b::R=>by
  rw[jH (by simp[Rw.isG]),dr (by rfl),Qmd R]
theorem Qpl:∀(R:List Rw),(R.filter λx => !x.isG)=(R.filterMap Rw.rp).map rRow
 |[]=>rfl
 |.r a b::R=>by
  rw[jG (by rfl),b6 (by rfl),aL,Qpl R];rfl
 |.g h b::R=>by
  rw[jH (by simp[Rw.isG]),dr (by rfl),Qpl R]
def QeR(x:Rw):∃a b,x.v = .tup [.str (if x.isG=true then "guess" else "rule"),a,b]:=by
 cases x<;>exact⟨_,_,rfl⟩
def Qgr{R:List Rw}(G:R.length<=1000):Zj [.lst (R.map Rw.v),.str "guess"]=some (.lst ((R.filterMap Rw.gp).map λp=>(gRow p).v)):=by
 delta Zj Qej;walk_at "ev";rw[Xw Rw.v Rw.isG Rw.v R λx j=>by
  obtain⟨a,b,e⟩:=QeR x;refine⟨_,rfl,?_,λ_=>?_⟩
  .rw[e];walk_at "ev";cases m:x.isG
   .simp;rw[QP QY QC,QcC];rfl
   .simp;rw[QP QC QC];simp[isB_bl]
  .walk_at "ev"]
 rw[Qmd,bc];rfl
def QkQ{R:List Rw}(G:R.length<=1000):Zj [.lst (R.map Rw.v),.str "rule"]=some (.lst ((R.filterMap Rw.rp).map λp=>(rRow p).v)):=by
 delta Zj Qej;walk_at "ev";rw[Xw Rw.v (λx => !x.isG) Rw.v R λx j=>by
  obtain⟨a,b,e⟩:=QeR x;refine⟨_,rfl,?_,λ_=>?_⟩
  .rw[e];walk_at "ev";grind[QP,QY,isB_bl,QC,QeP]
  .walk_at "ev"]
 rw[Qpl,bc];rfl
def QoJ(h:m γ=some (.tup ys)):sExM ms i m γ=extK ms i γ (.tup ys) γ[i]?:=by
 show((m γ).bind λr=>match r with
  |.tup _=>sExt ms i m γ
  |_=>sExl ms i m γ)=_
 rw[h];show(m γ).bind (λr=>extK ms i γ r γ[i]?)=_;rw[h];rfl
def QoK(h:m γ=some (.lst ys)):sExM ms i m γ=exlK ms i γ (.lst ys) γ[i]?:=by
 show((m γ).bind λr=>match r with
  |.tup _=>sExt ms i m γ
  |_=>sExl ms i m γ)=_
 rw[h];show(m γ).bind (λr=>exlK ms i γ r γ[i]?)=_;rw[h];rfl
def lt_lim5(h:n<=1000):n<LIM:=Qja (by lia)
def extK_ok(h:xs.length+ys.length<=100000)(h2:(!ms.contains i)=true):extK ms i γ (.tup ys) (some (.ow xs))=some (.nx ((Qw (flat (.tup ys)) ms γ).set i (.ow (xs++ys)))):=ak ⟨Qja h,h2⟩
def exlK_ok(h:xs.length+ys.length<=100000)(h2:(!ms.contains i)=true):exlK ms i γ (.lst ys) (some (.ow xs))=some (.nx ((Qw (flat (.lst ys)) ms γ).set i (.ow (xs++ys)))):=ak ⟨Qja h,h2⟩
def Qbn{R:List Rw}(h:∀x∈R,x.ws.length<=7):(R.flatMap Rw.ws).length<=R.length*7:=by
 induction R with
 |nil=>simp
 |cons x R j =>
  grind
def ok_ws{x:Rw}(h:x.Ok):x.ws.length<=7:=by
 cases x with
 |g a b=>show 2<=7;lia
 |r h b =>
  obtain⟨_,_,_,j⟩:=h;show b.length+1<=7;lia
def QnA{R:List Rw}(ok:∀x∈R,x.Ok)(G:R.length<=100):Xn [.lst (R.map Rw.v)]=some (.lst ((R.flatMap Rw.ws).map .str)):=by
 delta Xn Qfw;walk_at "ev";generalize H:PV.lst (R.map Rw.v)=P;obtain⟨γ',m,s2,rfl⟩:=Qgo (g:=gSet 2) (b:=Qbt) Rw.v
   (λpre γ=>∃s2,γ=[.fz P,.ow ((pre.flatMap Rw.ws).map .str),s2])
   R R [] [.fz P,.ow [],.un] rfl ⟨.un,rfl⟩ (by
    rintro pre x post γ j ⟨s2,rfl⟩;have B :=by
     have:=congrArg di j;simp at this;omega
    have hw:=Qbn (R:=pre) λy D=>ok_ws (ok y (by rw[<-j];simp[D]));have E:=ok x (by rw[<-j];simp);refine⟨_,_,rfl,?_,.fz x.v,rfl⟩;rw[List.flatMap_append,List.flatMap_cons,List.flatMap_nil,bQ];generalize pre.flatMap Rw.ws=W at *;delta Qbt;cases x with
    |g a b =>
     unfold Rw.v Rw.ws;walk_at "ev";rw[QaV (by rw[aj];omega) rfl];walk_at "ev";rw[QoK (ys:=[.str b]) (by
      walk_at "ev";rw[QP QC QC,show(("guess":Str)=="guess")=true by simp];walk_at "ev")]
     walk_at "ev";rw[exlK_ok (by simp;omega) rfl];walk_at "ev";simp
    |r h b =>
     obtain⟨_,_,_,I⟩:=E;unfold Rw.v Rw.ws;walk_at "ev";rw[QaV (by rw[aj];omega) rfl];walk_at "ev";rw[QoJ (ys:=b.map .str) (by
      walk_at "ev";rw[QP QY QC,QcC];walk_at "ev")]
     walk_at "ev";rw[extK_ok (by simp;omega) rfl];walk_at "ev";simp)
 rw[m];walk_at "ev"
def Qjz(h:G.length<1000):QbJ [.lst (G.map .str)]=some (pN (once G).length):=by
 show(match ZI (G.map PV.str) with
  |some ns=>if ns.length<1000 then some (PV.int (once ns).length) else none
  |none=>none)=_
 rw[L2.PM.strs?_map];show(if G.length<1000 then some (PV.int (once G).length) else none)=_;rw[ak h];rfl
def Rw.key:Rw->PV
 |.g a _=>.tup [.str "guess",.str a]
 |.r h b=>.tup [.str "rule",.str h,.tup ((Ze b).map .str)]
def Qgg(h:G.length<64):QeU [.tup (G.map .str)]=some ((Ze G).map .str):=by
 show(match ZI (G.map PV.str) with
  |some G=>if G.length<64 then some ((Ze G).map PV.str) else none
  |none=>none)=_
 rw[L2.PM.strs?_map];exact ak h
def e_once{x:Rw}(h:x.Ok):ZL [x.v]=some x.key:=by
 cases x with
 |g a b =>
  delta ZL Qbp;unfold Rw.v;walk_at "ev";rw[QP QC QC,show(("guess":Str)=="guess")=true by simp];walk_at "ev";rfl
 |r H b =>
  obtain⟨_,_,_,j⟩:=h;delta ZL Qbp;unfold Rw.v;walk_at "ev";rw[QP QY QC,QcC];walk_at "ev";rw[Qgg (by lia)];walk_at "ev";rfl
def Rw.sim:Rw->Rw->Prop
 |.g a _,.g c _=>a=c
 |.r h b,.r k c=>h=k/\Ze b=Ze c
 |_,_=>False
theorem Qhq:∀{a b:List Str},peqL (a.map PV.str) (b.map .str)=true->a=b
 |[],[],_=>rfl
 |[],_::_,h=>by cases h
 |_::_,[],h=>by cases h
 |x::a,y::b,h=>by
  have h:((x==y)&&peqL (a.map PV.str) (b.map .str))=true:=h;rw[aD]at h;rw[eV h.1,Qhq h.2]
theorem Qdq:∀{G:List Str},(∀s∈G,aW s=true)->depL (G.map PV.str)=0/\okSL (G.map PV.str)=true
 |[],_=>by simp[depL,okSL]
 |s::G,h=>by
  have j:=Qdq λx m=>h x (aw _ m);have h1:=h s (by simp);simp[depL,okSL,dep,okS,j.1,j.2,h1]
def key_ok{x:Rw}(h:x.Ok):okv x.key=true:=by
 cases x with
 |g a b=>simp[Rw.key,okv,dep,depL,okS,okSL,ZD h.1.low,QC]
 |r H b =>
  obtain⟨j,m,_,_⟩:=h;have:=Qdq λs hs=>ZD (m s ((QW b).mem_iff.mp hs)).low;simp[Rw.key,okv,dep,depL,okS,okSL,ZD j.low,QY,this.1,this.2]
structure Gd (R:List Rw) (M:List Str):Prop where
 ok:∀x∈R,x.Ok
 pw:R.Pairwise λx y=>¬x.sim y
 ng:(R.filterMap Rw.gp).length<=8
 nr:(R.filterMap Rw.rp).length<=40
 nM:M.length<=30
 ws:∀x∈R,∀w∈x.ws,w∈M
 hd:∀p∈R.filterMap Rw.rp,p.1∉(R.filterMap Rw.gp).map (·.1)
theorem QiC:∀R:List Rw,R.length=(R.filterMap Rw.gp).length+(R.filterMap Rw.rp).length
 |[]=>rfl
 |.g a b::R=>by
  rw[b6 (by rfl),dr (by rfl),aK,aK,QiC R];lia
 |.r a b::R=>by
  rw[dr (by rfl),b6 (by rfl),aK,aK,QiC R];lia
def Gd.len(h:Gd R M):R.length<=48:=by
 have:=QiC R;have:=h.ng;have:=h.nr;lia
abbrev Gp:=Str×Str
abbrev Rp:=Str×List Str
def GN(G:List Gp):List Str:=G.map (·.1)
def wds(G:List Gp)(rs:List Rp):List Str:=(G.flatMap λp=>[p.1,p.2])++rs.flatMap λp=>p.1::p.2
def nm(G:List Gp)(rs:List Rp):List Str:=Ze (GN G)++Ze ((once (wds G rs)).filter λj=>decide (j∉GN G))
def Qjl(h:a.Perm b):Ze a=Ze b:=Qdh ((QW a).trans h) (Qdg a)
def QdK:w∈wds G rs↔(∃p∈G,w=p.1\/w=p.2)\/∃p∈rs,w=p.1\/w∈p.2:=by
 unfold wds;simp
def mem_rows{R:List Rw}:w∈R.flatMap Rw.ws↔w∈wds (R.filterMap Rw.gp) (R.filterMap Rw.rp):=by
 rw[QdK,List.mem_flatMap];constructor
 .rintro⟨x,j,hw⟩;cases x with
  |g a b =>
   have hw:w∈[a,b]:=hw;refine .inl ⟨(a,b),bv.mpr ⟨_,j,rfl⟩,by simpa using hw⟩
  |r h b =>
   have hw:w∈h::b:=hw;exact .inr ⟨(h,b),bv.mpr ⟨_,j,rfl⟩,by simpa using hw⟩
 .rintro(⟨p,m,hw⟩|⟨p,m,hw⟩)
  .obtain⟨x,j,e⟩:=bv.mp m;cases x with
   |g a b =>
    cases e;exact⟨_,j,by show w∈[a,b];simpa using hw⟩
   |r h b=>cases e
  .obtain⟨x,j,e⟩:=bv.mp m;cases x with
   |g a b=>cases e
   |r h b =>
    cases e;exact⟨_,j,by show w∈h::b;simpa using hw⟩
def nm_rows(R:List Rw):Ze (GN (R.filterMap Rw.gp))++Ze ((once (R.flatMap Rw.ws)).filter λj=>decide (j∉GN (R.filterMap Rw.gp)))=nm (R.filterMap Rw.gp) (R.filterMap Rw.rp):=by
 congr 1;refine Qjl (Qfm ((Qak _).filter _) ((Qak _).filter _) λx=>?_);rw[bP,bP,Qck,Qck,mem_rows]
def Qjy{a b:List Str}(h1:a.length<1000)(h2:b.length<1000)(G:(once a).length<64):QbI [.lst (a.map .str)] [.lst (b.map .str)]=some ((Ze ((once a).filter λj=>decide (j∉b))).map .str):=by
 show(match ZI (a.map PV.str),ZI (b.map PV.str) with
  |some ns,some ks=>if ns.length<1000/\ks.length<1000/\(once ns).length<64 then some ((Ze ((once ns).filter λj=>decide (j∉ks))).map PV.str) else none
  |_,_=>none)=_
 rw[L2.PM.strs?_map,L2.PM.strs?_map];exact ak ⟨h1,h2,G⟩
def ev_mSortDiff ma mb γ:Qed ma mb γ=(ma γ).bind λx=>(mb γ).bind λy=>QbI x y:=rfl
def GN_ok{R:List Rw}(ok:∀x∈R,x.Ok):∀s∈GN (R.filterMap Rw.gp),aW s=true:=by
 intro s hs;obtain⟨p,j,rfl⟩:=bw.mp hs;obtain⟨x,m,e⟩:=bv.mp j;cases x with
 |g a b=>cases e;exact ZD (ok _ m).1.low
 |r h b=>cases e
local macro_rules | `(tactic| walk_at "ev")=>`(tactic| try simp (disch:=walk_at "eb") only[pLen_sn,mtK_s,ev_mSortDiff,EVc,EVl,List.length_range])
def QkR{R:List Rw}(G:R.length<=1000) γ (h:getV γ 0=some (.lst (R.map Rw.v))):Yg (iLst (Qg Zj (Qa (mVar 0) (Qa (mC (.str "guess")) aNil)))) 1 [] (gSet 0) YE (bin2 pIx (mVar 0) (mN 1)) γ=some ((GN (R.filterMap Rw.gp)).map .str):=by
 have j:(R.filterMap Rw.gp).length<=1000:=aS (List.length_filterMap_le _ _) G;walk_at "ev";rw[h];walk_at "ev";rw[Qgr G];walk_at "ev";rw[ZH (λp=>(gRow p).v) (λp=>PV.str p.1) _ λp m=>⟨_,rfl,by
  unfold gRow Rw.v;walk_at "ev"⟩]
 unfold GN;rw[bc];rfl
def ev_sExE ms m γ:sExE ms m γ=(m γ).map λr=>.nx (Qw (flat r) ms γ):=rfl
def e_names(G:Gd R M):QaG [.lst (R.map Rw.v)]=some (.tup ((nm (R.filterMap Rw.gp) (R.filterMap Rw.rp)).map .str)):=by
 have E:=G.len;have j:=QkR (by lia) [.fz (.lst (R.map Rw.v)),.un] rfl;have H:=G.ng;have m:(GN (R.filterMap Rw.gp)).length<=8:=by grind[GN]
 have hw:=Qbn λy B=>ok_ws (G.ok y B);have ho :=aS (QfE (Qak _) λw hw=>by
  obtain⟨x,D,hw⟩:=List.mem_flatMap.mp (Qck.mp hw);exact G.ws x D w hw) G.nM
 delta QaG Qfx;rw[runV_1,ev_startG1];simp;rw[ev_sSeq,ev_sSetO,j];walk_at "ev";rw[pSort_s (by lia)];walk_at "ev";rw[QnA G.ok (by lia)];walk_at "ev";rw[Qjy (by lia) (by lia) (by lia)];walk_at "ev";rw[pCat_l (by grind[QnS]),<-bH,nm_rows];walk_at "ev"
def ordN(G:List Str)(x y:Str):Prop:=(x∈G/\y∉G)\/((x∈G↔y∈G)/\sLe x y=true)
def Qol(h1:ordN G x y)(h2:ordN G y x):x=y:=by
 rcases h1 with⟨a,b⟩|⟨a,b⟩
 .rcases h2 with⟨c,_⟩|⟨c,_⟩
  .exact absurd c b
  .exact absurd (c.mpr a) b
 .rcases h2 with⟨c,d⟩|⟨_,d⟩
  .exact absurd (a.mpr c) d
  .exact QfY b d
def Qkn(h1:∀x∈l1,x∈G)(h2:∀x∈l2,x∉G):(Ze l1++Ze l2).Pairwise (ordN G):=by
 rw[gW];have m1 :=λx j=>h1 x ((QW l1).mem_iff.mp j);have m2 :=λx j=>h2 x ((QW l2).mem_iff.mp j);refine⟨?_,?_,λx j y m=>.inl ⟨m1 x j,m2 y m⟩⟩
 .refine(Qdg l1).imp_of_mem λ{x y} j m e=>.inr ⟨⟨λ_=>m1 y m,λ_=>m1 x j⟩,e⟩
 .refine(Qdg l2).imp_of_mem λ{x y} j m e=>.inr ⟨⟨λz=>absurd z (m2 x j),λz=>absurd z (m2 y m)⟩,e⟩
def nm_ord G rs:(nm G rs).Pairwise (ordN (GN G)):=Qkn (λ_ h=>h) λx j=>by
 grind
def idx_le{N G:List Str}(J:N.Pairwise (ordN G))(O:x∈N)(U:y∈N)(h:ordN G x y):N.idxOf x<=N.idxOf y:=by
 apply c0;intro c;have j:=fW.mpr O;have m:=fW.mpr U;have:=cZ.mp J (N.idxOf y) (N.idxOf x) m j (by omega);rw[ir m,ir j]at this;have e:=Qol h this;rw[e]at c;omega
def QiY(h:w∈wds G rs):w∈nm G rs:=by
 grind[nm,QW,Qck]
def ordB(G b:List Str):List Str:=Ze (b.filter λw=>decide (w∈G))++Ze (b.filter λw=>decide (w∉G))
def Qht G b:(ordB G b).Perm b:=by
 refine((QW _).append (QW _)).trans ?_;have h:=List.filter_append_perm (λw=>decide (w∈G)) b;refine .trans (.of_eq ?_) h;congr 1;refine lA λx _=>?_;simp
def ordB_ord G b:(ordB G b).Pairwise (ordN G):=Qkn (λx j=>by simpa using (bP.mp j).2) λx j=>by simpa using (bP.mp j).2
def isort_ix{N G b:List Str}(J:N.Pairwise (ordN G))(O:∀w∈b,w∈N):(QeO (b.map λw=>((N.idxOf w)))).map PV.int=encN ((ordB G b).map N.idxOf):=by
 have hm :=λw hw=>O w ((Qht G b).mem_iff.mp hw);have e:=QkA (ms:=(ordB G b).map λw=>((N.idxOf w))) ((Qht G b).map _) (by
  rw[lx];refine(ordB_ord G b).imp_of_mem λ{x y} j m h=>?_;have:=idx_le J (hm x j) (hm y m) h;omega)
 rw[<-e];unfold encN;rw[bc,bc];rfl
def Qea{N:List Str}(h:w∈N):QaT (.tup (N.map .str)) [.str w]=some (pN (N.idxOf w)):=by
 show(match ZI (N.map PV.str) with
  |some ns=>if w∈ns then some (PV.int (ns.idxOf w)) else none
  |none=>none)=_
 rw[L2.PM.strs?_map];exact ak h
def tpK(g:PV->List PV->Option PV)(q:Option (List PV))(p:PV):Option PV:=if Qmq p=true then q.bind (g p) else none
def ev_mMtT g m ma γ:mMtT g m ma γ=(m γ).bind (tpK g (ma γ)):=rfl
def tpK_s g q (N:List Str):tpK g q (.tup (N.map .str))=q.bind (g (.tup (N.map .str))):=by
 cases N<;>rfl
def rV(f:Str->Nat)(p:Rp):PV := .tup [pN (f p.1),.tup (encN (p.2.map f))]
local macro_rules | `(tactic| walk_at "ev")=>`(tactic| try simp (disch:=walk_at "eb") only[pLen_sn,mtK_s,ev_mSortDiff,ev_mMtT,tpK_s,EVc,EVl,List.length_range])
def QoL{N G:List Str}(O:N.Pairwise (ordN G))(U:h∈N)(J:∀w∈b,w∈N)(Y:b.length<64):Zy [.tup (N.map .str),(Rw.r h b).v]=some (rV N.idxOf (h,ordB G b)):=by
 have e1:=Qea U;have e2:=isort_ix O J;delta Zy Qaz;unfold Rw.v rV;walk_at "ev";rw[ZH PV.str (λw=>PV.int ((N.idxOf w))) _ λw hw=>⟨_,rfl,by
  walk_at "ev";rw[Qea (J w hw)];rfl⟩]
 rw[show(b.map λw=>PV.int ((N.idxOf w)))=(b.map λw=>((N.idxOf w):Int)).map PV.int by rw[bc];rfl];walk_at "ev";rw[pSort_i (by rw[aj];exact Y),e2];walk_at "ev";rw[e1];walk_at "ev"
def tr(p:Gp):Tri:=("guess",p.1,p.2)
def srtG(G:List Gp):List Gp:=(QdP (G.map tr)).map λt=>(t.2.1,t.2.2)
def srtG_tr G:QdP (G.map tr)=(srtG G).map tr:=by
 unfold srtG;rw[bc];have h:∀t∈QdP (G.map tr),(tr∘λt=>(t.2.1,t.2.2)) t=id t:=λt j=>by
  obtain⟨p,_,rfl⟩:=bw.mp ((QaD _).mem_iff.mp j);rfl
 rw[hZ h,List.map_id]
def Qhj G:(srtG G).Perm G:=by
 refine((QaD _).map _).trans ?_;rw[bc];exact .of_eq (List.map_id'' (λ_=>rfl) _)
def tri_fst G:(G.map tr).map (·.2.1)=GN G:=by
 rw[bc];rfl
def Qoj(hn:(GN G).Nodup)(J:G.length<64):QfL [.lst (G.map λp=>(gRow p).v)]=some ((srtG G).map λp=>(gRow p).v):=by
 have e:(G.map λp=>(gRow p).v)=(G.map tr).map triV:=by rw[bc];rfl
 rw[e];show(match QlU ((G.map tr).map triV) with
  |some ts=>if ts.length<64 then (if triOk ts then some ((QdP ts).map triV) else none) else none
  |none=>none)=_
 rw[Qhd];show(if (G.map tr).length<64 then (if triOk (G.map tr) then some ((QdP (G.map tr)).map triV) else none) else none)=_;have h1:∀t∈G.map tr,t.1=((G.map tr).getD 0 tri0).1:=λt j=>by
  obtain⟨p,m,rfl⟩:=bw.mp j;cases G with
  |nil=>cases m
  |cons q G=>rfl
 rw[ak (by rw[aj];exact J),ak ⟨h1,by rw[tri_fst];exact hn⟩,srtG_tr,bc];rfl
def bkV(f:Str->Nat)(n:Nat)(G:List Gp)(rs:List Rp):PV := .tup [pN n,.tup (encN (G.map λp=>f p.2)),.tup (rs.map (rV f))]
def ordR(G:List Str)(rs:List Rp):List Rp:=rs.map λp=>(p.1,ordB G p.2)
def keep_5 k a b s2 G J:Qw k [1] [.fz a,.fz b,s2,G,J]=[.fz a,.fz b,s2,G,J]:=by
 cases k<;>rfl
def wds_g(h:p∈G):p.1∈nm G rs/\p.2∈nm G rs:=⟨QiY (QdK.mpr (.inl ⟨p,h,.inl rfl⟩)),QiY (QdK.mpr (.inl ⟨p,h,.inr rfl⟩))⟩
def wds_r(h:p∈rs):p.1∈nm G rs/\∀w∈p.2,w∈nm G rs:=⟨QiY (QdK.mpr (.inr ⟨p,h,.inl rfl⟩)),λw hw=>QiY (QdK.mpr (.inr ⟨p,h,.inr hw⟩))⟩
def Gd.gnd(G:Gd R M):(GN (R.filterMap Rw.gp)).Nodup:=by
 have pw:=G.pw;clear G;induction R with
 |nil=>exact .nil
 |cons x R j =>
  obtain⟨h1,h2⟩:=fF.mp pw;cases x with
  |r h b=>exact j h2
  |g a b =>
   show(a::GN (R.filterMap Rw.gp)).Nodup;rw[bO];refine⟨λm=>?_,j h2⟩;obtain⟨p,B,e⟩:=bw.mp m;obtain⟨x,D,e2⟩:=bv.mp B;cases x with
   |g c d =>
    cases e2;exact h1 _ D e.symm
   |r h b=>cases e2
def Gd.rb(G:Gd R M)(J:p∈R.filterMap Rw.rp):(rRow p).Ok:=by
 obtain⟨x,j,e⟩:=bv.mp J;cases x with
 |g c d=>cases e
 |r h b=>cases e;exact G.ok _ j
local macro_rules | `(tactic| walk_at "ev")=>`(tactic| try simp (disch:=walk_at "eb") only[pLen_sn,mtK_s,ev_mSortDiff,ev_mMtT,tpK_s,ev_sExE,EVc,EVl,List.length_range])
def QoM{R:List Rw}{M:List Str}(G:Gd R M):Yi [.tup ((nm (R.filterMap Rw.gp) (R.filterMap Rw.rp)).map .str),.lst (R.map Rw.v)] =
  some (bkV (nm (R.filterMap Rw.gp) (R.filterMap Rw.rp)).idxOf (nm (R.filterMap Rw.gp) (R.filterMap Rw.rp)).length (srtG (R.filterMap Rw.gp)) (ordR (GN (R.filterMap Rw.gp)) (R.filterMap Rw.rp))):=by
 have T:=G.len;have U:=G.ng;have I:=G.nr;have B:=G.gnd;have D:=λp j=>G.rb (p:=p) j;have E:=Qgr (R:=R) (by omega);have H:=QkQ (R:=R) (by omega);generalize R.filterMap Rw.gp=m at *;generalize R.filterMap Rw.rp=rs at *;have J:=nm_ord m rs;have L:∀p∈m,p.2∈nm m rs:=λp j=>(wds_g j).2;have O:∀p∈rs,p.1∈nm m rs/\∀w∈p.2,w∈nm m rs:=λp j=>wds_r j;generalize nm m rs=N at *;have Q :=(Qhj m).length_eq;delta Yi QaA;walk_at "ev";rw[E];walk_at "ev";rw[Qoj B (by omega)];walk_at "ev";rw[keep_5];walk_at "ev";rw[ZH (λp=>(gRow p).v) (λp=>pN (N.idxOf p.2)) _ λp j=>⟨_,rfl,by
  have:=L p ((Qhj m).mem_iff.mp j);unfold gRow Rw.v;walk_at "ev";rw[Qea this]⟩]
 walk_at "ev";rw[H];walk_at "ev";rw[ZH (λp=>(rRow p).v) (λp=>rV N.idxOf (p.1,ordB (GN m) p.2)) _ λp j=>⟨_,rfl,by
  have:=O p j;obtain⟨_,_,_,Y⟩:=D p j;walk_at "ev";rw[show rRow p=Rw.r p.1 p.2 from rfl,QoL J this.1 this.2 (by omega)]⟩]
 walk_at "ev";unfold bkV encN ordR;rw[bc,bc];rfl
def tru_s(h:x.length<=100000):tru (.str x)=some (!(x.length==0)):=by
 show(if x.length<=LIM then some ((x.length:Int) != 0) else none)=_;rw[ak (Yb h)];congr 1;grind
local macro_rules | `(tactic| walk_at "ev")=>`(tactic| try simp (disch:=walk_at "eb") only[pLen_sn,mtK_s,EVc,EVl,List.length_range])
def Qdb(ns:List Int) k:Qn [.lst (ns.map .int),pN k]=some (.int (ns.getD k 0)):=by
 delta Qn Qba;walk_at "ev";by_cases h:k<ns.length
 .rw[aE h];walk_at "ev";simp[h];rfl
 .walk_at "ev";simp[h];rfl
def pow_ex:∃z ,pPow (pN 10) (pN 60)=some (pN z)/\0<z:=by
 refine⟨10^60,?_,by decide⟩;show(if cPow (10) (60)=true then some (PV.int ((10)^((60:Int)).toNat)) else none)=_;rw[ak (by grind[cPow,Qdd])];rfl
def peq_lst{a b:List Str}:peq (.lst (a.map .str)) (.lst (b.map .str))=decide (a=b):=by
 show peqL (a.map PV.str) (b.map .str)=_;by_cases c:a=b
 .rw[c,YM,aE rfl]
 grind[Qhq]
def Qne{a:List Str}(h:∀s∈a,aW s=true):okv (.lst (a.map .str))=true:=by
 have:=Qdq h;simp[okv,dep,okS,this.1,this.2]
def QcY{names:List Str}{i:Nat}(h:i<names.length):(names.map PV.str)[i]?=some (.str (names.getD i "")):=by
 rw[a0,aU h];simp[jF,h]
def QcX{names:List Str}{i:Nat}(h:i<names.length):names.getD i ""∈names:=by
 have:names.getD i ""=names[i]:=by simp[jF,h]
 rw[this];exact bZ h
def gD(ks:List Str)(f:Str->Bool ⊕ Int):List (Str×(Bool ⊕ Int)):=ks.map λk=>(k,f k)
def gD_len ks f:(gD ks f).length=ks.length:=aj _
def gD_any(ks:List Str)(f:Str->Bool ⊕ Int)(k:Str):((gD ks f).any λp=>decide (p.1=k))=decide (k∈ks):=by
 unfold gD;rw[fr,eY,eS,ce];constructor
 .rintro⟨x,j,e⟩;have e:x=k:=c8 e;rw[<-e];exact j
 .intro h;exact⟨k,h,aE rfl⟩
def putD_new{ks:List Str}{f:Str->Bool ⊕ Int}{k:Str}(h:k∉ks){v:Bool ⊕ Int}(G:v=f k):putD (gD ks f) k v=gD (ks++[k]) f:=by
 unfold putD;rw[gD_any,ar (by simpa using h),G];unfold gD;rw[bH];rfl
def putD_old{ks:List Str}{f:Str->Bool ⊕ Int}{k:Str}(h:k∈ks){v:Bool ⊕ Int}(G:v=f k):putD (gD ks f) k v=gD ks f:=by
 unfold putD;rw[gD_any,ak (by simpa using h),G];unfold gD;rw[bc];apply hZ;intro a _;show(if a=k then (a,f k) else (a,f a))=(a,f a);split
 .rename_i e;rw[e]
 .rfl
def ev_sDnew i γ:sDnew i γ=some (.nx (γ.set i (.od []))):=rfl
def pLenD_w kvs:QhY [.dcw kvs]=some (pN kvs.length):=rfl
def TT:Str->Bool ⊕ Int:=λ_=>.inl true
def bls(bs:List Bool):List PV:=bs.map .bl
def nodup5{C:Nat->Addr}(h:([C 1,C 2,C 3,C 4,C 5]:List Addr).Nodup):∀i j,1<=i->i<=5->1<=j->j<=5->i≠j->(C i==C j)=false:=by
 intro i j h1 h2 D E m;rw[cv];simp only[bO,ao,dZ,iC,not_or]at h;obtain⟨⟨G,H,I,J⟩,⟨L,M,O⟩,⟨Q,T⟩,U,_⟩:=h;have hi:i=1\/i=2\/i=3\/i=4\/i=5:=by omega
 have B:j=1\/j=2\/j=3\/j=4\/j=5:=by omega
 rcases hi with rfl | rfl | rfl | rfl | rfl<;>rcases B with rfl | rfl | rfl | rfl | rfl<;>first
  |exact absurd rfl m
  |assumption
  | (apply Ne.symm;assumption)
def lk5{C:Nat->Addr}(h:([C 1,C 2,C 3,C 4,C 5]:List Addr).Nodup){i:Nat}(h1:1<=i)(h2:i<=5)(f:Nat->Bool):([(C 1,f 1),(C 2,f 2),(C 3,f 3),(C 4,f 4),(C 5,f 5)]:List (Addr×Bool)).lookup (C i)=some (f i):=by
 have n:=nodup5 h;have hi:i=1\/i=2\/i=3\/i=4\/i=5:=by omega
 rcases hi with rfl | rfl | rfl | rfl | rfl<;>simp (disch:=omega) only[bn,iL,n]
def ct5{C:Nat->Addr}{i:Nat}(h1:1<=i)(h2:i<=5):([C 1,C 2,C 3,C 4,C 5]:List Addr).contains (C i)=true:=by
 have hi:i=1\/i=2\/i=3\/i=4\/i=5:=by omega
 rcases hi with rfl | rfl | rfl | rfl | rfl<;>simp
def ev_mIsX tab m γ:mIsX tab m γ=(m γ).bind (isX tab):=rfl
def ev_mFldX Cs f m γ:mFldX Cs f m γ=(m γ).bind (fldX Cs f):=rfl
def isX_5{C:Nat->Addr}(h:([C 1,C 2,C 3,C 4,C 5]:List Addr).Nodup){i:Nat}(h1:1<=i)(h2:i<=5)(G J O U Y:Bool)(ks:List Str)(ps:List PV) :
  isX [(C 1,G),(C 2,J),(C 3,O),(C 4,U),(C 5,Y)] (.obj (C i) ks ps)=some (.bl (if i=1 then G else if i=2 then J else if i=3 then O else if i=4 then U else Y)):=by
 have:=lk5 h h1 h2 λk=>if k=1 then G else if k=2 then J else if k=3 then O else if k=4 then U else Y;show((([(C 1,G),(C 2,J),(C 3,O),(C 4,U),(C 5,Y)]:List (Addr×Bool)).lookup (C i)).map PV.bl)=_;have e:([(C 1,G),(C 2,J),(C 3,O),(C 4,U),(C 5,Y)]:List (Addr×Bool)).lookup (C i)=some (if i=1 then G else if i=2 then J else if i=3 then O else if i=4 then U else Y):=this;rw[e];rfl
def fldX_5{C:Nat->Addr}(h1:1<=i)(h2:i<=5) r:fldX [C 1,C 2,C 3,C 4,C 5] "row" (.obj (C i) ["row"] [r])=some r:=by
 show(if ([C 1,C 2,C 3,C 4,C 5]).contains (C i)=true then ((["row"]:List Str).zip [r]).lookup ("row":Str) else none)=_;rw[ak (ct5 h1 h2)];simp
def ofCs_5{C:Nat->Addr}(h1:1<=i)(h2:i<=5) ks ps:ofCs [C 1,C 2,C 3,C 4,C 5] (.obj (C i) ks ps)=true:=ct5 h1 h2
def flat_obj C ks ps:flat (.obj C ks ps)=false:=rfl
def tryK(i:Nat)(Cs:List Addr)(sm:MSt):Out ⊕ (PEnv×PV)->Option Out
 |.inl o=>some o
 | .inr (γ1,p)=>if ofCs Cs p=true then (sm (γ1.set i (.fz p))).bind λo=>match o with
  |.nx j=>some (.nx (j.set i .un))
  |_=>none
  else none
def ev_sTry(i:Nat)(Cs:List Addr)(mb:MStQ)(sm:MSt)(γ:PEnv):sTry i Cs mb sm γ=(mb γ).bind (tryK i Cs sm):=by
 unfold sTry;congr 1
def tryK_l i Cs sm o:tryK i Cs sm (.inl o)=some o:=rfl
def tryK_r(h:ofCs Cs p=true)(e:sm (γ1.set i (.fz p))=some (.nx G)):tryK i Cs sm (.inr (γ1,p))=some (.nx (G.set i .un)):=by
 show(if ofCs Cs p=true then _ else _)=_;grind
def qsetK(ms:List Nat)(i:Nat)(γ:PEnv):PV ⊕ PV->Out ⊕ (PEnv×PV)
 |.inl r=>.inl (.nx ((Qw (flat r) ms γ).set i (.fz r)))
 |.inr p=>.inr (frz ms γ,p)
def ev_qSet ms i g ma γ:qSet ms i g ma γ=(ma γ).bind λG=>(g G).map (qsetK ms i γ):=by
 congr 1
def qsetK_l ms i γ r:qsetK ms i γ (.inl r) = .inl (.nx ((Qw (flat r) ms γ).set i (.fz r))):=rfl
def qsetK_r ms i γ r:qsetK ms i γ (.inr r) = .inr (frz ms γ,r):=rfl
def Qnf:∀(bs:List Bool),okv (.lst (bls bs))=true:=λbs=>by
 have d:∀bs:List Bool,depL (bls bs)<=1:=λbs=>by
  induction bs with
  |nil=>simp[bls,depL]
  |cons b bs j=>simp only[bls,aL,depL,dep]at *;omega
 have o:∀bs:List Bool,okSL (bls bs)=true:=λbs=>by
  induction bs with
  |nil=>rfl
  |cons b bs j=>simp only[bls,aL,okSL,okS,ij]at *;exact j
 have:=d bs;unfold okv;rw[aD,ce];exact⟨by simp only[dep];omega,by simp only[okS];exact o bs⟩
def QiD{ms:List Nat}{i:Nat}{mk m:MEx}{γ:PEnv}{xs:List PV}(h:γ[i]?=some (.ow xs)):sIns ms i mk m γ=(mk γ).bind λj=>(m γ).bind λr=>insK ms i γ xs r j:=by
 unfold sIns;rw[h]
def Qmr{ms:List Nat}{i:Nat}{γ:PEnv}{xs:List PV}{r:PV}{j:Nat}(h:j<=xs.length)(h2:xs.length<=1000)(G:(flat r || !ms.contains i)=true):insK ms i γ xs r (pN j)=some (.nx ((Qw (flat r) ms γ).set i (.ow (xs.take j++r::xs.drop j)))):=by
 show(if 0<=(j:Int)/\(j:Int)<=xs.length/\xs.length<=1000/\(flat r || !ms.contains i)=true then some (Out.nx ((Qw (flat r) ms γ).set i (.ow (xs.take (j:Int).toNat++r::xs.drop (j:Int).toNat)))) else none)=_;rw[ak ⟨by omega,by omega,h2,G⟩,cu]
def QiL(G:List Str)(w:Str):G.any (·==w)=decide (w∈G):=by
 rw[eY,eS,ce];constructor
 .rintro⟨x,j,e⟩;rw[<-eV e];exact j
 .intro h;exact⟨w,h,by simp⟩
def Qgy:List Str:=["guesss","gues","uess","unles","nless","ifs","fi","i","f","unlessif","guessif","ifguess","guesses","guessunless","iff","unlessguess"]
def wdN(s:Str):Bool:=decide (1<=s.length)&&decide (s.length<=12)&&s.cps.toList.all λc=>decide (97<=c)&&decide (c<=122)
def near_wd:Qgy.all wdN=true:=by decide+kernel
def wdN_ok{s:Str}(h:wdN s=true):1<=s.length/\s.length<=12/\Low s:=by
 unfold wdN at h;rw[aD,aD,aV]at h;refine⟨c8 h.1.1,c8 h.1.2,λc hc=>?_⟩;have:=h.2 c hc;rw[aD]at this;exact⟨c8 this.1,c8 this.2⟩
def near_get(h:i<16):∃s,(Qgy.map PV.str)[i]?=some (.str s)/\s∈Qgy:=by
 have h2:i<Qgy.length:=h;simp_all
def near_two:([PV.str "guesss",.str "gues",.str "uess",.str "unles",.str "nless",.str "ifs",.str "fi",.str "i",.str "f",.str "unlessif",.str "guessif",.str "ifguess"]++[PV.str "guesses",.str "guessunless",.str "iff",.str "unlessguess"])=Qgy.map PV.str:=rfl
def e_near(k:Nat):∃s:Str,ZN [pN k]=some (.str s)/\1<=s.length/\s.length<=12/\Low s:=by
 have hm:k%16<16:=aP _ (by decide);obtain⟨s,e,hs⟩:=near_get hm;have hw:=wdN_ok (aV.mp near_wd s hs);refine⟨s,?_,hw⟩;have B:(Qgy.map PV.str).length=16:=rfl;have j:∀x,(QE [] 1 (mLim (Qa (mC (.str "guesss")) (Qa (mC (.str "gues")) (Qa (mC (.str "uess")) (Qa (mC (.str "unles")) (Qa (mC (.str "nless")) (Qa (mC (.str "ifs")) (Qa (mC (.str "fi")) (Qa (mC (.str "i")) (Qa (mC (.str "f")) (Qa (mC (.str "unlessif")) (Qa (mC (.str "guessif")) (Qa (mC (.str "ifguess")) aNil)))))))))))))) [.fz x,.un]=some (.nx [.fz x,.ow [PV.str "guesss",.str "gues",.str "uess",.str "unles",.str "nless",.str "ifs",.str "fi",.str "i",.str "f",.str "unlessif",.str "guessif",.str "ifguess"]]):=by
  intro x;walk_at "ev"
 have m:∀x,(QE [1] 1 (bin2 pCat (mVar 1) (mLst (mLim (Qa (mC (.str "guesses")) (Qa (mC (.str "guessunless")) (Qa (mC (.str "iff")) (Qa (mC (.str "unlessguess")) aNil)))))))) [.fz x,.ow [PV.str "guesss",.str "gues",.str "uess",.str "unles",.str "nless",.str "ifs",.str "fi",.str "i",.str "f",.str "unlessif",.str "guessif",.str "ifguess"]]=some (.nx [.fz x,.ow (Qgy.map PV.str)]):=by
  intro x;rw[<-near_two];walk_at "ev"
 delta ZN XO;rw[runV_1,ev_startG1];simp only[aL,List.map_nil,aK,c7,kL,kK,lP,i0];rw[ev_sSeq,j,aQ,seqK_nx,ev_sSeq,m,aQ,seqK_nx];generalize Qgy.map PV.str=N at *;walk_at "ev";rw[e];walk_at "ev"
def rev_idx:aZ none none (-1) 12=[11,10,9,8,7,6,5,4,3,2,1,0]:=by decide+kernel
def Qkh{x:Str}(h:x.length=12):(revS x).length=12:=by
 have B:x.cps.size=12:=h;unfold revS;rw[h,rev_idx];show(List.filterMap (λi=>x.cps[i]?) [11,10,9,8,7,6,5,4,3,2,1,0]).toArray.size=12;have g:∀i,i<12->∃c,x.cps[i]?=some c:=λi hi=>⟨x.cps[i],aI (by omega)⟩
 have all:∀L:List Nat,(∀i∈L,i<12)->(L.filterMap λi=>x.cps[i]?).length=L.length:=by
  intro L;induction L with
  |nil=>intro _;rfl
  |cons a l m =>
   intro j;obtain⟨c,hc⟩:=g a (j a (bp ..));rw[dw,hc];simp[m λi hi=>j i (aw _ hi)]
 rw[aF,all _ (by decide)];rfl
def revS_low{x:Str}(h:Low x):Low (revS x):=λc hc=>by
 unfold revS at hc;rw[kJ,bv]at hc;obtain⟨i,_,e⟩:=hc;exact h c (by
  have:=Array.mem_of_getElem? e;exact Array.mem_toList_iff.mpr this)
def pRvS_s(h:x.length=12):pRvS (.str x)=some (.str (revS x)):=ak ⟨Yb (by lia),Yb (by rw[Qkh h];lia)⟩
def QiG(h:Low x)(G:a<=b)(J:b<=x.length) l u (e:aZ l u 1 x.length=aZ (some a) (some b) 1 x.length) :
  Low (bT x l u)/\(bT x l u).length=b-a:=by
 have hs:=Qdm x G J l u e;constructor
 .intro c hc;exact h c (by grind)
 grind[b9,br]
def Qan(c:Int){n:Nat}(hn:n<=1000):∃ds:List Nat,Qv [.int c,pN n]=some (.lst (encN ds))/\ds.length=n:=by
 delta Qv QcP;walk_at "ev";generalize ((c%((2147483629:Nat):Int)).toNat+1)*1103515245%2147483647=B;obtain⟨γ',e,number,ds,m,rfl,h1⟩:=QcZ (g:=gSet 4) (b:=XC) (λj γ=>∃(number:Nat)(ds:List Nat)(m:Slot),γ=[.fz (.int c),.fz (pN n),.fz (pN number),.ow (encN ds),m]/\ds.length=j)
  n [.fz (.int c),.fz (pN n),.fz (pN B),.ow (encN []),.un] ⟨B,[],.un,rfl,rfl⟩ (by
   rintro j γ D ⟨number,ds,m,rfl,h1⟩;refine⟨_,_,rfl,?_,number*48271%2147483647,ds++[number*48271%2147483647/13],.fz (pN j),rfl,by simp[h1]⟩;delta XC;walk_at "ev";rw[QaV (by rw[encN_len];omega) rfl];walk_at "ev";simp[encN])
 rw[show([]:List PV)=encN [] from rfl,e];walk_at "ev";exact⟨ds,rfl,h1⟩
def Qp{ds:List Nat}{n:Nat}(h:ds.length=n){i:Nat}(hi:i<n):(encN ds)[i]?=some (pN (ds.getD i 0)):=by
 rw[encN_get,aU (by omega),jh,aU (by omega)];rfl
def One(s:Str):Prop:=s.length=1/\Low s
def one1(h:i<26):One ⟨#[97+i]⟩:=⟨rfl,low1 h⟩
def join_one(h:∀s∈L,One s):(aM "" L).length=L.length/\Low (aM "" L):=by
 have j:("":Str).length=0:=by decide+kernel
 constructor
 .rw[Zr,j,Nat.mul_zero,Nat.add_zero];induction L with
  |nil=>rfl
  |cons s L m =>
   rw[aL,jw,aK,(h s (by simp)).1,m λx B=>h x (aw _ B)];lia
 .intro c hc;rcases QbB "" L hc with z|⟨w,hw,z⟩
  .cases z
  .exact(h w hw).2 c z
def QnX(h:Low x):∀s∈signs x,One s:=by
 intro s hs;obtain⟨c,hc,rfl⟩:=bw.mp hs;exact⟨rfl,λd hd=>by
  have:d=c:=by grind
  rw[this];exact h c hc⟩
def QmL{L:List Str}(h:∀s∈L,One s){w:Str}(hw:One w)(i:Nat):∀s∈L.set i w,One s:=by
 intro s hs;rcases jl hs with z | z
 .exact h s z
 .rw[z];exact hw
def pSigns_s(h:x.length<=1000):QiU [.str x]=some ((signs x).map .str):=ak (lt_lim5 h)
def six_get(h:i<6):∃v ,(encN [1,3,5,7,9,11])[i]?=some (pN v):=by
 rw[encN_get,aU (by simpa using h)];exact⟨_,rfl⟩
def Qhx(L:List Str) i w:(L.map PV.str).set i (.str w)=(L.set i w).map .str:=by simp_all
def e_like{ds:List Nat}(hd:ds.length=44){k:Nat}(hk:k<=1000):∃s:Str,ZO [.lst (encN ds),pN k]=some (.str s)/\1<=s.length/\s.length<=12/\Low s:=by
 have T:=Qp hd (i:=0) (by decide);have U:=Qp hd (i:=1) (by decide);have Y:=Qp hd (i:=2) (by decide);have g3:=Qp hd (i:=3) (by decide);have g4:=Qp hd (i:=4) (by decide);have g5:=Qp hd (i:=5) (by decide);have g6:=Qp hd (i:=6) (by decide);generalize ds.getD 0 0=d0 at *;generalize ds.getD 1 0=M at *;generalize ds.getD 2 0=O at *;generalize ds.getD 3 0=Q at *;generalize ds.getD 4 0=G at *;generalize ds.getD 5 0=d5 at *;generalize ds.getD 6 0=H at *;have hm:M%11<11:=aP _ (by decide);generalize I:M%11=m1 at *;obtain⟨x,ex,xl,j⟩:=QiF d0 (size:=2+m1) (by omega);have hS:=QnX j;have J:(signs x).length=2+m1:=by unfold signs;rw[aj];simpa[b9] using xl
 obtain⟨v,hv⟩:=six_get (i:=d5%6) (aP _ (by decide));have es:=pSigns_s (x:=x) (by omega);generalize signs x=L at *;generalize hE:encN ds=E at *;delta ZO XQ;walk_at "ev";rw[T];walk_at "ev";rw[U];walk_at "ev";rw[I,ex];walk_at "ev";rw[es];walk_at "ev";rw[Y];walk_at "ev";rw[g3];walk_at "ev";have ho:O%L.length<L.length:=aP _ (by omega);generalize O%L.length=one at *;have ht:(one+1+Q%(L.length-1))%L.length<L.length:=aP _ (by omega);generalize (one+1+Q%(L.length-1))%L.length=two at *;rw[g4];walk_at "ev";rw[g5];walk_at "ev";rw[show [pN 1,pN 3,pN 5,pN 7,pN 9,pN 11]=encN [1,3,5,7,9,11] from rfl,hv];walk_at "ev";have m:(G+k*v)%26<26:=aP _ (by decide);rw[Qgh m];walk_at "ev";rw[sixK_n (by rw[aj];exact ho) rfl];walk_at "ev";rw[g6];walk_at "ev";have B:(H+k/26)%26<26:=aP _ (by decide);rw[Qgh B];walk_at "ev";rw[Qhx,sixK_n (by rw[aj,dM];exact ht) rfl];walk_at "ev";rw[Qhx];have D:=QmL (QmL hS (one1 m) one) (one1 B) two;have hl2:((L.set one ⟨#[97+(G+k*v)%26]⟩).set two ⟨#[97+(H+k/26)%26]⟩).length=2+m1:=by rw[dM,dM];exact J
 generalize (L.set one ⟨#[97+(G+k*v)%26]⟩).set two ⟨#[97+(H+k/26)%26]⟩=L2 at *;have hj:=join_one D;have e0:("":Str).length=0:=by decide+kernel
 rw[Qnb (by
  have:=QdF L2 1 λs hs=>by rw[(D s hs).1];exact am 1
  rw[e0];omega)]
 walk_at "ev";exact⟨_,rfl,by omega,by omega,hj.2⟩
def QlX(s:Str):Str:=if no3.any (·==s)=true then s++"a" else s
def Qkf{s:Str}:no3.any (·==s)=true↔s∈no3:=by
 rw[QiL,ce]
def no3_len(h:s∈no3):s.length<=6:=(show ∀s∈no3,s.length<=6 by decide+kernel) s h
def no3_a:∀s∈no3,(s++"a")∉no3:=by decide+kernel
def low_a:Low "a":=λc hc=>by
 rw[show("a":Str).cps.toList=[97] by decide+kernel]at hc;grind
def len_a:("a":Str).length=1:=rfl
def safe_wd{s:Str}(h1:1<=s.length)(h2:s.length<=12)(G:Low s):Wd (QlX s):=by
 unfold QlX;split
 .rename_i h;have hm:=Qkf.mp h;have:=no3_len hm;exact⟨by rw[Qca];omega,by rw[Qca,len_a];omega,Qnh G low_a,no3_a s hm⟩
 .rename_i h;exact⟨h1,h2,G,λz=>h (Qkf.mpr z)⟩
def wd_ok{names:List Str}(h:∀s∈names,Wd s):∀s∈names,aW s=true:=λs hs=>ZD (h s hs).low
def e_part{ds:List Nat}(hd:ds.length=44){k:Nat}(O:k<=1000):∃s:Str,ZM [.lst (encN ds),pN k]=some (.str s)/\1<=s.length/\s.length<=12/\Low s:=by
 have I:=Qp hd (i:=0) (by decide);have J:=Qp hd (i:=1) (by decide);generalize ds.getD 0 0=L at *;generalize ds.getD 1 0=B at *;generalize encN ds=E at *;obtain⟨x,ex,D,j⟩:=QiF L (size:=12) (by omega);have hm:(k*7+B)%30<30:=aP _ (by decide);delta ZM XL;walk_at "ev";rw[I];walk_at "ev";rw[ex];walk_at "ev";rw[J];walk_at "ev";generalize (k*7+B)%30=m at *;by_cases G:m<12
 .rw[aE G];walk_at "ev";have z:=QiG j (a:=0) (b:=1+m) (by omega) (by omega) none (some ((1+m:Nat):Int)) (Qms _ _);exact⟨_,rfl,by omega,by omega,z.1⟩
 .rw[aH G];walk_at "ev";by_cases H:m<23
  .rw[aE H];walk_at "ev";have z:=QiG j (a:=m-11) (b:=x.length) (by omega) (by omega) (some ((m-11:Nat):Int)) none (Qmt _ _);exact⟨_,rfl,by omega,by omega,z.1⟩
  .rw[aH H];walk_at "ev";rw[pRvS_s D];walk_at "ev";have M:=Qkh D;rw[pCutS_s (by omega)];walk_at "ev";have z:=QiG (revS_low j) (a:=0) (b:=m-20) (by omega) (by omega) none (some ((m-20:Nat):Int)) (Qms _ _);exact⟨_,rfl,by omega,by omega,z.1⟩
inductive Rx where
 |bad (l:Str)
 |rw (x:Rw)
def Rx.v:Rx->PV
 |.bad l=>.tup [.str "bad",.str l]
 |.rw x=>x.v
def Rx.line:Rx->Str
 |.bad l=>l
 |.rw x=>x.line
def Rw.Wk:Rw->Prop
 |.g a b=>Wd a/\Wd b
 |.r h b=>Wd h/\(∀s∈b,Wd s)/\b.length<=9
structure BadL (l:Str):Prop where
 asc:Asc l
 nl:10∉l.cps.toList
 len:l.length<=600
 no:semT (bh l sp) = .inr 0
def Rx.Ok:Rx->Prop
 |.bad l=>BadL l
 |.rw x=>x.Wk
def Qbs:aW "bad"=true:=by decide+kernel
def Qpj:(("guess":Str)=="bad")=false:=by decide+kernel
def Qpb:(("rule":Str)=="bad")=false:=by decide+kernel
def bg_ne:(("bad":Str)=="guess")=false:=by decide+kernel
def br_ne:(("bad":Str)=="rule")=false:=by decide+kernel
def runV_1:runV N 1 m [a]=(m (QK N [a])).bind outV:=rfl
def e_line{x:Rx}(h:x.Ok):QB [x.v]=some (.str x.line):=by
 cases x with
 |bad l =>
  delta QB YH;unfold Rx.v;walk_at "ev";rw[QP Qbs Qbs,show(("bad":Str)=="bad")=true by simp];walk_at "ev";rfl
 |rw x =>
  cases x with
  |g G B =>
   obtain⟨m,D⟩:=h;have h1:=m.l2;have h2:=D.l2;have e1:("guess ":Str).length=6:=by decide+kernel
   have e2:(" unless ":Str).length=8:=by decide+kernel
   delta QB YH;unfold Rx.v Rw.v;walk_at "ev";rw[QP QC Qbs,Qpj];walk_at "ev";rw[QP QC QC,show(("guess":Str)=="guess")=true by simp];walk_at "ev";rw[pAdd_s (by rw[QfP];lia)];walk_at "ev";rw[pAdd_s (by grind[QfP])];walk_at "ev";rfl
  |r H body =>
   obtain⟨E,I,J⟩:=h;have h1:=E.l2;have e2:(" if ":Str).length=4:=by decide+kernel
   have e3:(" ":Str).length=1:=by decide+kernel
   have L:=QdF body 12 λs hs=>(I s hs).l2;delta QB YH;unfold Rx.v Rw.v;walk_at "ev";rw[QP QY Qbs,Qpb];walk_at "ev";rw[QP QY QC,QcC];walk_at "ev";cases body with
   |nil =>
    walk_at "ev";rfl
   |cons y ys =>
    rw[show(((y::ys).length)==0)=false from rfl];walk_at "ev";have j:=pJoinT_s (x := " ") (ys:=y::ys) (by grind);rw[aL]at j;rw[j];walk_at "ev";rw[pAdd_s (by
     grind[QfP,Zr])]
    walk_at "ev";rw[line_r];rfl
def wd_B(h:Wd s):wdB s=true:=by
 unfold wdB;rw[no_any h.no,aE h.l1,aE h.l2];simp;unfold lowB;rw[aV];intro c hc;have:=h.low c hc;grind
def low_asc(h:Low s):Asc s:=λc hc=>by
 have:=h c hc;lia
def gs_n:("guess":Str)∈no3:=by decide+kernel
def un_n:("unless":Str)∈no3:=by decide+kernel
def if_n:("if":Str)∈no3:=by decide+kernel
def Rw.pts:Rw->List Str
 |.g a b=>["guess",a,"unless",b]
 |.r h b=>if b=[] then [h] else h::"if"::b
def QbA(x:Rw):x.line=aM sp x.pts:=by
 cases x with
 |g a b=>rfl
 |r h b =>
  cases b with
  |nil=>exact(Yc sp h).symm
  |cons y ys=>rfl
def pts_ne(x:Rw):∃w ws,x.pts=w::ws:=by
 cases x with
 |g a b=>exact⟨_,_,rfl⟩
 |r h b =>
  cases b with
  |nil=>exact⟨_,_,rfl⟩
  |cons y ys=>exact⟨_,_,rfl⟩
def QfI{x:Rw}(h:x.Wk):∀s∈x.pts,Low s/\s.length<=12:=by
 have j:∀s∈no3,(s.cps.toList.all λc=>decide (97<=c)&&decide (c<=122))=true/\s.length<=12:=by decide+kernel
 have B:∀s∈no3,Low s/\s.length<=12:=λs hs=>⟨λc hc=>by
  have:=aV.mp (j s hs).1 c hc;simpa using this,(j s hs).2⟩
 intro s hs;cases x with
 |g a b =>
  simp only[Rw.pts,ao,dZ,iC]at hs;rcases hs with rfl | rfl | rfl | rfl
  .exact B _ gs_n
  .exact⟨h.1.low,h.1.l2⟩
  .exact B _ un_n
  .exact⟨h.2.low,h.2.l2⟩
 |r H b =>
  obtain⟨m,D,_⟩:=h;cases b with
  |nil =>
   have hs:s∈[H]:=hs;simp only[ao,dZ,iC]at hs;subst hs;exact⟨m.low,m.l2⟩
  |cons y ys =>
   have hs:s∈H::"if"::y::ys:=hs;rcases ao.mp hs with rfl | hs
   .exact⟨m.low,m.l2⟩
   .rcases ao.mp hs with rfl | hs
    .exact B _ if_n
    .exact⟨(D s hs).low,(D s hs).l2⟩
def QmV{x:Rw}(h:x.Wk):x.pts.length<=11:=by
 cases x with
 |g a b=>show 4<=11;decide
 |r H b =>
  have:=h.2.2;cases b with
  |nil=>show 1<=11;decide
  |cons y ys =>
   show(H::"if"::y::ys).length<=11;grind
def Qle{x:Rw}(h:x.Wk):bh x.line sp=x.pts:=by
 obtain⟨w,ws,e⟩:=pts_ne x;rw[QbA,e];exact Qlf w ws λs hs=>low_sp (QfI h s (by rw[e];exact hs)).1
def Qnj{x:Rw}(h:x.Wk){c:Nat}(hc:c∈x.line.cps.toList):c=32\/(97<=c/\c<=122):=by
 rw[QbA]at hc;rcases QbB sp _ hc with z|⟨w,hw,z⟩
 .rw[QhW]at z;left;simpa using z
 .exact .inr ((QfI h w hw).1 c z)
def lineW{x:Rw}(h:x.Wk):Asc x.line/\10∉x.line.cps.toList/\x.line.length<=150:=by
 refine⟨λc hc=>?_,λz=>?_,?_⟩
 .rcases Qnj h hc with e | e<;>omega
 .rcases Qnj h z with e | e<;>omega
 .have h1:=QdF x.pts 12 λs hs=>(QfI h s hs).2;have h2:=QmV h;have e3:sp.length=1:=rfl;rw[QbA,Zr,e3];omega
def Rx.sem:Rx->Rw ⊕ Nat
 |.bad _=>.inr 0
 |.rw (.g a b)=>.inl (.g a b)
 |.rw (.r h b)=>if 6<b.length then .inr 1 else if (once b).length<b.length then .inr 2 else .inl (.r h b)
def semV(C:Nat->Addr)(r:PV):Rw ⊕ Nat->PV ⊕ PV
 |.inl y=>.inl y.v
 |.inr k=>.inr (.obj (C (k+2)) ["row"] [r])
def sem_pts{x:Rw}(h:x.Wk):semT x.pts=(match Rx.sem (.rw x) with | .inl y=>.inl y.v | .inr k=>.inr k):=by
 cases x with
 |g a b =>
  obtain⟨E,B⟩:=h;have:gB ["guess",a,"unless",b]=true:=by
   show((("guess":Str)=="guess"&&("unless":Str)=="unless")&&(wdB a&&wdB b))=true;rw[wd_B E,wd_B B];simp
  show(if gB ["guess",a,"unless",b]=true then _ else _)=_;rw[ak this];rfl
 |r H b =>
  obtain⟨D,B,_⟩:=h;have G:(H==("guess":Str))=false:=wd_ne D gs_n;cases b with
  |nil =>
   show(if gB [H]=true then _ else if rB [H]=false then _ else _)=_;rw[ar (by show ¬false=true;decide),ar (by show ¬wdB H=false;rw[wd_B D];decide)];rfl
  |cons y ys =>
   have h1:gB (H::"if"::y::ys)=false:=by
    cases ys with
    |nil=>rfl
    | cons z zs=>cases zs with
     |nil=>show((H=="guess"&&y=="unless")&&_)=false;rw[G];rfl
     |cons _ _=>rfl
   have h2:rB (H::"if"::y::ys)=true:=by
    show((("if":Str)=="if")&&(H::y::ys).all wdB)=true;have:(H::y::ys).all wdB=true:=by
     rw[aV];intro s hs;rcases ao.mp hs with rfl | hs
     .exact wd_B D
     .exact wd_B (B s hs)
    rw[this];simp
   show semT (H::"if"::y::ys)=(match (if 6<(y::ys).length then du 1 else if (once (y::ys)).length<(y::ys).length then .inr 2 else .inl (Rw.r H (y::ys)):Rw ⊕ Nat) with | .inl y=>.inl y.v | .inr k=>.inr k);unfold semT;rw[ar (by rw[h1];decide),ar (by rw[h2];decide),show(H::"if"::y::ys).drop 2=y::ys from rfl];by_cases j:6<(y::ys).length
   .rw[ak j,ak j]
   .rw[ar j,ar j];by_cases m:(once (y::ys)).length<(y::ys).length
    .rw[ak m,ak m]
    .rw[ar m,ar m];rfl
def e_readx(C:Nat->Addr){x:Rx}(h:x.Ok)(r:Nat):Zs C [.str x.line,pN r]=some (semV C (pN r) x.sem):=by
 cases x with
 |bad l =>
  rw[show(Rx.bad l).line=l from rfl,Qfv C h.asc (aS h.len (by decide)) (pN r) rfl,h.no];rfl
 |rw x =>
  obtain⟨h1,_,j⟩:=lineW h;rw[show(Rx.rw x).line=x.line from rfl,Qfv C h1 (by omega) (pN r) rfl,Qle h,sem_pts h];cases (Rx.sem (.rw x))<;>rfl
def Qlo{l:List Str}(h:¬(once l).length<l.length):l.Nodup:=by
 have j:(once l).length=l.length:=lW QiA (lK h);by_cases d:dupB l=true
 .exact absurd (Qko.mpr d) h
 .clear j h;induction l with
  |nil=>exact List.nodup_nil
  |cons x xs m =>
   have d:¬(xs.any (·==x)||dupB xs)=true:=d;rw[ef,not_or]at d;rw[bO];refine⟨λz=>d.1 ?_,m d.2⟩;rw[eS];exact⟨x,z,by simp⟩
def Qmm{x:Rx}(h:x.Ok)(e:x.sem = .inl y):y.Ok/\x = .rw y:=by
 cases x with
 |bad l=>cases e
 | rw x=>cases x with
  |g a b=>cases e;exact⟨h,rfl⟩
  |r H b =>
   obtain⟨m,B,_⟩:=h;have e:(if 6<b.length then du 1 else if (once b).length<b.length then .inr 2 else .inl (Rw.r H b))=gZ y:=e;by_cases D:6<b.length
   .grind
   .rw[ar D]at e;by_cases j:(once b).length<b.length
    .grind
    .rw[ar j]at e;cases e;exact⟨⟨m,B,Qlo j,by lia⟩,rfl⟩
def sem_lt{x:Rx}(e:x.sem = .inr k):k<3:=by
 cases x with
 |bad l=>cases e;decide
 | rw x=>cases x with
  |g a b=>cases e
  |r H b =>
   have e:(if 6<b.length then du 1 else if (once b).length<b.length then .inr 2 else .inl (Rw.r H b))=du k:=e;grind
def Rw.simB:Rw->Rw->Bool
 |.g a _,.g c _=>decide (a=c)
 |.r h b,.r k c=>decide (h=k)&&decide (Ze b=Ze c)
 |_,_=>false
theorem Qkl:∀(a b:List Str),peqL (a.map PV.str) (b.map .str)=decide (a=b)
 |[],[]=>by rfl
 |[],_::_=>by rfl
 |_::_,[]=>by rfl
 |x::a,y::b=>by
  show((x==y)&&peqL (a.map PV.str) (b.map .str))=_;rw[Qkl a b];by_cases h1:x=y
  .by_cases h2:a=b<;>simp[h1]
  .simp[h1]
def peq_simB(x y:Rw):peq x.key y.key=x.simB y:=by
 cases x with
 | g a b=>cases y with
  |g c d =>
   show((("guess":Str)=="guess")&&((a==c)&&true))=decide (a=c);by_cases h:a=c<;>simp[h]
  |r k c=>show((("guess":Str)=="rule")&&((a==k)&&false))=false;rw[QeP];rfl
 | r h b=>cases y with
  |g c d=>show((("rule":Str)=="guess")&&((h==c)&&false))=false;rw[QcC];rfl
  |r k c =>
   show((("rule":Str)=="rule")&&((h==k)&&(peqL ((Ze b).map .str) ((Ze c).map .str)&&true)))=_;rw[Qkl,show(h==k)=decide (h=k) by by_cases e:h=k<;>simp[e]];simp[Rw.simB]
def sim_iff{x y:Rw}:x.sim y↔x.simB y=true:=by
 cases x with
 |g a b=>cases y<;>simp[Rw.sim,Rw.simB]
 |r h b=>cases y<;>simp[Rw.sim,Rw.simB]
def pIn_simB{x:Rw}{R:List Rw}(G:x.Ok)(J:∀y∈R,y.Ok):pIn x.key (.lst (R.map Rw.key))=some (.bl (R.any λy=>y.simB x)):=by
 have h1:(R.map Rw.key).all okv=true:=by
  rw[eD,aV];intro y j;exact key_ok (J y j)
 show(if okv x.key=true/\(R.map Rw.key).all okv=true then some (PV.bl ((R.map Rw.key).any λy=>peq y x.key)) else none)=_;rw[ak ⟨key_ok G,h1⟩,fr];congr 2;exact congrArg (λf=>R.any f) (funext λy=>peq_simB y x)
def Ym(R:List Rw):Bool:=(decide (8<(R.filterMap Rw.gp).length)||decide (40<(R.filterMap Rw.rp).length))||decide (30<(once (R.flatMap Rw.ws)).length)
theorem e_over(ok:∀x∈R,x.Ok)(G:R.length<=100):Ye [.lst (R.map Rw.v)]=some (.bl (Ym R)):=by
 have hw:=Qbn λy B=>ok_ws (ok y B);delta Ye QbR;unfold Ym;walk_at "ev";rw[Qgr (by lia)];walk_at "ev";by_cases j:8<(R.filterMap Rw.gp).length
 .rw[aE j];walk_at "ev"
  try rfl
 .rw[aH j];walk_at "ev";rw[QkQ (by lia)];walk_at "ev";by_cases m:40<(R.filterMap Rw.rp).length
  .rw[aE m];walk_at "ev"
   try rfl
  .rw[aH m];walk_at "ev";rw[QnA ok G];walk_at "ev";rw[Qjz (by lia)];walk_at "ev"
   try rfl
def YF(R:List Rw)(x:Rx):List Rw ⊕ Nat:=match x.sem with
 |.inr k=>.inr k
 |.inl y=>if R.any (λz=>z.simB y)=true then .inr 2 else if Ym (R++[y])=true then .inr 1 else .inl (R++[y])
def ZC:List Rw->Nat->List Rx->List Rw ⊕ (Nat×Nat)
 |R,_,[]=>.inl R
 | R,k,x::xs=>match YF R x with
  |.inr e=>.inr (e,k)
  |.inl j=>ZC j (k+1) xs
def excV(C:Nat->Addr)(e k:Nat):PV := .obj (C (e+2)) ["row"] [pN k]
def rsetK(ms:List Nat)(i:Nat)(γ:PEnv):PV ⊕ PV->Out ⊕ PV
 |.inl r=>.inl (.nx ((Qw (flat r) ms γ).set i (.fz r)))
 |.inr p=>.inr p
def ev_rSet ms i g ma γ:rSet ms i g ma γ=(ma γ).bind λG=>(g G).map (rsetK ms i γ):=by
 rfl
def rsetK_l ms i γ r:rsetK ms i γ (.inl r) = .inl (.nx ((Qw (flat r) ms γ).set i (.fz r))):=rfl
def rsetK_r ms i γ r:rsetK ms i γ (.inr r) = .inr r:=rfl
def Qmh(x:Rw):flat x.v=false:=by cases x<;>rfl
local macro_rules | `(tactic| walk_at "ev")=>`(tactic| try simp (disch:=walk_at "eb") only[pLen_sn,mtK_s,ev_rSeq,rseqK_nx,rseqK_rt,rseqK_x,ev_rLift,rifK_t,rifK_f,ev_rIf,ev_rRaise,one_1,outR_rt,outR_x,ev_rSet,rsetK_l,rsetK_r,EVc,EVl,List.length_range])
def Qoa C {R:List Rw} (O:∀y∈R,y.Ok) (hl:R.length<=90) {x:Rx} (U:x.Ok) k P G :
  (∀e,YF R x = .inr e->Qx C [.fz P,.ow (R.map Rw.v),.fz (pN k),.fz (.str x.line),G]=some (.inr (excV C e k))) /\
  (∀J,YF R x = .inl J->∃Y,Qx C [.fz P,.ow (R.map Rw.v),.fz (pN k),.fz (.str x.line),G]=some (.inl (.nx [.fz P,.ow (J.map Rw.v),.fz (pN k),.fz (.str x.line),Y]))):=by
 have j:=e_readx C U k;unfold YF;cases hs:x.sem with
 |inr I =>
  rw[hs]at j;refine⟨λe he=>?_,λJ he=>(by cases he)⟩;cases he;delta Qx;walk_at "ev";rw[j];walk_at "ev";rfl
 |inl y =>
  rw[hs]at j;obtain⟨D,_⟩:=Qmm U hs;have m:=Qmh y;have E:=pIn_simB D O;have B:=e_once D;have e:R.map Rw.v++[y.v]=(R++[y]).map Rw.v:=by simp
  have H:Ye [.lst (R.map Rw.v++[y.v])]=some (.bl (Ym (R++[y]))):=by
   grind[e_over]
  have key:Qx C [.fz P,.ow (R.map Rw.v),.fz (pN k),.fz (.str x.line),G]=if (R.any λz=>z.simB y)=true then some (.inr (excV C 2 k)) else if Ym (R++[y])=true then some (.inr (excV C 1 k)) else some (.inl (.nx [.fz P,.ow ((R++[y]).map Rw.v),.fz (pN k),.fz (.str x.line),.fz y.v])):=by
   delta Qx;walk_at "ev";rw[j];unfold semV;walk_at "ev";rw[m];walk_at "ev";rw[B];walk_at "ev";rw[ZH Rw.v Rw.key R λz hz=>⟨_,rfl,by
    walk_at "ev";rw[e_once (O z hz)]⟩]
   walk_at "ev";rw[E];cases h1:R.any λz=>z.simB y with
   |true =>
    walk_at "ev";rfl
   |false =>
    walk_at "ev";rw[QaV (by grind) (by grind),m];walk_at "ev";rw[H];cases h2:Ym (R++[y]) with
    |true =>
     walk_at "ev";rfl
    |false =>
     walk_at "ev";simp
  grind
def Qit{R:List Rw}(O:∀y∈R,y.Ok){x:Rx}(J:x.Ok){G:List Rw}(h:YF R x = .inl G):∃y,x = .rw y/\G=R++[y]/\y.Ok/\(∀z∈R,¬z.sim y)/\Ym G=false:=by
 unfold YF at h;cases hs:x.sem with
 |inr m=>rw[hs]at h;cases h
 |inl y =>
  rw[hs]at h;obtain⟨j,e⟩:=Qmm J hs;have h:(if R.any (λz=>z.simB y)=true then du 2 else if Ym (R++[y])=true then .inr 1 else .inl (R++[y]):List Rw ⊕ Nat) = .inl G:=h;by_cases h1:(R.any λz=>z.simB y)=true
  .rw[ak h1]at h;cases h
  .rw[ar h1]at h;by_cases h2:Ym (R++[y])=true
   .rw[ak h2]at h;cases h
   .rw[ar h2]at h;cases h;refine⟨y,e,rfl,j,λz hz w=>h1 ?_,by simpa using h2⟩;rw[eS];exact⟨z,hz,sim_iff.mp w⟩
def encR:Nat->List Rx->List PV
 |_,[]=>[]
 |k,x::xs=>.tup [pN k,.str x.line]::encR (k+1) xs
theorem QkN:∀xs k,(((xs.map λx=>PV.str x.line).zipIdx k).map λx=>PV.tup [pN x.2,x.1])=encR k xs
 |[],_=>rfl
 |x::xs,k=>by
  rw[aL,lL,aL,QkN xs (k+1)];rfl
theorem Qkg(C:Nat->Addr)(P:PV):∀(xs:List Rx)(k:Nat)(R:List Rw)(s2 J G:Slot),(∀y∈R,y.Ok)->(∀x∈xs,x.Ok)->R.length+xs.length<=90 ->
  (∀e j,ZC R k xs = .inr (e,j)->XH (QbY 2 3) (Qx C) (encR k xs) [.fz P,.ow (R.map Rw.v),s2,J,G]=some (.inr (excV C e j))) /\
  (∀O,ZC R k xs = .inl O->∃t2 Y U,XH (QbY 2 3) (Qx C) (encR k xs) [.fz P,.ow (R.map Rw.v),s2,J,G]=some (.inl (.nx [.fz P,.ow (O.map Rw.v),t2,Y,U])))
 |[],k,R,s2,J,G,_,_,_=>⟨λe j h=>(by cases h),λO h=>(by cases h;exact⟨_,_,_,rfl⟩)⟩
 |x::xs,k,R,s2,J,G,B,I,T=>by
  rw[aK]at T;have L:=I x (by simp);obtain⟨D,E⟩:=Qoa C B (by omega) L k P G;have M:QbY 2 3 (.tup [pN k,.str x.line]) [.fz P,.ow (R.map Rw.v),s2,J,G]=some [.fz P,.ow (R.map Rw.v),.fz (pN k),.fz (.str x.line),G]:=rfl;unfold encR ZC;cases hs:YF R x with
  |inr e0 =>
   refine⟨λe j h=>?_,λO h=>(by cases h)⟩;cases h;unfold XH;rw[M,aQ,D _ hs];rfl
  |inl m =>
   obtain⟨U,e1⟩:=E _ hs;obtain⟨y,_,Q,hy,_,_⟩:=Qit B L hs;have H:∀z∈m,z.Ok:=λz hz=>by
    rw[Q]at hz;rcases aO.mp hz with w | w
    .exact B z w
    .rw[aA.mp w];exact hy
   have hl1:m.length=R.length+1:=by rw[Q];simp
   obtain⟨i1,i2⟩:=Qkg C P xs (k+1) m (.fz (pN k)) (.fz (.str x.line)) U H (λz hz=>I z (by simp[hz])) (by omega);have e2:XH (QbY 2 3) (Qx C) (.tup [pN k,.str x.line]::encR (k+1) xs) [.fz P,.ow (R.map Rw.v),s2,J,G]=XH (QbY 2 3) (Qx C) (encR (k+1) xs) [.fz P,.ow (m.map Rw.v),.fz (pN k),.fz (.str x.line),U]:=by
    conv=>lhs;unfold XH
    rw[M,aQ,e1];rfl
   rw[e2];exact⟨i1,i2⟩
def runR_1 N m a:runR N 1 m [a]=(m (QK N [a])).bind outR:=ak rfl
def ev_rFor ms mi g b γ:rFor ms mi g b γ=(mi γ).bind λxs=>XH g b xs (frz ms γ):=rfl
def outR_ro xs:outR (.inl (.ro xs))=some (.inl (.lst xs)):=rfl
def outR_nx γ:outR (.inl (.nx γ))=some (.inl .non):=rfl
def rdV(C:Nat->Addr):List Rw ⊕ (Nat×Nat)->PV ⊕ PV
 |.inl R=>.inl (.lst (R.map Rw.v))
 |.inr (e,k)=>.inr (excV C e k)
local macro_rules | `(tactic| walk_at "ev")=>`(tactic| try simp (disch:=walk_at "eb") only[pLen_sn,mtK_s,ev_rSeq,rseqK_nx,rseqK_rt,rseqK_x,ev_rLift,rifK_t,rifK_f,ev_rIf,ev_rRaise,one_1,outR_rt,outR_x,ev_rSet,rsetK_l,rsetK_r,runR_1,ev_rFor,outR_ro,outR_nx,EVc,EVl,List.length_range])
def QjL(C:Nat->Addr){xs:List Rx}(G:∀x∈xs,x.Ok)(J:xs.length<=90):Zh C [.lst (xs.map λx=>.str x.line)]=some (rdV C (ZC [] 0 xs)):=by
 obtain⟨i1,i2⟩:=Qkg C (.lst (xs.map λx=>.str x.line)) xs 0 [] .un .un .un (by simp) G (by simpa using J);delta Zh QbP;walk_at "ev";rw[QkN xs 0];cases h:ZC [] 0 xs with
 |inl R =>
  obtain⟨t2,j,m,e⟩:=i2 _ h;rw[show([]:List PV)=(([]:List Rw).map Rw.v) from rfl,e];walk_at "ev";rfl
 |inr p =>
  obtain⟨e,k⟩:=p;rw[show([]:List PV)=(([]:List Rw).map Rw.v) from rfl,i1 _ _ h];walk_at "ev";rfl
local macro_rules | `(tactic| walk_at "ev")=>`(tactic| try simp (disch:=walk_at "eb") only[pLen_sn,mtK_s,EVc,EVl,List.length_range])
def e_twin{y z:Rw}(G:y.Ok)(hz:z.Ok):Yq [y.v,z.v]=some (.bl (y.simB z)):=by
 delta Yq Qes;cases y with
 |g a b =>
  have j:=ZD G.1.low;cases z with
  |g c d =>
   have m:=ZD hz.1.low;unfold Rw.v;walk_at "ev";rw[QeN QC QC,show(!(("guess":Str)=="guess"))=false by simp];walk_at "ev";rw[QeN j m];by_cases e:a=c
   .subst e;rw[show(!(a==a))=false by simp];walk_at "ev";rw[QP QC Qbs,Qpj];walk_at "ev";rw[QP QC QC,show(("guess":Str)=="guess")=true by simp];walk_at "ev";simp[Rw.simB]
   .rw[show(!(a==c))=true by simp[e]];walk_at "ev";simp[Rw.simB,e]
  |r k c =>
   unfold Rw.v;walk_at "ev";rw[QeN QC QY,QeP];walk_at "ev";rfl
 |r H b =>
  have B:=ZD G.1.low;cases z with
  |g c d =>
   unfold Rw.v;walk_at "ev";rw[QeN QY QC,QcC];walk_at "ev";rfl
  |r k c =>
   have ok:=ZD hz.1.low;have l1:=G.2.2.2;have l2:=hz.2.2.2;unfold Rw.v;walk_at "ev";rw[QeN QY QY,show(!(("rule":Str)=="rule"))=false by simp];walk_at "ev";rw[QeN B ok];by_cases e:H=k
   .subst e;rw[show(!(H==H))=false by simp];walk_at "ev";rw[QP QY Qbs,Qpb];walk_at "ev";rw[QP QY QC,QcC];walk_at "ev";rw[Qgg (by lia),Qgg (by lia)];walk_at "ev";rw[Qmo (Qne λs hs=>ZD (G.2.1 s ((QW b).mem_iff.mp hs)).low) (Qne λs hs=>ZD (hz.2.1 s ((QW c).mem_iff.mp hs)).low),peq_lst];simp[Rw.simB];rfl
   .rw[show(!(H==k))=true by simp[e]];walk_at "ev";simp[Rw.simB,e]
def addW(ks:List Str)(w:Str):List Str:=if w∈ks then ks else ks++[w]
def addL(ks ws:List Str):List Str:=ws.foldl addW ks
def addW_mem{ks:List Str}{w v:Str}:v∈addW ks w↔v∈ks\/v=w:=by
 unfold addW;by_cases h:w∈ks
 .rw[ak h];exact⟨.inl,λz=>z.elim id λe=>e▸h⟩
 .rw[ar h];simp
def QlT{ks:List Str}(h:ks.Nodup)(w:Str):(addW ks w).Nodup:=by
 unfold addW;by_cases c:w∈ks
 .rw[ak c];exact h
 .rw[ar c,fN];exact⟨h,by simp,λa j b m e=>c (by rw[aA.mp m]at e;rw[<-e];exact j)⟩
def QkY(ks:List Str)(w:Str):(addW ks w).length<=ks.length+1:=by
 unfold addW;by_cases c:w∈ks
 .rw[ak c];omega
 .rw[ar c];simp
theorem Qgw:∀{ws ks:List Str},v∈addL ks ws↔v∈ks\/v∈ws
 |[],ks=>by simp[addL]
 |w::ws,ks=>by
  show v∈addL (addW ks w) ws↔_;rw[Qgw,addW_mem,ao,or_assoc]
theorem Qcu:∀{ws ks:List Str},ks.Nodup->(addL ks ws).Nodup
 |[],_,h=>h
 |w::ws,ks,h=>Qcu (ws:=ws) (QlT h w)
def putD_add ks w:putD (gD ks TT) w (.inl true)=gD (addW ks w) TT:=by
 unfold addW;by_cases h:w∈ks
 .rw[ak h];exact putD_old h rfl
 .rw[ar h];exact putD_new h rfl
def xput_s(h1:mk γ=some (.str w))(h2:mv γ=some (.bl true))(G:ks.length<=1000):Qjg mk mv γ (gD ks TT)=some (.nx γ (gD (addW ks w) TT)):=by
 unfold Qjg;rw[h1,h2];show(if (gD ks TT).length<=1000 then some (OutX.nx γ (putD (gD ks TT) w (.inl true))) else none)=_;rw[gD_len,ak G,putD_add]
def YB{j:Nat}{m:MSt}{k:MV}{γ γ':PEnv}{t:DT}(h:m γ=some (.nx γ'))(e:Xx γ' j=Xx γ j):vPre j m k γ t=k γ' t:=by
 unfold vPre;rw[h,aQ];exact ak e
def QfD{j:Nat}{m:MSt}{k:MV}{γ:PEnv}{t:DT}{p:PV}(h:m γ=some (.rt p)):vPre j m k γ t=some (p,t):=by
 unfold vPre;rw[h];rfl
def vX_nx(h:m γ t=some (.nx γ' t')):vX m k γ t=k γ' t':=by
 grind[vX]
def opq2 a G s1 J O U:Xx [G,s1,.fz (.opq a),J,O,U] 2=some a:=rfl
theorem Qhb a P Q G J:∀ws ks O,ks.length+ws.length<=1000->∃U,forX 2 (gSet 4) Zn (ws.map .str) [.fz P,.fz Q,.fz (.opq a),G,O,J] (gD ks TT)=some (.nx [.fz P,.fz Q,.fz (.opq a),G,U,J] (gD (addL ks ws) TT))
 |[],ks,O,_=>⟨O,rfl⟩
 |w::ws,ks,O,j=>by
  rw[aK]at j;have h1:=QkY ks w;obtain⟨U,m⟩:=Qhb a P Q G J ws (addW ks w) (.fz (.str w)) (by lia);refine⟨U,?_⟩;have B:gSet 4 (.str w) [.fz P,.fz Q,.fz (.opq a),G,O,J]=some [.fz P,.fz Q,.fz (.opq a),G,.fz (.str w),J]:=rfl;rw[aL];unfold forX;rw[B,aQ,ak (by rw[opq2,opq2])];delta Zn;rw[xput_s rfl rfl (by lia)];exact m
def Qje:MV:=(vPre 2 (sFor [1] (iLst (mVar 1)) (gSet 3) QR)
 (vX (Qjg (bin2 pIx (mVar 0) (mN 1)) (mC (.bl true)))
 (vX (xFor 2 [0,0,0] (iLst (mIfE (truB (bin2 pEq (bin2 pIx (mVar 0) (mN 0)) (mC (.str "guess")))) (mLst (mLim (Qa (bin2 pIx (mVar 0) (mN 2)) aNil))) (mLst (Qg XF (Qa (bin2 pIx (mVar 0) (mN 2)) aNil))))) (gSet 4) Zn)
 (vPre 2 (sSet [1,0] 5 (Qg pLen (Qa (mLst (Yg (iLst (mVar 1)) 1 [0] (gSet 0) (truB (bin2 pEq (bin2 pIx (mVar 0) (mN 0)) (bin2 pIx (mVar 1) (mN 0)))) (mVar 0))) aNil)))
 (vIf 2 (bOr (truB (bin2 pGt (Qg QhY (Qa (mVar 2) aNil)) (mN 30))) (truB (bin2 pGe (mVar 5) (bin2 pIx (mLst (mLim (Qa (mN 40) (Qa (mN 8) aNil)))) (Qg pI01 (Qa (bin2 pEq (bin2 pIx (mVar 0) (mN 0)) (mC (.str "guess"))) aNil)))))) (QhU (sRet (mN 1)))
 (QhU (sRet (un1 pNeg (mN 1)))))))))
def Qab:QaB=(vPre 2 (sIf (truB (bin2 pEq (bin2 pIx (mVar 0) (mN 0)) (mC (.str "bad")))) (sRet (mN 0)) sNx)
 (vPre 2 (sIf (bAnd (truB (bin2 pEq (bin2 pIx (mVar 0) (mN 0)) (mC (.str "rule")))) (truB (bin2 pGt (Qg pLen (Qa (bin2 pIx (mVar 0) (mN 2)) aNil)) (mN 6)))) (sRet (mN 1)) sNx)
 (vPre 2 (sIf (bAnd (truB (bin2 pEq (bin2 pIx (mVar 0) (mN 0)) (mC (.str "rule")))) (truB (bin2 pLt (Qg Xu (Qa (bin2 pIx (mVar 0) (mN 2)) aNil)) (Qg pLen (Qa (bin2 pIx (mVar 0) (mN 2)) aNil))))) (sRet (mN 2)) sNx) Qje))):=rfl
def numK(R:List Rw)(y:Rw):Nat:=(R.filter λz=>z.isG==y.isG).length
def capK(y:Rw):Nat:=if y.isG=true then 8 else 40
def hdW:Rw->Str
 |.g a _=>a
 |.r h _=>h
def tlW:Rw->List Str
 |.g _ b=>[b]
 |.r _ b=>b
def ws_ht y:y.ws=hdW y::tlW y:=by cases y<;>rfl
def ev_xFor j ms mi g b γ (t:DT):xFor j ms mi g b γ t=(mi γ).bind λxs=>forX j g b xs (frz ms γ) t:=rfl
def pItems_t xs:XF [.tup xs]=some xs:=rfl
def f_loop(a:Addr){R:List Rw}(J:∀z∈R,z.Ok){y:Rw}(O:y.Ok):∃G,sFor [1] (iLst (mVar 1)) (gSet 3) QR [.fz y.v,.fz (.lst (R.map Rw.v)),.fz (.opq a),.un,.un,.un]=some (if (R.any λz=>z.simB y)=true then .rt (pN 2) else .nx [.fz y.v,.fz (.lst (R.map Rw.v)),.fz (.opq a),G,.un,.un]):=by
 obtain⟨h1,h2⟩:=QkG (g:=gSet 3) (b:=QR) Rw.v (λz => !z.simB y) (pN 2) (λγ=>∃G,γ=[.fz y.v,.fz (.lst (R.map Rw.v)),.fz (.opq a),G,.un,.un]) R [.fz y.v,.fz (.lst (R.map Rw.v)),.fz (.opq a),.un,.un,.un] ⟨_,rfl⟩ (by
  rintro z hz γ ⟨G,rfl⟩;have j:=e_twin (J z hz) O;refine⟨_,rfl,λc=>⟨_,?_,.fz z.v,rfl⟩,λc=>?_⟩
  .delta QR;walk_at "ev";rw[j,show z.simB y=false by simpa using c];walk_at "ev"
  .delta QR;walk_at "ev";rw[j,show z.simB y=true by simpa using c];walk_at "ev")
 have e:(R.all λz => !z.simB y) = !(R.any λz=>z.simB y):=by simp[List.all_eq_not_any_not]
 rw[e]at h1 h2;cases hc:R.any λz=>z.simB y with
 |true =>
  refine⟨.un,?_⟩;have:=h2 (by rw[hc];rfl);walk_at "ev";rw[this]
  try rfl
 |false =>
  obtain⟨γ',e2,G,rfl⟩:=h1 (by rw[hc];rfl);refine⟨G,?_⟩;walk_at "ev";rw[e2]
  try rfl
def f_alike a (O:R.length<=1000) y G J:sSet [1,0] 5 (Qg pLen (Qa (mLst (Yg (iLst (mVar 1)) 1 [0] (gSet 0) (truB (bin2 pEq (bin2 pIx (mVar 0) (mN 0)) (bin2 pIx (mVar 1) (mN 0)))) (mVar 0))) aNil)) [.fz y.v,.fz (.lst (R.map Rw.v)),.fz (.opq a),G,J,.un] =
  some (.nx [.fz y.v,.fz (.lst (R.map Rw.v)),.fz (.opq a),G,J,.fz (pN (numK R y))]):=by
 obtain⟨B,D,j⟩:=QeR y;have key:=Xw (g:=gSet 0) (t:=truB (bin2 pEq (bin2 pIx (mVar 0) (mN 0)) (bin2 pIx (mVar 1) (mN 0)))) (e:=mVar 0) (γ:=[.un,.fz y.v]) Rw.v (λz=>z.isG==y.isG) Rw.v R λz hz=>by
  obtain⟨E,H,m⟩:=QeR z;refine⟨[.fz z.v,.fz y.v],rfl,?_,λ_=>rfl⟩;rw[m,j];walk_at "ev";grind[QP,QY,isB_bl,QC,QeP]
 walk_at "ev";rw[key];walk_at "ev";rfl
def f_for a {R:List Rw} (O:y.Ok) G (U:ks.length<=900):∃J,xFor 2 [0,0,0] (iLst (mIfE (truB (bin2 pEq (bin2 pIx (mVar 0) (mN 0)) (mC (.str "guess")))) (mLst (mLim (Qa (bin2 pIx (mVar 0) (mN 2)) aNil))) (mLst (Qg XF (Qa (bin2 pIx (mVar 0) (mN 2)) aNil))))) (gSet 4) Zn
  [.fz y.v,.fz (.lst (R.map Rw.v)),.fz (.opq a),G,.un,.un] (gD ks TT)=some (.nx [.fz y.v,.fz (.lst (R.map Rw.v)),.fz (.opq a),G,J,.un] (gD (addL ks (tlW y)) TT)):=by
 have j:(tlW y).length<=6:=by
  cases y with
  |g a b=>show 1<=6;decide
  |r H b=>exact O.2.2.2
 obtain⟨J,e⟩:=Qhb a y.v (.lst (R.map Rw.v)) G .un (tlW y) ks .un (by lia);refine⟨J,?_⟩;rw[<-e,ev_xFor];cases y with
 |g b c =>
  have:iLst (mIfE (truB (bin2 pEq (bin2 pIx (mVar 0) (mN 0)) (mC (.str "guess")))) (mLst (mLim (Qa (bin2 pIx (mVar 0) (mN 2)) aNil))) (mLst (Qg XF (Qa (bin2 pIx (mVar 0) (mN 2)) aNil)))) [.fz (Rw.g b c).v,.fz (.lst (R.map Rw.v)),.fz (.opq a),G,.un,.un]=some [.str c]:=by
   unfold Rw.v;walk_at "ev";rw[QP QC QC,show(("guess":Str)=="guess")=true by simp];walk_at "ev"
  rw[this];rfl
 |r H b =>
  have:iLst (mIfE (truB (bin2 pEq (bin2 pIx (mVar 0) (mN 0)) (mC (.str "guess")))) (mLst (mLim (Qa (bin2 pIx (mVar 0) (mN 2)) aNil))) (mLst (Qg XF (Qa (bin2 pIx (mVar 0) (mN 2)) aNil)))) [.fz (Rw.r H b).v,.fz (.lst (R.map Rw.v)),.fz (.opq a),G,.un,.un]=some (b.map .str):=by
   unfold Rw.v;walk_at "ev";rw[QP QY QC,QcC];walk_at "ev"
   try rw[pItems_t]
   walk_at "ev"
  rw[this];rfl
def cap_get(y:Rw)(γ:PEnv)(h:getV γ 0=some y.v):bin2 pIx (mLst (mLim (Qa (mN 40) (Qa (mN 8) aNil)))) (Qg pI01 (Qa (bin2 pEq (bin2 pIx (mVar 0) (mN 0)) (mC (.str "guess"))) aNil)) γ=some (pN (capK y)):=by
 obtain⟨j,m,B⟩:=QeR y;have D:getV γ 0=some (.tup [.str (if y.isG=true then "guess" else "rule"),j,m]):=by rw[<-B];exact h
 unfold capK;walk_at "ev";rw[D];walk_at "ev";cases E:y.isG
 .simp only[cD,gQ];rw[QP QY QC,QcC];rfl
 .simp only[if_true];rw[QP QC QC,show(("guess":Str)=="guess")=true by simp];rfl
def f_end a {R:List Rw} y G J n ks:vIf 2 (bOr (truB (bin2 pGt (Qg QhY (Qa (mVar 2) aNil)) (mN 30))) (truB (bin2 pGe (mVar 5) (bin2 pIx (mLst (mLim (Qa (mN 40) (Qa (mN 8) aNil)))) (Qg pI01 (Qa (bin2 pEq (bin2 pIx (mVar 0) (mN 0)) (mC (.str "guess"))) aNil)))))) (QhU (sRet (mN 1)))
 (QhU (sRet (un1 pNeg (mN 1)))) [.fz y.v,.fz (.lst (R.map Rw.v)),.fz (.opq a),G,J,.fz (pN n)] (gD ks TT)=some (if (decide (30<ks.length)||decide (capK y<=n))=true then pN 1 else .int (-1),gD ks TT):=by
 have h1:truB (bin2 pGt (Qg QhY (Qa (mVar 2) aNil)) (mN 30)) [.fz y.v,.fz (.lst (R.map Rw.v)),.fz (.dcw (gD ks TT)),G,J,.fz (pN n)]=some (decide (30<ks.length)):=by
  walk_at "ev";rw[pLenD_w,gD_len];walk_at "ev"
 have h2:truB (bin2 pGe (mVar 5) (bin2 pIx (mLst (mLim (Qa (mN 40) (Qa (mN 8) aNil)))) (Qg pI01 (Qa (bin2 pEq (bin2 pIx (mVar 0) (mN 0)) (mC (.str "guess"))) aNil)))) [.fz y.v,.fz (.lst (R.map Rw.v)),.fz (.dcw (gD ks TT)),G,J,.fz (pN n)]=some (decide (capK y<=n)):=by
  have j:=cap_get y [.fz y.v,.fz (.lst (R.map Rw.v)),.fz (.dcw (gD ks TT)),G,J,.fz (pN n)] rfl;revert j;generalize bin2 pIx (mLst (mLim (Qa (mN 40) (Qa (mN 8) aNil)))) (Qg pI01 (Qa (bin2 pEq (bin2 pIx (mVar 0) (mN 0)) (mC (.str "guess"))) aNil))=K;intro j;walk_at "ev";rw[j];walk_at "ev"
 have m:=bOr_b h1 h2;unfold vIf;rw[show([Slot.fz y.v,.fz (.lst (R.map Rw.v)),.fz (.opq a),G,J,.fz (pN n)]).set 2 (.fz (.dcw (gD ks TT)))=[.fz y.v,.fz (.lst (R.map Rw.v)),.fz (.dcw (gD ks TT)),G,J,.fz (pN n)] from rfl,m,aQ];cases (decide (30<ks.length)||decide (capK y<=n)) with
 |true=>rfl
 |false=>rfl
def e_tail a (J:∀z∈R,z.Ok) (O:R.length<=100) (G:y.Ok) (U:ks.length<=800):Qje [.fz y.v,.fz (.lst (R.map Rw.v)),.fz (.opq a),.un,.un,.un] (gD ks TT) =
  if (R.any λz=>z.simB y)=true then some (pN 2,gD ks TT) else some (if (decide (30<(addL ks y.ws).length)||decide (capK y<=numK R y))=true then pN 1 else .int (-1),gD (addL ks y.ws) TT):=by
 obtain⟨j,e1⟩:=f_loop a J G;unfold Qje;by_cases c:(R.any λz=>z.simB y)=true
 .rw[ak c]at e1 |-;rw[QfD e1]
 .rw[ar c]at e1 |-;rw[YB e1 rfl];have hw:bin2 pIx (mVar 0) (mN 1) [.fz y.v,.fz (.lst (R.map Rw.v)),.fz (.opq a),j,.un,.un]=some (.str (hdW y)):=by
   cases y<;>rfl
  rw[vX_nx (xput_s hw rfl (by lia))];have h1:=QkY ks (hdW y);obtain⟨m,e2⟩:=f_for a G j (ks:=addW ks (hdW y)) (by lia);rw[vX_nx e2,YB (f_alike a (by lia) y j m) rfl,f_end,show addL (addW ks (hdW y)) (tlW y)=addL ks y.ws by rw[ws_ht];rfl]
def numK_g{R:List Rw}{y:Rw}(h:y.isG=true):numK R y=(R.filterMap Rw.gp).length:=by
 unfold numK;rw[show(λz:Rw=>z.isG==y.isG)=Rw.isG by funext z;rw[h];cases z.isG<;>rfl,Qmd,aj]
def numK_r{R:List Rw}{y:Rw}(h:y.isG=false):numK R y=(R.filterMap Rw.rp).length:=by
 unfold numK;rw[show(λz:Rw=>z.isG==y.isG)=(λx => !x.isG) by funext z;rw[h];cases z.isG<;>rfl,Qpl,aj]
def Qgi(h:Ym R=false):(R.filterMap Rw.gp).length<=8/\(R.filterMap Rw.rp).length<=40/\(once (R.flatMap Rw.ws)).length<=30:=by
 grind[Ym]
def Qke{l m:List Str}(h1:l.Nodup)(h2:m.Nodup)(h:∀w,w∈l↔w∈m):l.length=m.length :=
 lW (QfE h1 λx j=>(h x).mp j) (QfE h2 λx j=>(h x).mpr j)
def Qok{R:List Rw}(G:Ym R=false)(y:Rw){ks:List Str}(J:ks.Nodup)(O:∀w,w∈ks↔w∈R.flatMap Rw.ws):Ym (R++[y])=(decide (30<(addL ks y.ws).length)||decide (capK y<=numK R y)):=by
 obtain⟨m,B,D⟩:=Qgi G;have j:(once ((R++[y]).flatMap Rw.ws)).length=(addL ks y.ws).length:=Qke (Qak _) (Qcu J) λw=>by
  rw[Qck,Qgw,O w];simp
 unfold Ym;rw[j,j5,j5,aJ,aJ];cases y with
 |g a b =>
  rw[numK_g (show(Rw.g a b).isG=true from rfl),show capK (Rw.g a b)=8 from rfl,show([Rw.g a b].filterMap Rw.gp).length=1 from rfl,show([Rw.g a b].filterMap Rw.rp).length=0 from rfl];rw[aH (show ¬40<(R.filterMap Rw.rp).length+0 by omega),ik,Bool.or_comm];congr 1;rw[gc];omega
 |r H b =>
  rw[numK_r (show(Rw.r H b).isG=false from rfl),show capK (Rw.r H b)=40 from rfl,show([Rw.r H b].filterMap Rw.gp).length=0 from rfl,show([Rw.r H b].filterMap Rw.rp).length=1 from rfl];rw[aH (show ¬8<(R.filterMap Rw.gp).length+0 by omega),jz,Bool.or_comm];congr 1;rw[gc];omega
def QgN m a p q t:runD 6 3 m a [p,q] t=m [.fz p,.fz q,.fz (.opq a),.un,.un,.un] t:=rfl
def e_fault{R:List Rw}(hR:∀z∈R,z.Ok)(hl:R.length<=90){ks:List Str}(O:ks.Nodup)(U:∀w,w∈ks↔w∈R.flatMap Rw.ws)(hb:Ym R=false){x:Rx}(Y:x.Ok) :
  (∀e,YF R x = .inr e->∃t',∀a,Qs a [x.v,.lst (R.map Rw.v)] (gD ks TT)=some (pN e,t')) /\
  (∀J,YF R x = .inl J->∃G,(∀a,Qs a [x.v,.lst (R.map Rw.v)] (gD ks TT)=some (.int (-1),gD G TT))/\G.Nodup/\(∀w,w∈G↔w∈J.flatMap Rw.ws)/\Ym J=false):=by
 have I:ks.length<=800:=by
  have:ks.length=(once (R.flatMap Rw.ws)).length:=Qke O (Qak _) λw=>by rw[U w,Qck]
  have:=(Qgi hb).2.2;omega
 have fin:∀{y:Rw},y.Ok->x = .rw y->x.sem = .inl y->(∀a,Qs a [x.v,.lst (R.map Rw.v)] (gD ks TT)=Qje [.fz y.v,.fz (.lst (R.map Rw.v)),.fz (.opq a),.un,.un,.un] (gD ks TT)) ->
   (∀e,YF R x = .inr e->∃t',∀a,Qs a [x.v,.lst (R.map Rw.v)] (gD ks TT)=some (pN e,t')) /\
   (∀J,YF R x = .inl J->∃G,(∀a,Qs a [x.v,.lst (R.map Rw.v)] (gD ks TT)=some (.int (-1),gD G TT))/\G.Nodup/\(∀w,w∈G↔w∈J.flatMap Rw.ws)/\Ym J=false):=λ{y} L ex es M=>by
  have m:=λa=>(M a).trans (e_tail a hR (by omega) L I);have ho:=Qok hb y O U;unfold YF;rw[es];dsimp only;by_cases j:(R.any λz=>z.simB y)=true
  .simp only[ak j]at m |-;exact⟨λe he=>(by cases he;exact⟨_,m⟩),λJ he=>(by cases he)⟩
  .simp only[ar j]at m |-;rw[<-ho]at m;by_cases B:Ym (R++[y])=true
   .simp only[ak B]at m |-;exact⟨λe he=>(by cases he;exact⟨_,m⟩),λJ he=>(by cases he)⟩
   .simp only[ar B]at m |-;refine⟨λe he=>(by cases he),λJ he=>?_⟩;cases he;exact⟨_,m,Qcu O,λw=>(by rw[Qgw,U w];simp),by simpa using B⟩
 cases x with
 |bad l =>
  refine⟨λe he=>?_,λJ he=>(by cases he)⟩;cases he;refine⟨gD ks TT,λa=>?_⟩;delta Qs;rw[QgN,Qab,QfD (p:=pN 0)];unfold Rx.v;walk_at "ev";rw[QP Qbs Qbs,show(("bad":Str)=="bad")=true by simp];walk_at "ev"
 |rw x =>
  cases x with
  |g b c =>
   refine fin (y := .g b c) Y rfl rfl λa=>?_;delta Qs;rw[show(Rx.rw (.g b c)).v=(Rw.g b c).v from rfl,QgN,Qab,YB (γ':=[.fz (Rw.g b c).v,.fz (.lst (R.map Rw.v)),.fz (.opq a),.un,.un,.un]) ?_ rfl,YB (γ':=[.fz (Rw.g b c).v,.fz (.lst (R.map Rw.v)),.fz (.opq a),.un,.un,.un]) ?_ rfl,YB (γ':=[.fz (Rw.g b c).v,.fz (.lst (R.map Rw.v)),.fz (.opq a),.un,.un,.un]) ?_ rfl]
   .unfold Rw.v;walk_at "ev";rw[QP QC QY,QeP];walk_at "ev"
   .unfold Rw.v;walk_at "ev";rw[QP QC QY,QeP];walk_at "ev"
   .unfold Rw.v;walk_at "ev";rw[QP QC Qbs,Qpj];walk_at "ev"
  |r H b =>
   have D:=Y;obtain⟨T,Q,h9⟩:=D;have t1:∀a,sIf (truB (bin2 pEq (bin2 pIx (mVar 0) (mN 0)) (mC (.str "bad")))) (sRet (mN 0)) sNx [.fz (Rw.r H b).v,.fz (.lst (R.map Rw.v)),.fz (.opq a),.un,.un,.un]=some (.nx [.fz (Rw.r H b).v,.fz (.lst (R.map Rw.v)),.fz (.opq a),.un,.un,.un]):=λa=>by
    unfold Rw.v;walk_at "ev";rw[QP QY Qbs,Qpb];walk_at "ev"
   have t2:∀a,sIf (bAnd (truB (bin2 pEq (bin2 pIx (mVar 0) (mN 0)) (mC (.str "rule")))) (truB (bin2 pGt (Qg pLen (Qa (bin2 pIx (mVar 0) (mN 2)) aNil)) (mN 6)))) (sRet (mN 1)) sNx [.fz (Rw.r H b).v,.fz (.lst (R.map Rw.v)),.fz (.opq a),.un,.un,.un]=some (if 6<b.length then .rt (pN 1) else .nx [.fz (Rw.r H b).v,.fz (.lst (R.map Rw.v)),.fz (.opq a),.un,.un,.un]):=λa=>by
    unfold Rw.v;walk_at "ev";rw[QP QY QY,show(("rule":Str)=="rule")=true by simp];walk_at "ev";by_cases c:6<b.length
    .rw[aE c,ak c];walk_at "ev"
    .rw[aH c,ar c];walk_at "ev"
   have E:∀a,sIf (bAnd (truB (bin2 pEq (bin2 pIx (mVar 0) (mN 0)) (mC (.str "rule")))) (truB (bin2 pLt (Qg Xu (Qa (bin2 pIx (mVar 0) (mN 2)) aNil)) (Qg pLen (Qa (bin2 pIx (mVar 0) (mN 2)) aNil))))) (sRet (mN 2)) sNx [.fz (Rw.r H b).v,.fz (.lst (R.map Rw.v)),.fz (.opq a),.un,.un,.un]=some (if (once b).length<b.length then .rt (pN 2) else .nx [.fz (Rw.r H b).v,.fz (.lst (R.map Rw.v)),.fz (.opq a),.un,.un,.un]):=λa=>by
    unfold Rw.v;walk_at "ev";rw[QP QY QY,show(("rule":Str)=="rule")=true by simp];walk_at "ev";rw[Qhs (by omega)];walk_at "ev";by_cases c:(once b).length<b.length
    .rw[aE c,ak c];walk_at "ev"
    .rw[aH c,ar c];walk_at "ev"
   by_cases j:6<b.length
   .have es:(Rx.rw (.r H b)).sem = .inr 1:=ak j;unfold YF;rw[es];refine⟨λe he=>?_,λJ he=>(by cases he)⟩;cases he;refine⟨gD ks TT,λa=>?_⟩;delta Qs;rw[QgN,Qab];have e2:=t2 a;rw[ak j]at e2;rw[show(Rx.rw (.r H b)).v=(Rw.r H b).v from rfl,YB (t1 a) rfl,QfD e2]
   .by_cases B:(once b).length<b.length
    .have es:(Rx.rw (.r H b)).sem = .inr 2:=(ar j).trans (ak B);unfold YF;rw[es];refine⟨λe he=>?_,λJ he=>(by cases he)⟩;cases he;refine⟨gD ks TT,λa=>?_⟩;delta Qs;rw[QgN,Qab];have e2:=t2 a;have e3:=E a;rw[ar j]at e2;rw[ak B]at e3;rw[show(Rx.rw (.r H b)).v=(Rw.r H b).v from rfl,YB (t1 a) rfl,YB e2 rfl,QfD e3]
    .have es:(Rx.rw (.r H b)).sem = .inl (.r H b):=(ar j).trans (ar B);refine fin (y := .r H b) (Qmm Y es).1 rfl es λa=>?_;delta Qs;rw[QgN,Qab];have e2:=t2 a;have e3:=E a;rw[ar j]at e2;rw[ar B]at e3;rw[show(Rx.rw (.r H b)).v=(Rw.r H b).v from rfl,YB (t1 a) rfl,YB e2 rfl,YB e3 rfl]
def calK(ms:List Nat)(i j:Nat)(g:Addr->List PV->DT->Option (PV×DT))(γ:PEnv)(G:List PV):Option Slot->Option Out
 |some (.od t)=>(allB λa=>g a G t).map λr=>.nx (((frz ms γ).set j (.od r.2)).set i (.fz r.1))
 |_=>none
def ev_sCalD ms i j g m1 m2 γ:sCalD ms i j g m1 m2 γ=(m1 γ).bind λG=>(m2 γ).bind λJ=>calK ms i j g γ [G,J] (frz ms γ)[j]?:=by
 rfl
def QnH(h:∀a,g a G t=some (r,t')):calK ms i j g γ G (some (.od t))=some (.nx (((frz ms γ).set j (.od t')).set i (.fz r))):=by
 show(allB λa=>g a G t).map _=_;rw[allB_ok h];rfl
def pGe_n1:pGe (.int (-1)) (pN 0)=some (.bl false):=by
 rfl
def rx_get{xs:List Rx}{k:Nat}{x:Rx}(h:xs[k]?=some x):(xs.map Rx.v)[k]?=some x.v:=by rw[a0,h];rfl
local macro_rules | `(tactic| walk_at "ev")=>`(tactic| try simp (disch:=walk_at "eb") only[pLen_sn,mtK_s,ev_sCalD,EVc,EVl,List.length_range])
def due_step{xs zs:List Rx}{R:List Rw}{x:Rx}(ex:xs=R.map Rx.rw++x::zs)(Y:∀z∈R,z.Ok)(hl:R.length<=90){ks:List Str}(kn:ks.Nodup)(km:∀w,w∈ks↔w∈R.flatMap Rw.ws)(hb:Ym R=false)(hx:x.Ok)(hn:xs.length<=1000)(U O:Slot) :
  (∀e,YF R x = .inr e->QG [.fz (.lst (xs.map Rx.v)),.od (gD ks TT),.fz (pN R.length),U,O]=some (.ro [pN e,pN R.length])) /\
  (∀J,YF R x = .inl J->∃G,QG [.fz (.lst (xs.map Rx.v)),.od (gD ks TT),.fz (pN R.length),U,O]=some (.nx [.fz (.lst (xs.map Rx.v)),.od (gD G TT),.fz (pN R.length),.fz (.int (-1)),O])/\G.Nodup/\(∀w,w∈G↔w∈J.flatMap Rw.ws)/\Ym J=false):=by
 obtain⟨f1,f2⟩:=e_fault Y hl kn km hb hx;have j:R.length<xs.length:=by rw[ex];simp
 have m:(xs.map Rx.v)[R.length]?=some x.v:=rx_get (by rw[ex];simp);have B:(xs.take R.length).map Rx.v=R.map Rw.v:=by
  rw[ex,List.take_left' (by simp),bc];rfl
 refine⟨λe he=>?_,λJ he=>?_⟩
 .obtain⟨t',h⟩:=f1 e he;delta QG;walk_at "ev";rw[m];walk_at "ev";rw[QdO,B];walk_at "ev";rw[QnH h];walk_at "ev";rw[aE (bz e)];walk_at "ev"
 .obtain⟨G,h,k1,k2,k3⟩:=f2 J he;refine⟨G,?_,k1,k2,k3⟩;delta QG;walk_at "ev";rw[m];walk_at "ev";rw[QdO,B];walk_at "ev";rw[QnH h];walk_at "ev";rw[pGe_n1];walk_at "ev"
theorem QnC{xs:List Rx}(U:∀x∈xs,x.Ok)(hn:xs.length<=90)(G:Slot):∀(zs:List Rx)(R:List Rw)(ks:List Str)(s2 J:Slot),xs=R.map Rx.rw++zs->(∀z∈R,z.Ok)->ks.Nodup->(∀w,w∈ks↔w∈R.flatMap Rw.ws)->Ym R=false ->
  (∀e j,ZC R R.length zs = .inr (e,j)->forL (gSet 2) QG (encN (cw R.length zs.length)) [.fz (.lst (xs.map Rx.v)),.od (gD ks TT),s2,J,G]=some (.ro [pN e,pN j])) /\
  (∀O,ZC R R.length zs = .inl O->∃t1 t2 t3,forL (gSet 2) QG (encN (cw R.length zs.length)) [.fz (.lst (xs.map Rx.v)),.od (gD ks TT),s2,J,G]=some (.nx [.fz (.lst (xs.map Rx.v)),t1,t2,t3,G]))
 |[],R,ks,s2,J,ex,B,Q,T,Y=>⟨λe j h=>(by cases h),λO h=>⟨_,_,_,rfl⟩⟩
 |x::zs,R,ks,s2,J,ex,B,Q,T,Y=>by
  have hx:x.Ok:=U x (by rw[ex];simp);have hl:R.length+(zs.length+1)=xs.length:=by rw[ex];simp
  obtain⟨D,E⟩:=due_step ex B (by lia) Q T Y hx (by lia) J G;have hg:gSet 2 (pN R.length) [.fz (.lst (xs.map Rx.v)),.od (gD ks TT),s2,J,G]=some [.fz (.lst (xs.map Rx.v)),.od (gD ks TT),.fz (pN R.length),J,G]:=rfl;have er:encN (cw R.length (x::zs).length)=pN R.length::encN (cw (R.length+1) zs.length):=rfl;rw[er];unfold ZC;cases hs:YF R x with
  |inr e0 =>
   refine⟨λe j h=>?_,λO h=>(by cases h)⟩;cases h;unfold forL;rw[hg,aQ,D _ hs];rfl
  |inl H =>
   obtain⟨m,e1,k1,k2,k3⟩:=E _ hs;obtain⟨y,ey,I,hy,_,_⟩:=Qit B hx hs;have L:∀z∈H,z.Ok:=λz hz=>by
    rw[I]at hz;rcases aO.mp hz with w | w
    .exact B z w
    .rw[aA.mp w];exact hy
   have M:H.length=R.length+1:=by rw[I];simp
   obtain⟨i1,i2⟩:=QnC U hn G zs H m (.fz (pN R.length)) (.fz (.int (-1))) (by rw[ex,I,ey];simp) L k1 k2 k3;rw[M]at i1 i2;have e2:forL (gSet 2) QG (pN R.length::encN (cw (R.length+1) zs.length)) [.fz (.lst (xs.map Rx.v)),.od (gD ks TT),s2,J,G]=forL (gSet 2) QG (encN (cw (R.length+1) zs.length)) [.fz (.lst (xs.map Rx.v)),.od (gD m TT),.fz (pN R.length),.fz (.int (-1)),G]:=by
    conv=>lhs;unfold forL
    rw[hg,aQ,e1];rfl
   rw[e2];exact⟨i1,i2⟩
theorem QfG:∀(zs:List Rx)(R:List Rw)(k:Nat){G:List Rw},(∀x∈zs,x.Ok)->(∀z∈R,z.Ok)->R.Pairwise (λx y=>¬x.sim y)->Ym R=false->ZC R k zs = .inl G->G.map Rx.rw=R.map Rx.rw++zs/\(∀z∈G,z.Ok)/\G.Pairwise (λx y=>¬x.sim y)/\Ym G=false
 |[],R,k,G,_,j,B,m,h=>by
  cases h;exact⟨by simp,j,B,m⟩
 |x::zs,R,k,G,E,j,B,m,h=>by
  have H:=E x (by simp);unfold ZC at h;cases hs:YF R x with
  |inr T=>rw[hs]at h;cases h
  |inl I =>
   rw[hs]at h;obtain⟨y,J,D,L,hn,ho⟩:=Qit j H hs;obtain⟨h1,h2,M,O⟩:=QfG zs I (k+1) (λz hz=>E z (by simp[hz])) (λz hz=>by
    rw[D]at hz;rcases aO.mp hz with w | w
    .exact j z w
    .rw[aA.mp w];exact L) (by
    rw[D,gW];exact⟨B,by simp,λa Q b m=>by rw[aA.mp m];exact hn a Q⟩) ho h
   refine⟨?_,h2,M,O⟩;rw[h1,D,J];simp
def hdB(G:List Str):Rw->Bool
 |.r h _=>G.any (·==h)
 |_=>false
def fstH(G:List Str):Nat->List Rw->Option Nat
 |_,[]=>none
 |k,y::ys=>if hdB G y=true then some k else fstH G (k+1) ys
def encW:Nat->List Rw->List PV
 |_,[]=>[]
 |k,x::xs=>.tup [pN k,x.v]::encW (k+1) xs
theorem QkM:∀xs k,(((xs.map Rw.v).zipIdx k).map λx=>PV.tup [pN x.2,x.1])=encW k xs
 |[],_=>rfl
 |x::xs,k=>by
  rw[aL,lL,aL,QkM xs (k+1)];rfl
local macro_rules | `(tactic| walk_at "ev")=>`(tactic| try simp (disch:=walk_at "eb") only[pLen_sn,mtK_s,ev_rSeq,rseqK_nx,rseqK_rt,rseqK_x,ev_rLift,rifK_t,rifK_f,ev_rIf,ev_rRaise,one_1,outR_rt,outR_x,ev_rSet,rsetK_l,rsetK_r,runR_1,ev_rFor,outR_ro,outR_nx,EVc,EVl,List.length_range])
def ref_step C P (J:∀s∈G,aW s=true) (O:y.Ok) k s1 (hs:s1 = .ow (G.map .str)):Zq C [.fz P,s1,.fz (pN k),.fz y.v]=some (if hdB G y=true then .inr (excV C 3 k) else .inl (.nx [.fz P,s1,.fz (pN k),.fz y.v])):=by
 subst hs;delta Zq;cases y with
 |g a b =>
  unfold Rw.v;walk_at "ev";rw[QP QC QY,QeP];walk_at "ev";rfl
 |r h b =>
  unfold Rw.v;walk_at "ev";rw[QP QY QY,show(("rule":Str)=="rule")=true by simp];walk_at "ev";rw[Qmn (ZD O.1.low) J];show _=some (if (G.any (·==h))=true then _ else _);cases hc:G.any (·==h) with
  |true =>
   walk_at "ev";rfl
  |false =>
   walk_at "ev";rfl
theorem QmQ(C:Nat->Addr)(P:PV){G:List Str}(U:∀s∈G,aW s=true):∀(ys:List Rw)(k:Nat)(s2 J:Slot),(∀y∈ys,y.Ok) ->
  ∃t2 O,XH (QbY 2 3) (Zq C) (encW k ys) [.fz P,.ow (G.map .str),s2,J]=some (match fstH G k ys with | some j=>.inr (excV C 3 j) | none=>.inl (.nx [.fz P,.ow (G.map .str),t2,O]))
 |[],k,s2,J,_=>⟨_,_,rfl⟩
 |y::ys,k,s2,J,Y=>by
  have st:=ref_step C P U (Y y (by simp)) k _ rfl;have m:QbY 2 3 (.tup [pN k,y.v]) [.fz P,.ow (G.map .str),s2,J]=some [.fz P,.ow (G.map .str),.fz (pN k),.fz y.v]:=rfl;obtain⟨t2,O,B⟩:=QmQ C P U ys (k+1) (.fz (pN k)) (.fz y.v) λz hz=>Y z (by simp[hz]);refine⟨t2,O,?_⟩;unfold encW fstH XH;rw[m,aQ,st];by_cases c:hdB G y=true
  .rw[ak c,ak c];rfl
  .rw[ar c,ar c];exact B
def refV(C:Nat->Addr):Option Nat->PV ⊕ PV
 |some j=>.inr (excV C 3 j)
 |none=>.inl .non
def e_refuse C (G:∀y∈R,y.Ok) (J:R.length<=90):Qz C [.lst (R.map Rw.v)]=some (refV C (fstH (GN (R.filterMap Rw.gp)) 0 R)):=by
 have m:=QkR (by lia) [.fz (.lst (R.map Rw.v)),.un,.un,.un] rfl;obtain⟨t2,B,e⟩:=QmQ C (.lst (R.map Rw.v)) (GN_ok G) R 0 .un .un G;delta Qz Xv;rw[runR_1,ev_startG1];simp;rw[ev_rSeq,ev_rLift,ev_sSetO,m];walk_at "ev";rw[QkM R 0,e];cases fstH (GN (R.filterMap Rw.gp)) 0 R with
 |some j=>walk_at "ev";rfl
 |none=>walk_at "ev";rfl
def gd_of{R:List Rw}(J:∀y∈R,y.Ok)(G:R.Pairwise λx y=>¬x.sim y)(O:Ym R=false)(U:fstH (GN (R.filterMap Rw.gp)) 0 R=none):Gd R (once (R.flatMap Rw.ws)):=by
 obtain⟨m,B,D⟩:=Qgi O;have key:∀(ys:List Rw)(k:Nat),fstH (GN (R.filterMap Rw.gp)) k ys=none->∀y∈ys,hdB (GN (R.filterMap Rw.gp)) y=false:=λys=>by
  induction ys with
  |nil=>intro k _ y j;cases j
  |cons z zs E =>
   intro k h y j;unfold fstH at h;by_cases c:hdB (GN (R.filterMap Rw.gp)) z=true
   .rw[ak c]at h;cases h
   .rw[ar c]at h;rcases ao.mp j with rfl | j
    .simpa using c
    .exact E _ h y j
 refine⟨J,G,m,B,D,λx H w hw=>Qck.mpr (List.mem_flatMap.mpr ⟨x,H,hw⟩),λp G hm=>?_⟩;obtain⟨y,j,e⟩:=bv.mp G;have:=key R 0 U y j;cases y with
 |g a b=>cases e
 |r h b =>
  cases e;have this:(GN (R.filterMap Rw.gp)).any (·==h)=false:=this;rw[fQ]at this;exact this h hm (by simp)
def isB0:List Rx->Bool
 |[.bad l]=>l==""
 |_=>false
def dueS(xs:List Rx):Option (Nat×Nat):=if isB0 xs=true then none else match ZC [] 0 xs with
 |.inr p=>some p
 |.inl R=>(fstH (GN (R.filterMap Rw.gp)) 0 R).map λk=>(3,k)
def dueL:Option (Nat×Nat)->List PV
 |some (e,k)=>[pN e,pN k]
 |none=>[.int (-1),pN 0]
def rx_ok{x:Rx}(h:x.Ok):dep x.v<=2/\okS x.v=true:=by
 cases x with
 |bad l =>
  have:=QgY h.asc;simp[Rx.v,dep,depL,okS,okSL,this,Qbs]
 | rw x=>cases x with
  |g a b =>
   simp[Rx.v,Rw.v,dep,depL,okS,okSL,ZD h.1.low,ZD h.2.low,QC]
  |r H b =>
   have:=Qdq λs hs=>ZD (h.2.1 s hs).low;simp[Rx.v,Rw.v,dep,depL,okS,okSL,ZD h.1.low,QY,this.1,this.2]
theorem rxs_ok:∀{xs:List Rx},(∀x∈xs,x.Ok)->depL (xs.map Rx.v)<=2/\okSL (xs.map Rx.v)=true
 |[],_=>by simp[depL,okSL]
 |x::xs,h=>by
  obtain⟨h1,h2⟩:=rxs_ok λz hz=>h z (aw _ hz);obtain⟨j,m⟩:=rx_ok (h x (by simp));rw[aL];simp only[depL,okSL];grind
def okv_rows{xs:List Rx}(h:∀x∈xs,x.Ok):okv (.lst (xs.map Rx.v))=true:=by
 obtain⟨h1,h2⟩:=rxs_ok h;unfold okv;rw[show okS (.lst (xs.map Rx.v))=okSL (xs.map Rx.v) by simp[okS],h2,show dep (.lst (xs.map Rx.v))=depL (xs.map Rx.v)+1 by simp[dep],aE (by omega)];rfl
def b0_ok:okv (.lst [.tup [.str "bad",.str ""]])=true:=by decide+kernel
def peq_b0(xs:List Rx):peq (.lst (xs.map Rx.v)) (.lst [.tup [.str "bad",.str ""]])=isB0 xs:=by
 match xs with
 |[]=>rfl
 |[.bad l] =>
  show(((("bad":Str)=="bad")&&((l=="")&&true))&&true)=(l=="");simp
 |[.rw (.g a b)] =>
  show(((("guess":Str)=="bad")&&((a=="")&&false))&&true)=false;rw[Qpj];rfl
 |[.rw (.r h b)] =>
  show(((("rule":Str)=="bad")&&((h=="")&&false))&&true)=false;rw[Qpb];rfl
 |x::y::zs =>
  show(peq x.v (.tup [.str "bad",.str ""])&&false)=_;rw[gY];cases x<;>rfl
def isB0_1(h:isB0 xs=true):∃l,xs=[.bad l]/\l = "":=by
 match xs,h with
 |[.bad l],h=>exact⟨l,rfl,by grind[isB0]⟩
def rx_map(R:List Rw):(R.map Rx.rw).map Rx.v=R.map Rw.v:=by rw[bc];rfl
local macro_rules | `(tactic| walk_at "ev")=>`(tactic| try simp (disch:=walk_at "eb") only[pLen_sn,mtK_s,EVc,EVl,List.length_range])
def hd_step{R:List Rw}{G:List Str}(U:∀s∈G,aW s=true){k:Nat}{y:Rw}(J:R[k]?=some y)(Y:y.Ok)(hl:R.length<=1000)(s1 O:Slot):YI [.fz (.lst (R.map Rw.v)),s1,.fz (pN k),O,.ow (G.map .str)] =
  some (if hdB G y=true then .ro [pN 3,pN k] else .nx [.fz (.lst (R.map Rw.v)),s1,.fz (pN k),O,.ow (G.map .str)]):=by
 have j:(R.map Rw.v)[k]?=some y.v:=by rw[a0,J];rfl
 have m:k<R.length:=(al.mp J).1;delta YI;cases y with
 |g a b =>
  have j:(R.map Rw.v)[k]?=some (.tup [.str "guess",.str a,.str b]):=j;walk_at "ev";rw[j];walk_at "ev";rw[QP QC QY,QeP];walk_at "ev";rfl
 |r h b =>
  have j:(R.map Rw.v)[k]?=some (.tup [.str "rule",.str h,.tup (b.map .str)]):=j;walk_at "ev";rw[j];walk_at "ev";rw[QP QY QY,show(("rule":Str)=="rule")=true by simp];walk_at "ev"
  try rw[j]
  walk_at "ev";rw[Qmn (ZD Y.1.low) U];show _=some (if (G.any (·==h))=true then _ else _);cases hc:G.any (·==h) with
  |true =>
   walk_at "ev"
   try rfl
  |false =>
   walk_at "ev"
   try rfl
theorem hd_for{R:List Rw}{G:List Str}(O:∀s∈G,aW s=true)(U:∀y∈R,y.Ok)(Y:R.length<=1000)(s1 J:Slot):∀(ys:List Rw)(k:Nat)(s2:Slot),R.drop k=ys ->
  ∃t2,forL (gSet 2) YI (encN (cw k ys.length)) [.fz (.lst (R.map Rw.v)),s1,s2,J,.ow (G.map .str)]=some (match fstH G k ys with | some j=>.ro [pN 3,pN j] | none=>.nx [.fz (.lst (R.map Rw.v)),s1,t2,J,.ow (G.map .str)])
 |[],k,s2,_=>⟨s2,rfl⟩
 |y::ys,k,s2,hd=>by
  have m:R[k]?=some y:=by
   have:=congrArg (·[0]?) hd;simpa using this
  have st:=hd_step O m (U y (dh m)) Y s1 J;have B:gSet 2 (pN k) [.fz (.lst (R.map Rw.v)),s1,s2,J,.ow (G.map .str)]=some [.fz (.lst (R.map Rw.v)),s1,.fz (pN k),J,.ow (G.map .str)]:=rfl;have D:encN (cw k (y::ys).length)=pN k::encN (cw (k+1) ys.length):=rfl;obtain⟨t2,E⟩:=hd_for O U Y s1 J ys (k+1) (.fz (pN k)) (by
   have:=congrArg List.tail hd;simpa[List.tail_drop] using this)
  refine⟨t2,?_⟩;rw[D];unfold fstH forL;rw[B,aQ,st];by_cases c:hdB G y=true
  .rw[ak c,ak c];rfl
  .rw[ar c,ar c];exact E
def e_heads{R:List Rw}(G:R.length<=1000)(γ:PEnv)(h:getV γ 0=some (.lst (R.map Rw.v))):Yg (iLst (mVar 0)) 1 [] (gSet 0) (truB (bin2 pEq (bin2 pIx (mVar 0) (mN 0)) (mC (.str "guess")))) (bin2 pIx (mVar 0) (mN 1)) γ=some ((GN (R.filterMap Rw.gp)).map .str):=by
 have key:=Xw (g:=gSet 0) (t:=truB (bin2 pEq (bin2 pIx (mVar 0) (mN 0)) (mC (.str "guess")))) (e:=bin2 pIx (mVar 0) (mN 1)) (γ:=[.un]) Rw.v Rw.isG (λz=>.str (hdW z)) R λz hz=>by
  obtain⟨m,B,j⟩:=QeR z;refine⟨[.fz z.v],rfl,?_,λ_=>by cases z<;>rfl⟩;rw[j];walk_at "ev";cases D:z.isG<;>simp only[cD,gQ,if_true]
  .rw[QP QY QC,QcC];rfl
  .rw[QP QC QC];simp[isB_bl]
 have e2:((R.filter Rw.isG).map λz=>PV.str (hdW z))=(GN (R.filterMap Rw.gp)).map .str:=by
  rw[Qmd];unfold GN;rw[bc,bc];rfl
 walk_at "ev";rw[h];walk_at "ev";rw[key,e2]
def runO_1 N m a:runO N 1 m [a]=(m (QK N [a])).bind outO:=ak rfl
def outO_ro xs:outO (.ro xs)=some xs:=rfl
local macro_rules | `(tactic| walk_at "ev")=>`(tactic| try simp (disch:=walk_at "eb") only[pLen_sn,mtK_s,runO_1,outO_ro,EVc,EVl,List.length_range])
def e_due{xs:List Rx}(G:∀x∈xs,x.Ok)(hn:xs.length<=90):Zt [.lst (xs.map Rx.v)]=some (dueL (dueS xs)):=by
 have he:pEq (.lst (xs.map Rx.v)) (.lst [.tup [.str "bad",.str ""]])=some (.bl (isB0 xs)):=by rw[Qmo (okv_rows G) b0_ok,peq_b0]
 delta Zt QcO;unfold dueS;walk_at "ev";rw[he];by_cases c:isB0 xs=true
 .rw[ak c,c];walk_at "ev";rfl
 .rw[ar c,show isB0 xs=false by grind];obtain⟨i1,i2⟩:=QnC G hn .un xs [] [] .un .un (by simp) (by simp) List.nodup_nil (by simp) rfl;walk_at "ev";rw[ev_sDnew];walk_at "ev";rw[show az xs.length=cw ([]:List Rw).length xs.length from ky];cases m:ZC [] 0 xs with
  |inr p =>
   obtain⟨e,j⟩:=p;rw[show []=gD [] TT from rfl,i1 e j m];walk_at "ev";rfl
  |inl R =>
   obtain⟨t1,t2,D,e⟩:=i2 R m;obtain⟨J,E,L,M⟩:=QfG xs [] 0 G (by simp) (by simp) rfl m;have ex:xs=R.map Rx.rw:=by grind
   have H:R.length=xs.length:=by grind
   rw[show []=gD [] TT from rfl,e];have B:=e_heads (by lia) [.fz (.lst (R.map Rw.v)),t1,t2,D,.un] rfl;obtain⟨O,I⟩:=hd_for (GN_ok E) E (by lia) t1 D R 0 t2 rfl;rw[ex,rx_map];revert B;generalize Yg (iLst (mVar 0)) 1 [] (gSet 0) (truB (bin2 pEq (bin2 pIx (mVar 0) (mN 0)) (mC (.str "guess")))) (bin2 pIx (mVar 0) (mN 1))=K;intro B;walk_at "ev";rw[B];walk_at "ev";rw[ky,I];cases fstH (GN (R.filterMap Rw.gp)) 0 R with
   |some j=>walk_at "ev";rfl
   |none=>walk_at "ev";rfl
theorem Qmg{x:Rx}(h:x.Ok):10∉x.line.cps.toList/\x.line.length<=600:=by
 cases x with
 |bad l=>exact⟨h.nl,h.len⟩
 |rw x =>
  obtain⟨_,h2,j⟩:=lineW h;exact⟨h2,aS j (by decide)⟩
def x_text{xs:List Rx}(ok:∀x∈xs,x.Ok)(G:xs.length<=90):(aM nl (xs.map Rx.line)).length<=60000:=by
 rw[Zr];have e3:nl.length=1:=rfl;have j:=QdF (xs.map Rx.line) 600 λs hs=>by
  obtain⟨x,m,rfl⟩:=bw.mp hs;exact(Qmg (ok x m)).2
 rw[aj]at j |-;rw[e3];omega
def pSplit_x(h:∀s∈w::ws,10∉s.cps.toList)(G:(aM nl (w::ws)).length<=60000):QcV (.str (aM nl (w::ws))) [.str "\n"]=some ((w::ws).map .str):=by
 show(if ("\n".length==0)=false/\(aM nl (w::ws)).length+2<=LIM then some ((bh (aM nl (w::ws)) "\n").map PV.str) else none)=_;rw[ak ⟨rfl,Yb (by lia)⟩,show "\n"=nl from rfl,Qjm w ws h]
def rw_line1{x:Rw}(h:x.Wk):1<=x.line.length:=by
 rw[QbA,Zr];cases x with
 |g a b =>
  have:=h.1.l1;show 1<=([("guess":Str),a,"unless",b].map (·.length)).sum+_;grind
 |r H b =>
  have:=h.1.l1;cases b with
  |nil=>show 1<=([H].map (·.length)).sum+_;grind
  |cons y ys=>show 1<=((H::"if"::y::ys).map (·.length)).sum+_;grind
def text_1{xs:List Rx}(ok:∀x∈xs,x.Ok)(h0:xs≠[])(G:isB0 xs=false):1<=(aM nl (xs.map Rx.line)).length:=by
 match xs,h0,G with
 |[.bad l],_,G =>
  show 1<=(aM nl [l]).length;rw[Yc];have G:(l=="")=false:=G;cases j:l.length with
  |zero =>
   have:l = "":=by
    obtain⟨c⟩:=l;have j:c.size=0:=j;have:c = #[]:=iN j;rw[this];decide+kernel
   rw[this]at G;simp at G
  |succ n=>omega
 |[.rw x],_,_ =>
  show 1<=(aM nl [x.line]).length;rw[Yc];exact rw_line1 (ok (.rw x) (by simp))
 |x::y::zs,_,_ =>
  show 1<=(aM nl (x.line::y.line::zs.map Rx.line)).length;have e3:nl.length=1:=rfl;rw[Zl,Qca,Qca,e3];omega
def lnsX(xs:List Rx):List Rx:=if isB0 xs=true then [] else xs
local macro_rules | `(tactic| walk_at "ev")=>`(tactic| try simp (disch:=walk_at "eb") only[pLen_sn,mtK_s,EVc,EVl,List.length_range])
def QlF{xs:List Rx}(ok:∀x∈xs,x.Ok)(G:xs.length<=90):YL [.str (aM nl (xs.map Rx.line))]=some (.lst ((lnsX xs).map λx=>.str x.line)):=by
 have tl:=x_text ok G;have h0:∀(z:List Rx),aM nl (z.map Rx.line) = ""->lnsX z=[]->YL [.str (aM nl (z.map Rx.line))]=some (.lst ((lnsX z).map λx=>.str x.line)):=λz e1 e2=>by
  rw[e1,e2];delta YL Qcr;walk_at "ev";rw[tru_s (by decide+kernel),show(!(("":Str).length==0))=false by decide+kernel];walk_at "ev"
 by_cases c:isB0 xs=true
 .obtain⟨l,rfl,rfl⟩:=isB0_1 c;refine h0 _ ?_ (ak c);show aM nl [""] = "";rw[Yc]
 .by_cases j:xs=[]
  .subst j;exact h0 [] (Qhg nl) rfl
  .have t1:=text_1 ok j (by simpa using c);rw[show lnsX xs=xs from ar c];cases xs with
   |nil=>exact absurd rfl j
   |cons x xs =>
    have es:=pSplit_x (w:=x.line) (ws:=xs.map Rx.line) (λs hs=>by
     obtain⟨y,m,rfl⟩:=bw.mp (show s∈(x::xs).map Rx.line from hs);exact(Qmg (ok y m)).1) tl
    rw[aL]at tl t1 |-;delta YL Qcr;generalize aM nl (x.line::xs.map Rx.line)=T at *;walk_at "ev";rw[tru_s (by omega),show(!(T.length==0))=true by simp;omega];walk_at "ev";rw[es];walk_at "ev";simp
def rexK(ms:List Nat)(γ:PEnv):PV ⊕ PV->Out ⊕ PV
 |.inl r=>.inl (.nx (Qw (flat r) ms γ))
 |.inr p=>.inr p
def ev_rExE ms g ma γ:rExE ms g ma γ=(ma γ).bind λG=>(g G).map (rexK ms γ):=rfl
def rexK_l ms γ r:rexK ms γ (.inl r) = .inl (.nx (Qw (flat r) ms γ)):=rfl
def rexK_r ms γ r:rexK ms γ (.inr r) = .inr r:=rfl
def rretK:PV ⊕ PV->Out ⊕ PV
 |.inl r=>.inl (.rt r)
 |.inr p=>.inr p
def ev_rRet g ma γ:rRet g ma γ=(ma γ).bind λG=>(g G).map rretK:=rfl
def bookX(C:Nat->Addr)(p:PV):Option (Nat×Nat)->PV ⊕ PV
 |some (e,k)=>.inr (excV C e k)
 |none=>.inl p
local macro_rules | `(tactic| walk_at "ev")=>`(tactic| try simp (disch:=walk_at "eb") only[pLen_sn,mtK_s,ev_rSeq,rseqK_nx,rseqK_rt,rseqK_x,ev_rLift,rifK_t,rifK_f,ev_rIf,ev_rRaise,one_1,outR_rt,outR_x,ev_rSet,rsetK_l,rsetK_r,runR_1,ev_rFor,outR_ro,outR_nx,ev_rExE,rexK_l,rexK_r,ev_rRet,EVc,EVl,List.length_range])
def Qik(C:Nat->Addr){xs:List Rx}(J:∀x∈xs,x.Ok)(O:xs.length<=90):∃a b,QV C [.lst (xs.map λx=>.str x.line)]=some (bookX C (.tup [a,b]) (match ZC [] 0 xs with | .inr p=>some p | .inl R=>(fstH (GN (R.filterMap Rw.gp)) 0 R).map λk=>(3,k))):=by
 have e1:=QjL C J O;cases m:ZC [] 0 xs with
 |inr p =>
  obtain⟨e,k⟩:=p;rw[m]at e1;have e1:Zh C [.lst (xs.map λx=>.str x.line)]=some (.inr (excV C e k)):=e1;refine⟨.non,.non,?_⟩;delta QV Yu;walk_at "ev";rw[e1];walk_at "ev";rfl
 |inl R =>
  obtain⟨D,B,E,H⟩:=QfG xs [] 0 J (by simp) (by simp) rfl m;have I:R.length=xs.length:=by
   have:=congrArg di D;simpa using this
  rw[m]at e1;have e1:Zh C [.lst (xs.map λx=>.str x.line)]=some (.inl (.lst (R.map Rw.v))):=e1;have e2:=e_refuse C B (by omega);cases hf:fstH (GN (R.filterMap Rw.gp)) 0 R with
  |some j =>
   rw[hf]at e2;have e2:Qz C [.lst (R.map Rw.v)]=some (.inr (excV C 3 j)):=e2;refine⟨.non,.non,?_⟩;delta QV Yu;walk_at "ev";rw[e1];walk_at "ev";rw[e2];walk_at "ev";rw[hf];rfl
  |none =>
   rw[hf]at e2;have e2:Qz C [.lst (R.map Rw.v)]=some (.inl .non):=e2;have G:=gd_of B E H hf;have e3:=e_names G;have L:=QoM G;refine⟨.tup ((nm (R.filterMap Rw.gp) (R.filterMap Rw.rp)).map .str),bkV (nm (R.filterMap Rw.gp) (R.filterMap Rw.rp)).idxOf (nm (R.filterMap Rw.gp) (R.filterMap Rw.rp)).length (srtG (R.filterMap Rw.gp)) (ordR (GN (R.filterMap Rw.gp)) (R.filterMap Rw.rp)),?_⟩;delta QV Yu;walk_at "ev";rw[e1];walk_at "ev";rw[e2];walk_at "ev";rw[e3];walk_at "ev";rw[L];walk_at "ev";rw[hf];rfl
def e_book(C:Nat->Addr){xs:List Rx}(G:∀x∈xs,x.Ok)(J:xs.length<=90):∃a b,Zi C [.str (aM nl (xs.map Rx.line))]=some (bookX C (.tup [a,b]) (dueS xs)):=by
 have e1:=QlF G J;have m:∀x∈lnsX xs,x.Ok:=λx j=>by
  unfold lnsX at j;split at j
  .cases j
  .exact G x j
 have B:(lnsX xs).length<=90:=by
  unfold lnsX;split
  .exact bz _
  .exact J
 obtain⟨a,b,e2⟩:=Qik C m B;have e3:(match ZC [] 0 (lnsX xs) with | .inr p=>some p | .inl R=>(fstH (GN (R.filterMap Rw.gp)) 0 R).map λk=>(3,k))=dueS xs:=by
  unfold lnsX dueS;by_cases c:isB0 xs=true
  .rw[ak c,ak c];rfl
  .rw[ar c,ar c]
   try (cases ZC [] 0 xs<;>rfl)
 rw[e3]at e2;refine⟨a,b,?_⟩;delta Zi QbQ;walk_at "ev";rw[e1];walk_at "ev";rw[e2];cases dueS xs with
 |some p=>obtain⟨e,k⟩:=p;rfl
 |none=>rfl
def step_lt(h:YF R x = .inr e):e<3:=by
 unfold YF at h;cases hs:x.sem with
 |inr k=>rw[hs]at h;cases h;exact sem_lt hs
 |inl y =>
  grind
theorem rd_lt:∀{zs:List Rx}{R:List Rw}{k e j:Nat},ZC R k zs = .inr (e,j)->e<3/\k<=j/\j<k+zs.length
 |[],R,k,e,j,h=>by cases h
 |x::zs,R,k,e,j,h=>by
  unfold ZC at h;cases hs:YF R x with
  |inr m =>
   rw[hs]at h;cases h;exact⟨step_lt hs,am _,by grind⟩
  |inl B =>
   rw[hs]at h;obtain⟨h1,h2,D⟩:=rd_lt h;grind
theorem fst_lt:∀{ys:List Rw}{k j:Nat},fstH G k ys=some j->j<k+ys.length
 |[],k,j,h=>by cases h
 |y::ys,k,j,h=>by
  unfold fstH at h;by_cases c:hdB G y=true
  .grind
  .rw[ar c]at h;have:=fst_lt h;grind
def due_lt{xs:List Rx}(G:∀x∈xs,x.Ok){e k:Nat}(h:dueS xs=some (e,k)):e<4/\k<xs.length:=by
 unfold dueS at h;by_cases c:isB0 xs=true
 .rw[ak c]at h;cases h
 .rw[ar c]at h;cases m:ZC [] 0 xs with
  |inr p =>
   rw[m]at h;cases h;obtain⟨h1,h2,E⟩:=rd_lt m;omega
  |inl R =>
   rw[m]at h;obtain⟨B,_⟩:=QfG xs [] 0 G (by simp) (by simp) rfl m;have D:R.length=xs.length:=by
    have:=congrArg di B;simpa using this
   have h:(fstH (GN (R.filterMap Rw.gp)) 0 R).map (λk=>(3,k))=some (e,k):=h;cases hf:fstH (GN (R.filterMap Rw.gp)) 0 R with
   |none=>rw[hf]at h;cases h
   |some j =>
    rw[hf]at h;cases h;have:=fst_lt hf;omega
def kin(e:Nat):List Bool:=[e==0,e==1,e==2,e==3,true,true]
local macro_rules | `(tactic| walk_at "ev")=>`(tactic| try simp (disch:=walk_at "eb") only[pLen_sn,ev_mIsX,ev_mFldX,flat_obj,EVc,EVl,List.length_range])
def e_suite{C:Nat->Addr}(h:([C 1,C 2,C 3,C 4,C 5]:List Addr).Nodup){e:Nat}(he:e<4)(J s1 O:Slot)(k:Nat):Yh C [J,s1,.ow [],.fz (pN 0),O,.fz (excV C e k)] =
  some (.nx [J,s1,.ow (bls (kin e)),.fz (pN k),O,.fz (excV C e k)]):=by
 have hi:e=0\/e=1\/e=2\/e=3:=by omega
 unfold Yh excV;have f:=fldX_5 (C:=C) (i:=e+2) (by omega) (by omega) (pN k);have E:∀G j m B D,isX [(C 1,G),(C 2,j),(C 3,m),(C 4,B),(C 5,D)] (.obj (C (e+2)) ["row"] [pN k])=some (.bl (if e=0 then j else if e=1 then m else if e=2 then B else D)):=λG j m B D=>by
  rw[isX_5 h (by omega) (by omega) G j m B D ["row"] [pN k]];rcases hi with rfl | rfl | rfl | rfl<;>rfl
 rcases hi with rfl | rfl | rfl | rfl
 .have E:∀G j m B D,isX [(C 1,G),(C 2,j),(C 3,m),(C 4,B),(C 5,D)] (.obj (C 2) ["row"] [pN k])=some (.bl j):=E;iterate 4 (walk_at "ev";try simp only[E])
  walk_at "ev";rw[f];walk_at "ev";rfl
 .have E:∀G j m B D,isX [(C 1,G),(C 2,j),(C 3,m),(C 4,B),(C 5,D)] (.obj (C 3) ["row"] [pN k])=some (.bl m):=E;iterate 4 (walk_at "ev";try simp only[E])
  walk_at "ev";rw[f];walk_at "ev";rfl
 .have E:∀G j m B D,isX [(C 1,G),(C 2,j),(C 3,m),(C 4,B),(C 5,D)] (.obj (C 4) ["row"] [pN k])=some (.bl B):=E;iterate 4 (walk_at "ev";try simp only[E])
  walk_at "ev";rw[f];walk_at "ev";rfl
 .have E:∀G j m B D,isX [(C 1,G),(C 2,j),(C 3,m),(C 4,B),(C 5,D)] (.obj (C 5) ["row"] [pN k])=some (.bl D):=E;iterate 4 (walk_at "ev";try simp only[E])
  walk_at "ev";rw[f];walk_at "ev";rfl
def kin_at e j γ (h0:mVar 0 γ=some (pN j)) (h1:bin2 pIx (mVar 1) (mN 0) γ=some (pN e)):bin2 pEq (mVar 0) (bin2 pIx (mVar 1) (mN 0)) γ=some (.bl (e==j)):=by
 rw[ev_bin2,h0,h1];show some (PV.bl (j==(e:Int)))=some (.bl (e==j));congr 2;grind
def kin_comp e k:QaQ (gSet 0) YE (bin2 pEq (mVar 0) (bin2 pIx (mVar 1) (mN 0))) [.un,.fz (.lst [pN e,pN k])] (encN (az 4))=some ((az 4).map λj=>PV.bl (e==j)):=by
 exact ZH pN (λj=>PV.bl (e==j)) _ λj m=>⟨[.fz (pN j),.fz (.lst [pN e,pN k])],rfl,kin_at e j _ rfl (by walk_at "ev")⟩
def pLt_n1:pLt (.int (-1)) (pN 0)=some (.bl true):=rfl
def pEq_nil:pEq (.lst []) (.lst [])=some (.bl true):=by rfl
def runV_2:runV N 2 m [a,b]=(m (QK N [a,b])).bind outV:=rfl
local macro_rules | `(tactic| walk_at "ev")=>`(tactic| try simp (disch:=walk_at "eb") only[pLen_sn,ev_mIsX,ev_mFldX,flat_obj,ev_sTry,tryK_l,ev_qSet,qsetK_l,qsetK_r,EVc,EVl,List.length_range])
def e_right{C:Nat->Addr}(J:([C 1,C 2,C 3,C 4,C 5]:List Addr).Nodup){xs:List Rx}(G:∀x∈xs,x.Ok)(O:xs.length<=90):Zo C [.str (aM nl (xs.map Rx.line)),.lst (dueL (dueS xs))]=some (.bl true):=by
 obtain⟨a,b,m⟩:=e_book C G O;generalize aM nl (xs.map Rx.line)=T at *;delta Zo QaZ;cases hd:dueS xs with
 |none =>
  rw[hd]at m;have m:Zi C [.str T]=some (.inl (.tup [a,b])):=m;show runV 6 2 _ [.str T,.lst [.int (-1),pN 0]]=_;walk_at "ev";rw[m];walk_at "ev";rw[pLt_n1];walk_at "ev";walk_at "ev"
  try rfl
 |some p =>
  obtain⟨e,k⟩:=p;obtain⟨he,E⟩:=due_lt G hd;rw[hd]at m;have m:Zi C [.str T]=some (.inr (excV C e k)):=m;show runV 6 2 _ [.str T,.lst [pN e,pN k]]=_;walk_at "ev";rw[m];walk_at "ev";have B:=tryK_r (i:=5) (Cs:=[C 1,C 2,C 3,C 4,C 5]) (sm:=Yh C) (γ1:=[.fz (.str T),.fz (.lst [pN e,pN k]),.ow [],.fz (pN 0),.fz .non,.un]) (p:=excV C e k) (ofCs_5 (i:=e+2) (by lia) (by lia) _ _) (e_suite J he (.fz (.str T)) (.fz (.lst [pN e,pN k])) (.fz .non) k);rw[B];walk_at "ev";have hc:=kin_comp e k;have D:(az 4).map (λj=>PV.bl (e==j))++[.bl true,.bl true]=bls (kin e):=rfl;rw[hc];walk_at "ev";rw[D,pNe_ok (Qnf _) (Qnf _),Qkk];walk_at "ev";grind
def ev_sPop1 mk xs G (γ:PEnv):sPop 1 mk (G::.ow xs::γ)=(mk (G::.ow xs::γ)).bind (popK 1 (G::.ow xs::γ) xs):=rfl
def popK_1{γ:PEnv}{xs:List PV}{j:Nat}(h:j<xs.length)(h2:xs.length<=1000):popK 1 γ xs (pN j)=some (.nx (γ.set 1 (.ow (xs.take j++xs.drop (j+1))))):=by
 show(if 0<=((j:Nat):Int)/\((j:Nat):Int)<xs.length/\xs.length<=1000 then some (Out.nx (γ.set 1 (.ow (xs.take ((j:Nat):Int).toNat++xs.drop (((j:Nat):Int).toNat+1))))) else none)=_;rw[ak ⟨by omega,by omega,h2⟩,cu]
def join_x{xs:List Rx}(ok:∀x∈xs,x.Ok)(G:xs.length<=90):QhZ (.str "\n") [.lst (xs.map λx=>PV.str x.line)]=some (.str (aM nl (xs.map Rx.line))):=by
 have j:=QdF (xs.map Rx.line) 600 λs hs=>by
  obtain⟨x,m,rfl⟩:=bw.mp hs;grind[Qmg]
 rw[aj]at j;have:=Qnb (ys:=xs.map Rx.line) (by
  rw[aj,show("\n":Str).length=1 from rfl];lia)
 rw[bc]at this;exact this
def popX(xs:List Rx)(k:Nat):List Rx:=xs.take k++xs.drop (k+1)
def popX_ok{xs:List Rx}(ok:∀x∈xs,x.Ok)(k:Nat):∀x∈popX xs k,x.Ok:=λx j=>by
 rcases aO.mp j with h | h
 .exact ok x (cj h)
 .exact ok x (cO h)
def popX_len(xs:List Rx)(k:Nat):(popX xs k).length<=xs.length:=by
 unfold popX;rw[aJ,br,bu];omega
local macro_rules | `(tactic| walk_at "ev")=>`(tactic| try simp (disch:=walk_at "eb") only[pLen_sn,mtK_s,ev_sPop1,EVc,EVl,List.length_range])
def law_step{C:Nat->Addr}(U:([C 1,C 2,C 3,C 4,C 5]:List Addr).Nodup){xs:List Rx}(G:∀x∈xs,x.Ok)(J:xs.length<=90)(O s2 Y:Slot):∃t3,Xo C [O,.ow (xs.map Rx.v),s2,Y] =
  some (match dueS xs with | none=>.rt (.bl true) | some (_,k)=>.nx [O,.ow ((popX xs k).map Rx.v),s2,t3]):=by
 have e1:=e_due G J;have e2:=e_right U G J;have e3:=join_x G J;have j:QaQ (gSet 0) YE (Qg QB (Qa (mVar 0) aNil)) [.un] (xs.map Rx.v)=some (xs.map λx=>PV.str x.line):=ZH Rx.v (λx=>PV.str x.line) xs λx m=>⟨[.fz x.v],rfl,by
  walk_at "ev";rw[e_line (G x m)]⟩
 cases hd:dueS xs with
 |none =>
  rw[hd]at e1 e2;have e1:Zt [.lst (xs.map Rx.v)]=some [.int (-1),pN 0]:=e1;have e2:Zo C [.str (aM nl (xs.map Rx.line)),.lst [.int (-1),pN 0]]=some (.bl true):=e2;refine⟨.un,?_⟩;delta Xo;walk_at "ev";rw[e1];walk_at "ev";rw[j];walk_at "ev";rw[e3];walk_at "ev";rw[e2];walk_at "ev";rw[pLt_n1];walk_at "ev"
 |some p =>
  obtain⟨e,k⟩:=p;obtain⟨he,B⟩:=due_lt G hd;rw[hd]at e1 e2;have e1:Zt [.lst (xs.map Rx.v)]=some [pN e,pN k]:=e1;have e2:Zo C [.str (aM nl (xs.map Rx.line)),.lst [pN e,pN k]]=some (.bl true):=e2;refine⟨.ow [pN e,pN k],?_⟩;delta Xo;walk_at "ev";rw[e1];walk_at "ev";rw[j];walk_at "ev";rw[e3];walk_at "ev";rw[e2];walk_at "ev";rw[popK_1 (by rw[aj];exact B) (by rw[aj];omega)];unfold popX;rw[bH,d8,ii];rfl
theorem Qnk{C:Nat->Addr}(O:([C 1,C 2,C 3,C 4,C 5]:List Addr).Nodup)(J:Slot):∀(zs:List PV)(xs:List Rx)(s2 G:Slot),(∀x∈xs,x.Ok)->xs.length<=90->∃o,forL (gSet 2) (Xo C) zs [J,.ow (xs.map Rx.v),s2,G]=some o/\(o = .rt (.bl true)\/∃γ,o = .nx γ)
 |[],xs,s2,G,_,_=>⟨_,rfl,.inr ⟨_,rfl⟩⟩
 |z::zs,xs,s2,G,j,m=>by
  obtain⟨B,e⟩:=law_step O j m J (.fz z) G;have D:gSet 2 z [J,.ow (xs.map Rx.v),s2,G]=some [J,.ow (xs.map Rx.v),.fz z,G]:=rfl;unfold forL;rw[D,aQ,e];cases hd:dueS xs with
  |none=>exact⟨_,rfl,.inl rfl⟩
  |some p =>
   obtain⟨E,k⟩:=p;exact Qnk O J zs (popX xs k) (.fz z) B (popX_ok j k) (aS (popX_len xs k) m)
local macro_rules | `(tactic| walk_at "ev")=>`(tactic| try simp (disch:=walk_at "eb") only[pLen_sn,mtK_s,EVc,EVl,List.length_range])
def e_family(c:Int){size:Nat}(Y:1<=size)(hs:size<=33):∃names:List Str,Zz [.int c,pN size]=some (.lst (names.map .str))/\names.Nodup/\(∀s∈names,Wd s)/\names.length<=size/\0<names.length:=by
 obtain⟨ds,ed,hd⟩:=Qan c (n:=44) (by omega);have m:=Qp hd (i:=40) (by decide);have g39:=Qp hd (i:=41) (by decide);have el:=λk hk=>e_like hd (k:=k) hk;have ep:=λk hk=>e_part hd (k:=k) hk;have hg:∀i,i<44->∃d,(encN ds)[i]?=some (pN d):=λi hi=>⟨_,Qp hd hi⟩
 have la:=len_a;delta Zz QaC;walk_at "ev";rw[ed];walk_at "ev";generalize encN ds=E at *;generalize ds.getD 40 0=D at *;generalize ds.getD 41 0=d39 at *;obtain⟨γ',e,names,I,H,rfl,h1,h2,h3,O⟩:=QcZ (g:=gSet 4) (b:=ZP) (λj γ=>∃(names:List Str)(I H:Slot),γ=[.fz (.int c),.fz (pN size),.fz (.lst E),.ow (names.map .str),I,H]/\names.Nodup/\(∀s∈names,Wd s)/\names.length<=j/\(0<j->0<names.length))
  size [.fz (.int c),.fz (pN size),.fz (.lst E),.ow (([]:List Str).map .str),.un,.un] ⟨[],.un,.un,rfl,.nil,(λs h=>nomatch h),am _,λz=>absurd z (bX _)⟩ (by
   rintro j γ hj ⟨names,I,H,rfl,h1,h2,h3,O⟩;obtain⟨dj,ej⟩:=hg j (by omega);obtain⟨dk,ek⟩:=hg (j+1) (by omega);have hm:dk/5%12<12:=aP _ (by decide);obtain⟨x,ex,xl,G⟩:=QiF dj (size:=1+dk/5%12) (by omega);obtain⟨y,ey,yl1,yl2,Q⟩:=el j (by omega);obtain⟨y3,ey3,y3a,y3b,J⟩:=ep j (by omega);obtain⟨y4,ey4,y4a,y4b,L⟩:=e_near (j+d39);have fin:∀(z:Str),1<=z.length->z.length<=12->Low z->∃B,seqK (sSeq (sIf (truB (bin2 pIn (mVar 5) (mTup (Qa (mC (.str "guess")) (Qa (mC (.str "unless")) (Qa (mC (.str "if")) aNil)))))) (sSet [5] 5 (bin2 pAdd (mVar 5) (mC (.str "a")))) sNx) (sIf (truB (bin2 Qat (mVar 5) (mVar 3))) (sApp [5] 3 (mVar 5)) sNx)) (.nx [.fz (.int c),.fz (pN size),.fz (.lst E),.ow (names.map .str),.fz (pN j),.fz (.str z)])=some (.nx B) /\
     ∃(names:List Str)(I H:Slot),B=[.fz (.int c),.fz (pN size),.fz (.lst E),.ow (names.map .str),I,H]/\names.Nodup/\(∀s∈names,Wd s)/\names.length<=j+1/\0<names.length:=by
    intro z z1 z2 z3;have hw:=safe_wd z1 z2 z3;have mid:∃q,(sIf (truB (bin2 pIn (mVar 5) (mTup (Qa (mC (.str "guess")) (Qa (mC (.str "unless")) (Qa (mC (.str "if")) aNil)))))) (sSet [5] 5 (bin2 pAdd (mVar 5) (mC (.str "a")))) sNx) [.fz (.int c),.fz (pN size),.fz (.lst E),.ow (names.map .str),.fz (pN j),.fz (.str z)]=some (.nx [.fz (.int c),.fz (pN size),.fz (.lst E),.ow (names.map .str),.fz (pN j),.fz (.str (QlX z))])/\q=():=by
     refine⟨(),?_,rfl⟩;unfold QlX;walk_at "ev";rw[pIn_3 (low_asc z3)];walk_at "ev";cases no3.any (·==z) with
     |true=>walk_at "ev"
     |false=>walk_at "ev";simp
    obtain⟨_,mid,_⟩:=mid;rw[seqK_nx,ev_sSeq,mid];walk_at "ev";generalize QlX z=u at *;rw[Qhr (ZD hw.low) (wd_ok h2),QiL];by_cases M:u∈names
    .rw[aE M];walk_at "ev";exact⟨_,rfl,names,_,_,rfl,h1,h2,by omega,jQ M⟩
    .rw[aH M];walk_at "ev";rw[QaV (by rw[aj];omega) rfl];walk_at "ev";refine⟨_,rfl,names++[u],_,_,by rw[bH];rfl,?_,?_,by simp;omega,by simp⟩
     .rw[fN];refine⟨h1,by simp,λa ha b hb e=>?_⟩;rw[aA]at hb;rw[e,hb]at ha;exact M ha
     .intro s hs;rcases aO.mp hs with h | h
      .exact h2 s h
      .rw[aA.mp h];exact hw
   have step:∃B,ZP [.fz (.int c),.fz (pN size),.fz (.lst E),.ow (names.map .str),.fz (pN j),H]=some (.nx B)/\∃(names:List Str)(I H:Slot),B=[.fz (.int c),.fz (pN size),.fz (.lst E),.ow (names.map .str),I,H]/\names.Nodup/\(∀s∈names,Wd s)/\names.length<=j+1/\0<names.length:=by
    delta ZP;walk_at "ev";rw[ej];walk_at "ev";rw[ek];walk_at "ev";rw[ex];walk_at "ev";rw[m];walk_at "ev";cases c1:D%4==1 with
    |true =>
     have T:D%4=1:=by simpa using c1
     rw[ifK_t,ev_sSet];walk_at "ev";rw[ey];walk_at "ev";rw[m];walk_at "ev";rw[T,show((1:Nat)==2)=false from rfl];walk_at "ev";rw[m];walk_at "ev";rw[T,show((1:Nat)==3)=false from rfl];walk_at "ev";exact fin y yl1 yl2 Q
    |false =>
     rw[ifK_f];walk_at "ev";rw[m];walk_at "ev";cases M:D%4==2 with
     |true =>
      have U:D%4=2:=by simpa using M
      walk_at "ev";by_cases c5:j<30
      .rw[aE c5];walk_at "ev";rw[ey3];walk_at "ev";rw[m];walk_at "ev";rw[U,show((2:Nat)==3)=false from rfl];walk_at "ev";exact fin y3 y3a y3b J
      .rw[aH c5];walk_at "ev";rw[m];walk_at "ev";rw[U,show((2:Nat)==3)=false from rfl];walk_at "ev";exact fin x (by omega) (by omega) G
     |false =>
      walk_at "ev";rw[m];walk_at "ev";cases c3:D%4==3 with
      |false =>
       walk_at "ev";exact fin x (by omega) (by omega) G
      |true =>
       walk_at "ev";by_cases c4:j<16
       .rw[aE c4];walk_at "ev";rw[g39];walk_at "ev";rw[ey4];walk_at "ev";exact fin y4 y4a y4b L
       .rw[aH c4];walk_at "ev";exact fin x (by omega) (by omega) G
   obtain⟨B,e1,e2⟩:=step;obtain⟨nm,u4,u5,e2,e3,e4,e5,e6⟩:=e2;exact⟨_,B,rfl,e1,nm,u4,u5,e2,e3,e4,e5,λ_=>e6⟩)
 rw[show([]:List PV)=([]:List Str).map .str from rfl,e];walk_at "ev";exact⟨names,rfl,h1,h2,h3,O Y⟩
def runV_3:runV N 3 m [a,b,c]=(m (QK N [a,b,c])).bind outV:=rfl
def pTuple_l xs:ZK [.lst xs]=some (.tup xs):=rfl
def e_body14{ds:List Nat}(hd:ds.length=8){names:List Str}(U:0<names.length)(hl:names.length<=40)(hw:∀s∈names,Wd s){n:Nat}(hn:n<=6)(S G:Slot) :
  ∃(body:List Str)(J O:Slot),forL (gSet 5) ZA (encN (az n)) [S,.fz (.lst (names.map .str)),G,.fz (.lst (encN ds)),.ow [],.un,.un]=some (.nx [S,.fz (.lst (names.map .str)),G,.fz (.lst (encN ds)),.ow (body.map .str),J,O])/\body.Nodup/\(∀w∈body,w∈names)/\body.length<=n:=by
 have T:∀i,i<8->∃d,(encN ds)[i]?=some (pN d):=λi hi=>⟨_,Qp hd hi⟩
 generalize encN ds=E at *;obtain⟨γ',e,body,J,O,rfl,h1,h2,L⟩:=QcZ (g:=gSet 5) (b:=ZA) (λj γ=>∃(body:List Str)(D B:Slot),γ=[S,.fz (.lst (names.map .str)),G,.fz (.lst E),.ow (body.map .str),D,B]/\body.Nodup/\(∀w∈body,w∈names)/\body.length<=j)
  n [S,.fz (.lst (names.map .str)),G,.fz (.lst E),.ow (([]:List Str).map .str),.un,.un] ⟨[],.un,.un,rfl,.nil,(λs h=>nomatch h),am _⟩ (by
   rintro j γ hj ⟨body,D,B,rfl,h1,h2,L⟩;obtain⟨dj,Y⟩:=T (1+j) (by omega);have hm:dj%names.length<names.length:=aP _ U;have eg:=QcY hm;have em:=QcX hm;have ok:=ZD (hw _ em).low;have H:∀s∈body,aW s=true:=λs hs=>ZD (hw s (h2 s hs)).low;have step:∃m,ZA [S,.fz (.lst (names.map .str)),G,.fz (.lst E),.ow (body.map .str),.fz (pN j),B]=some (.nx m)/\∃(body:List Str)(D B:Slot),m=[S,.fz (.lst (names.map .str)),G,.fz (.lst E),.ow (body.map .str),D,B]/\body.Nodup/\(∀w∈body,w∈names)/\body.length<=j+1:=by
    delta ZA;walk_at "ev";rw[Y];walk_at "ev";rw[eg];walk_at "ev";generalize names.getD (dj%names.length) ""=u at *;rw[Qhr ok H,QiL];by_cases I:u∈body
    .rw[aE I];walk_at "ev";exact⟨_,rfl,body,_,_,rfl,h1,h2,by omega⟩
    .rw[aH I];walk_at "ev";rw[QaV (by rw[aj];omega) rfl];walk_at "ev";refine⟨_,rfl,body++[u],_,_,by rw[bH];rfl,?_,?_,by simp;omega⟩
     .rw[fN];refine⟨h1,by simp,λa M b Q e=>?_⟩;rw[aA]at Q;rw[e,Q]at M;exact I M
     .intro s hs;rcases aO.mp hs with h | h
      .exact h2 s h
      .rw[aA.mp h];exact em
   obtain⟨m,e1,e2⟩:=step;exact⟨_,m,rfl,e1,e2⟩)
 exact⟨body,J,O,e,h1,h2,L⟩
def e_rule14 c {names:List Str} (O:g<names.length) (G:names.length<=40) (hw:∀s∈names,Wd s):∃y:Rw,Yt [.int c,.lst (names.map .str),pN g]=some y.v/\y.Ok:=by
 obtain⟨ds,m,hd⟩:=Qan c (n:=8) (by lia);have B:=Qp hd (i:=0) (by decide);have D:=Qp hd (i:=7) (by decide);obtain⟨body,M,Q,H,I,J,T⟩:=e_body14 hd (by grind) G hw (n:=ds.getD 0 0%7) (by lia) (.fz (.int c)) (.fz (pN g));generalize ds.getD 0 0=U at *;generalize ds.getD 7 0=j at *;generalize encN ds=E at *;have Y:j%(names.length-g)<names.length-g:=aP _ (by lia);have hi:g+j%(names.length-g)<names.length:=by lia
 have L:=QcY hi;have em:=QcX hi;refine⟨.r (names.getD (g+j%(names.length-g)) "") body,?_,hw _ em,λs hs=>hw s (J s hs),I,by lia⟩;delta Yt QaY;walk_at "ev";rw[m];walk_at "ev";rw[B];walk_at "ev";rw[H];walk_at "ev";rw[D];walk_at "ev";rw[L];walk_at "ev";rfl
structure Gr (R:List Rw) (n:Nat):Prop where
 ok:∀y∈R,y.Ok
 len:R.length<=n
def e_cells4(ns:List Int)(hn:ns.length<=63)(A B J:Slot){O:List Int}(h0:O.length<=42):∃(L:List Int)(G:Slot),L.length<=84 /\
  forL (gSet 5) Zc (encN (az 42)) [.fz (.lst (ns.map .int)),A,B,.ow (O.map .int),J,.un,.un,.un,.un,.un,.un]=some (.nx [.fz (.lst (ns.map .int)),A,B,.ow (L.map .int),J,G,.un,.un,.un,.un,.un]):=by
 have m:=Qdb ns 2;obtain⟨z,D,hz⟩:=pow_ex;generalize ns.getD 2 0=c at *;generalize ns.map PV.int=S at *;obtain⟨γ',e,L,G,rfl,h1⟩:=QcZ (g:=gSet 5) (b:=Zc) (λj γ=>∃(L:List Int)(G:Slot),γ=[.fz (.lst S),A,B,.ow (L.map .int),J,G,.un,.un,.un,.un,.un]/\L.length<=42+j)
  42 [.fz (.lst S),A,B,.ow (O.map .int),J,.un,.un,.un,.un,.un,.un] ⟨O,.un,rfl,by omega⟩ (by
   rintro j γ E ⟨L,G,rfl,h1⟩;refine⟨_,_,rfl,?_,L++[(((c%(z:Int)).toNat+7919*j*j:Nat):Int)],.fz (pN j),rfl,by simp;omega⟩;delta Zc;walk_at "ev";rw[m];walk_at "ev";rw[D];walk_at "ev";rw[show L.map PV.int++[pN ((c%(z:Int)).toNat+7919*j*j)]=(L++[(((c%(z:Int)).toNat+7919*j*j:Nat):Int)]).map PV.int by rw[bH];rfl];walk_at "ev")
 exact⟨L,G,by omega,e⟩
def gr_step{names:List Str}(U:names.length<=40)(hw:∀s∈names,Wd s)(g size:Nat)(hs:size<=42)(c:Int){R:List Rw}(G:Gr R 42)(S C J Y:Slot):∃O t8,Gr O 42/\Zb [S,.fz (.lst (names.map .str)),.fz (pN g),C,.fz (pN size),J,.ow (R.map Rw.v),.fz (.int c),Y,.un,.un]=some (.nx [S,.fz (.lst (names.map .str)),.fz (pN g),C,.fz (pN size),J,.ow (O.map Rw.v),.fz (.int c),t8,.un,.un]):=by
 have D:=G.ok;have I:=G.len;delta Zb;walk_at "ev";by_cases E:R.length<size
 .rw[aE E];walk_at "ev";by_cases m:g<names.length
  .rw[aE m];obtain⟨y,L,H⟩:=e_rule14 c m U hw;have j:=Qmh y;walk_at "ev";rw[L];walk_at "ev";rw[j];walk_at "ev";rw[Xw Rw.v (λz=>z.simB y) Rw.v R λz hz=>⟨[.fz z.v,.fz y.v],rfl,by
    walk_at "ev";rw[e_twin (D z hz) H];walk_at "ev",λ_=>rfl⟩]
   have hf:(R.filter λz=>z.simB y).length<=R.length:=dN _ _;walk_at "ev";by_cases B:(R.filter λz=>z.simB y).length=0
   .rw[show((R.filter λz=>z.simB y).length==0)=true by simp[B]];walk_at "ev";rw[QaV (by rw[aj];omega) (by rw[j];rfl),j];refine⟨R++[y],.fz y.v,⟨λz hz=>?_,by simp;omega⟩,?_⟩
    .rcases aO.mp hz with w | w
     .exact D z w
     .rw[aA.mp w];exact H
    .walk_at "ev";simp
   .rw[show((R.filter λz=>z.simB y).length==0)=false by simp at B |-;exact B];walk_at "ev";exact⟨R,_,G,rfl⟩
  .rw[aH m];walk_at "ev";exact⟨R,_,G,rfl⟩
 .rw[aH E];walk_at "ev";exact⟨R,_,G,rfl⟩
theorem gr_for{names:List Str}(hl:names.length<=40)(hw:∀s∈names,Wd s) g size (hs:size<=42) S C O:∀(L:List Int) R U J,Gr R 42->∃R' t7 Y,Gr R' 42/\forL (gSet 7) Zb (L.map .int) [S,.fz (.lst (names.map .str)),.fz (pN g),C,.fz (pN size),O,.ow (R.map Rw.v),U,J,.un,.un]=some (.nx [S,.fz (.lst (names.map .str)),.fz (pN g),C,.fz (pN size),O,.ow (R'.map Rw.v),t7,Y,.un,.un])
 |[],R,U,J,G=>⟨R,U,J,G,rfl⟩
 |c::L,R,U,J,G=>by
  obtain⟨j,Y,m,e⟩:=gr_step hl hw g size hs c G S C O J;obtain⟨R2,B,D,E,e2⟩:=gr_for hl hw g size hs S C O L j (.fz (.int c)) Y m;refine⟨R2,B,D,E,?_⟩;rw[aL];unfold forL;rw[show gSet 7 (.int c) [S,.fz (.lst (names.map .str)),.fz (pN g),C,.fz (pN size),O,.ow (R.map Rw.v),U,J,.un,.un]=some [S,.fz (.lst (names.map .str)),.fz (pN g),C,.fz (pN size),O,.ow (R.map Rw.v),.fz (.int c),J,.un,.un] from rfl,aQ,e];exact e2
def runO_3:runO N 3 m [G,J,O]=(m (QK N [G,J,O])).bind outO:=rfl
def cut_345(ns:List Int):(cutP ns (some ((3:Nat))) (some ((45:Nat)))).length<=42:=by
 rw[cutP_nn,bu,br];omega
local macro_rules | `(tactic| walk_at "ev")=>`(tactic| try simp (disch:=walk_at "eb") only[pLen_sn,mtK_s,runO_3,outO_ro,EVc,EVl,List.length_range])
def gr_ins{names:List Str}{ds:List Nat}(hd:ds.length=20)(hl:names.length<=40)(hw:∀s∈names,Wd s){g:Nat}(hg:g<=names.length)(h9:g<=9){R:List Rw}(G:Gr R 42)(S Y C Z U s7 s8 J:Slot) :
  ∃R' t5 O,Gr R' 51/\forL (gSet 5) Za (encN (az g)) [S,.fz (.lst (names.map .str)),Y,C,Z,U,.ow (R.map Rw.v),s7,s8,.fz (.lst (encN ds)),J]=some (.nx [S,.fz (.lst (names.map .str)),Y,C,Z,t5,.ow (R'.map Rw.v),s7,s8,.fz (.lst (encN ds)),O]):=by
 have hD:∀i,i<20->(encN ds)[i]?=some (pN (ds.getD i 0)):=λi hi=>Qp hd hi;have hG:∀j,j<names.length->(names.map PV.str)[j]?=some (.str (names.getD j "")):=λj H=>QcY H;have hM:∀j,j<names.length->Wd (names.getD j ""):=λj H=>hw _ (QcX H);have I:(names.map PV.str).length=names.length:=aj _;generalize encN ds=E at *;generalize names.map PV.str=B at *;obtain⟨γ',e,R',t5,O,rfl,h1,h2⟩:=QcZ (g:=gSet 5) (b:=Za) (λj γ=>∃(R:List Rw)(U J:Slot),γ=[S,.fz (.lst B),Y,C,Z,U,.ow (R.map Rw.v),s7,s8,.fz (.lst E),J]/\(∀y∈R,y.Ok)/\R.length<=42+j)
  g [S,.fz (.lst B),Y,C,Z,U,.ow (R.map Rw.v),s7,s8,.fz (.lst E),J] ⟨R,U,J,rfl,G.ok,G.len⟩ (by
   rintro j γ H ⟨R,U,J,rfl,h1,h2⟩;have L:=hD j (by omega);have M:=hD (9+j) (by omega);have Q:=hG j (by omega);have m:0<names.length:=by omega
   have T:=hG (ds.getD j 0%names.length) (aP _ m);have w1:=hM j (by omega);have w2:=hM (ds.getD j 0%names.length) (aP _ m);generalize names.getD (ds.getD j 0%names.length) ""=D at *;generalize names.getD j ""=nmj at *;generalize ds.getD j 0=dj at *;generalize ds.getD (9+j) 0=d at *;have hm:d%(R.length+1)<R.length+1:=aP _ (by omega);generalize hq:d%(R.length+1)=q at *;refine⟨_,_,rfl,?_,R.take q++gRow (nmj,D)::R.drop q,.fz (pN j),.fz (.str D),rfl,λy hy=>?_,?_⟩
   .delta Za;walk_at "ev";rw[L];walk_at "ev";rw[I];walk_at "ev";rw[T];walk_at "ev";rw[QiD (xs:=R.map Rw.v) rfl];walk_at "ev";rw[M];walk_at "ev";rw[Q];walk_at "ev";rw[hq,Qmr (by rw[aj];omega) (by rw[aj];omega) rfl];walk_at "ev";rw[bH,aL,d8,ii];rfl
   .rcases aO.mp hy with h | h
    .exact h1 y (cj h)
    .rcases ao.mp h with rfl | h
     .exact⟨w1,w2⟩
     .exact h1 y (cO h)
   .rw[aJ,aK,br,bu];omega)
 exact⟨R',t5,O,⟨h1,by omega⟩,e⟩
def Qjd:MSt:=(sSeq (Qac (iRg1 (mN 42)) (gSet 5) Zc)
 (sSeq (QE [] 6 (mLim aNil))
 (sSeq (sFor [3] (iLst (mVar 3)) (gSet 7) Zb)
 (sSeq (sSet [0] 9 (Qg Qv (Qa (bin2 pDiv (Qg Qn (Qa (mVar 0) (Qa (mN 1) aNil))) (mN 7)) (Qa (mN 20) aNil))))
 (sSeq (Qac (iRg1 (mVar 2)) (gSet 5) Za)
 (Qbl 6))))))
def good_cut:XR=(sSeq (QE [0] 3 (sl3 pCut (mVar 0) (mSo (mN 3)) (mSo (mN 45))))
 (sSeq (sSet [3] 4 (Qg pLen (Qa (mVar 3) aNil)))
 (sSeq (sIf (truB (bin2 pEq (bin2 pMod (Qg Qn (Qa (mVar 0) (Qa (mN 0) aNil))) (mN 3)) (mN 1))) (sSet [0] 4 (bin2 pAdd (mN 38) (bin2 pMod (bin2 pDiv (Qg Qn (Qa (mVar 0) (Qa (mN 0) aNil))) (mN 3)) (mN 5)))) sNx) Qjd))):=rfl
def e_gtail(ns:List Int)(hn:ns.length<=63){names:List Str}(G:names.length<=40)(hw:∀s∈names,Wd s)(O:g<=names.length)(U:g<=9){J:List Int}(h0:J.length<=42)(hs:size<=42):∃R,Gr R 51 /\
  Qjd [.fz (.lst (ns.map .int)),.fz (.lst (names.map .str)),.fz (pN g),.ow (J.map .int),.fz (pN size),.un,.un,.un,.un,.un,.un]=some (.ro (R.map Rw.v)):=by
 have m:=Qdb ns 1;obtain⟨L,j,Q,e1⟩:=e_cells4 ns hn (.fz (.lst (names.map .str))) (.fz (pN g)) (.fz (pN size)) h0;obtain⟨T,B,D,E,e2⟩:=gr_for G hw g size hs (.fz (.lst (ns.map .int))) (.fz (.lst (L.map .int))) j L [] .un .un ⟨by simp,by simp⟩;obtain⟨ds,H,hd⟩:=Qan (ns.getD 1 0/((7:Nat))) (n:=20) (by lia);obtain⟨R2,Y,I,M,e3⟩:=gr_ins hd G hw O U E (.fz (.lst (ns.map .int))) (.fz (pN g)) (.fz (.lst (L.map .int))) (.fz (pN size)) j B D .un;refine⟨R2,M,?_⟩;unfold Qjd;walk_at "ev";rw[e1];walk_at "ev";rw[show []=[].map Rw.v from rfl,e2];walk_at "ev";rw[m];walk_at "ev";rw[H];walk_at "ev";rw[e3];walk_at "ev"
def e_good(ns:List Int)(hn:ns.length<=63){names:List Str}(J:names.length<=40)(hw:∀s∈names,Wd s)(O:g<=names.length)(U:g<=9):∃R,Gr R 51/\QQ [.lst (ns.map .int),.lst (names.map .str),pN g]=some (R.map Rw.v):=by
 have m:=Qdb ns 0;have j:=cut_345 ns;have B:=λsize (hs:size<=42)=>e_gtail ns hn J hw O U j hs;delta QQ;rw[good_cut];generalize Qjd=T at *;walk_at "ev";generalize cutP ns (some (3)) (some (45))=L at *
 try rw[D]
 walk_at "ev";rw[m];walk_at "ev";generalize ns.getD 0 0=c at *;cases hc:(c%(3)).toNat==1 with
 |false =>
  obtain⟨R,G,e⟩:=B L.length (by lia);refine⟨R,G,?_⟩;walk_at "ev";rw[e];walk_at "ev"
 |true =>
  obtain⟨R,G,e⟩:=B (38+(c/((3:Nat))%((5:Nat))).toNat) (by lia);refine⟨R,G,?_⟩;walk_at "ev";rw[m];walk_at "ev";rw[e];walk_at "ev"
end DH
namespace DH
open PySem PySem.Spec PyProof.Rows L2 L2.PM PySem.Builtin PySem.Builtin.Str
def sem_no{ws:List Str}{w:Str}(h:w∈ws)(h1:wdB w=false)(h2:w∉no3):semT ws = .inr 0:=by
 have m:gB ws=false:=by
  cases hc:gB ws with
  |false=>rfl
  |true =>
   exfalso;unfold gB at hc;split at hc
   .rename_i a b c d;rw[aD,aD,aD]at hc;obtain⟨⟨e1,e2⟩,e3,j⟩:=hc;simp only[ao,dZ,iC]at h;rcases h with rfl | rfl | rfl | rfl
    .exact h2 (by rw[eV e1];exact gs_n)
    .rw[h1]at e3;cases e3
    .exact h2 (by rw[eV e2];exact un_n)
    .rw[h1]at j;cases j
   .cases hc
 have B:rB ws=false:=by
  cases hc:rB ws with
  |false=>rfl
  |true =>
   exfalso;unfold rB at hc;split at hc
   .simp only[ao,dZ,iC]at h;subst h;rw[h1]at hc;cases hc
   .cases hc
   .rename_i a b body _;rw[aD,aV]at hc;rcases ao.mp h with rfl | h
    .have:=hc.2 w (by simp);rw[h1]at this;cases this
    .rcases ao.mp h with rfl | h
     .exact h2 (by rw[eV hc.1];exact if_n)
     .have:=hc.2 w (by simp[h]);rw[h1]at this;cases this
   .cases hc
 unfold semT;rw[ar (by rw[m];decide),ak B]
theorem Qiu(c d:Nat)(l:List Nat):splL c (d::l)=if d=c then []::splL c l else match splL c l with
  |h::t=>(d::h)::t
  |[]=>[[d]]:=rfl
theorem Qdj{c:Nat}:∀(a b:List Nat),splL c (a++c::b)=splL c a++splL c b
 |[],b=>by
  show splL c (c::b)=[[]]++splL c b;rw[Qiu,ak rfl];rfl
 |x::a,b=>by
  have m:=Qdj (c:=c) a b;obtain⟨h1,t1,e1⟩:=QbE c a;generalize splL c b=B at *;show splL c (x::(a++c::b))=splL c (x::a)++B;rw[Qiu,Qiu,m];by_cases j:x=c
  .rw[ak j,ak j];rfl
  .rw[ar j,ar j,e1];rfl
def Qix(h:[]∈splL 32 x.cps.toList):semT (bh x sp) = .inr 0:=by
 refine sem_no (w := "") ?_ (by decide+kernel) (by decide+kernel);rw[QfV];exact bw.mpr ⟨[],h,by decide+kernel⟩
def sem_sign{x:Str}{c:Nat}(h:c∈x.cps.toList)(h1:c≠32)(h2:¬(97<=c/\c<=122)):semT (bh x sp) = .inr 0:=by
 have B:c∈(aM sp (bh x sp)).cps.toList:=by
  rw[show aM sp (bh x sp)=x from(im sp _).trans (StrLaws.join_split x sp)];exact h
 rcases QbB sp _ B with z|⟨w,hw,z⟩
 .rw[QhW]at z;exact absurd (by simpa using z) h1
 .have hn:∀{s:Str},Low s->c∈s.cps.toList->False:=λD hc=>h2 (D c hc);refine sem_no hw ?_ λE=>?_
  .cases m:wdB w with
   |false=>rfl
   |true =>
    unfold wdB lowB at m;simp only[aD]at m;have:=aV.mp m.2.2.2 c z;simp at this;exact absurd this h2
  .have j:∀s∈no3,(s.cps.toList.all λc=>decide (97<=c)&&decide (c<=122))=true:=by decide+kernel
   have:=aV.mp (j w E) c z;simp at this;exact absurd this h2
def bads:List Str:=[""," ","guess","a if","a if ","a b"," a","a ","a  if b","if","unless a","guess a","A","guess a unless","guess a unless b c","a if b if c","a if b c d e f g 1","aaaaaaaaaaaaa"]
def bads_no:(bads.all λs => !gB (bh s sp) && !rB (bh s sp))=true:=by decide+kernel
def spc(s:Str):Nat:=s.cps.toList.count 32
def bads_ok:(bads.all λs=>(s.cps.toList.all λc=>decide (c<128)&&decide (c≠10))&&decide (s.length<=20)&&decide (spc s<=10))=true:=by decide+kernel
structure Ln (n:Nat) (l:Str):Prop where
 asc:Asc l
 nl:10∉l.cps.toList
 len:l.length<=150+100*n
 sp:spc l<12*2^n
def Ln.up(h:Ln n l)(hm:n<=m):Ln m l:=⟨h.asc,h.nl,by have:=h.len;lia,aG h.sp (Nat.mul_le_mul_left _ (ku (by decide) hm))⟩
def Ln.bad(h:Ln n l)(hn:n<=4)(hs:semT (bh l DH.sp) = .inr 0):BadL l:=⟨h.asc,h.nl,by have:=h.len;lia,hs⟩
def QnJ{s:Str}(h:s∈bads):Ln 1 s/\semT (bh s sp) = .inr 0:=by
 have h1:=aV.mp bads_no s h;have h2:=aV.mp bads_ok s h;simp only[aD,lC,c9]at h1 h2;obtain⟨⟨j,m⟩,B⟩:=h2;refine⟨⟨λc hc=>?_,λz=>?_,by omega,by show spc s<12*2;omega⟩,?_⟩
 .have:=aV.mp j c hc;simp at this;exact this.1
 .have:=aV.mp j 10 z;simp at this
 .unfold semT;rw[ar (by rw[h1.1];decide),ak h1.2]
end DH
namespace DH
open PySem PySem.Spec PyProof.Rows L2 L2.PM PySem.Builtin PySem.Builtin.Str PySem.StrLaws
theorem Yy(a b:Str):(a++b).cps.toList=a.cps.toList++b.cps.toList:=by
 show(a.cps++b.cps).toList=_;grind
def ZW(x:Str):x.cps.toList.length=x.length:=by simp[b9]
def Qoz{a:Nat} u n (h:n<=a):strSliceIndices (some a) u 1 n=strSliceIndices (some n) u 1 n:=by
 unfold strSliceIndices;grind
def s_lo x {a:Nat} (h:a<=x.length):(bT x none (some a)).cps.toList=x.cps.toList.take a:=by
 rw[Qdm x (bz _) h none _ (Qms _ _),fH,Nat.sub_zero]
def s_hi(x:Str)(a:Nat):(bT x (some (a:Int)) none).cps.toList=x.cps.toList.drop a:=by
 have j:=ZW x;by_cases h:a<=x.length
 .rw[Qdm x (a:=a) (b:=x.length) h (am _) _ none (Qmt _ _),cU (by rw[bu];omega)]
 .rw[Qdm x (a:=x.length) (b:=x.length) (am _) (am _) _ none ((Qoz none x.length (bS (Nat.lt_of_not_le h))).trans (Qmt _ _)),Nat.sub_self,List.take_zero,dH (by omega)]
def Qph(h:Ln n x)(hc:∀c∈L.cps.toList,c∈x.cps.toList\/(c<128/\c≠10))(G:L.length<=x.length+100)(hs:spc L<=2*spc x+1):Ln (n+1) L:=by
 refine⟨λc h1=>(hc c h1).elim (h.asc c) (·.1),λz=>(hc 10 z).elim h.nl λw=>w.2 rfl,?_,?_⟩
 .have:=h.len;lia
 .have:=h.sp;grind
def l_sign{n:Nat}{x:Str}(h:Ln n x){c a:Nat}(J:a<=x.length)(h1:c<128)(h2:c≠10)(G:c≠32)(O:¬(97<=c/\c<=122)):let L:=bT x none (some (a:Int))++⟨#[c]⟩++bT x (some ((a+1:Nat):Int)) none
  Ln (n+1) L/\semT (bh L sp) = .inr 0:=by
 intro L;have j:=ZW x;have e:L.cps.toList=x.cps.toList.take a++[c]++x.cps.toList.drop (a+1):=by
  show(bT x none (some (a:Int))++⟨#[c]⟩++bT x (some ((a+1:Nat):Int)) none).cps.toList=_;rw[Yy,Yy,s_lo x J,s_hi]
 refine⟨Qph h (λd hd=>?_) ?_ ?_,sem_sign (c:=c) (by rw[e];simp) G O⟩
 .rw[e,aO,aO,aA]at hd;rcases hd with(hd | rfl) | hd
  .exact .inl (cj hd)
  .exact .inr ⟨h1,h2⟩
  .exact .inl (cO hd)
 .rw[<-ZW,e,aJ,aJ,br,bu,gL];omega
 .have k1:(x.cps.toList.take a).count 32<=x.cps.toList.count 32:=(iG _ _).count_le _;have k2:(x.cps.toList.drop (a+1)).count 32<=x.cps.toList.count 32:=(lB _ _).count_le _;unfold spc;rw[e,eB,eB,show [c].count 32=0 by simp[G]];omega
theorem QfF:sp.cps.toList=[32]:=by rw[QhW]
def Qnm{n:Nat}{x:Str}(h:Ln n x):Ln (n+1) (sp++x)/\semT (bh (sp++x) sp) = .inr 0:=by
 have e:(sp++x).cps.toList=32::x.cps.toList:=by rw[Yy,QfF];rfl
 have j:=ZW x;refine⟨Qph h (λd hd=>?_) ?_ ?_,Qix ?_⟩
 .rw[e]at hd;rcases ao.mp hd with rfl | hd
  .exact .inr ⟨by decide,by decide⟩
  .exact .inl hd
 .rw[<-ZW,e,aK];omega
 .unfold spc;rw[e,List.count_cons];simp;omega
 .rw[e];have:=Qdj (c:=32) [] x.cps.toList;rw[i0]at this;rw[this];simp[splL]
def l_back{n:Nat}{x:Str}(h:Ln n x):Ln (n+1) (x++sp)/\semT (bh (x++sp) sp) = .inr 0:=by
 have e:(x++sp).cps.toList=x.cps.toList++32::[]:=by rw[Yy,QfF]
 have j:=ZW x;refine⟨Qph h (λd hd=>?_) ?_ ?_,Qix ?_⟩
 .rw[e,aO,aA]at hd;rcases hd with hd | rfl
  .exact .inl hd
  .exact .inr ⟨by decide,by decide⟩
 .rw[<-ZW,e,aJ,gL];omega
 .unfold spc;rw[e,eB];simp;omega
 .rw[e,Qdj];simp[splL]
theorem Qks(s sub:Str)(hi n:Nat)(hn:1<=n):∀(l:List Nat)(free:Nat),(∀i∈l,free<=i)->(∃i∈l,i+sub.length<=hi/\subAt s sub i=true)->(forIn l ((#[]:Array Nat),free) (occBody s sub hi n)).run.fst ≠ #[]
 |[],free,_,⟨i,h,_⟩=>nomatch h
 |a::l,free,hf,⟨i,h,h2⟩=>by
  rw[gG];unfold occBody;split
  .exact occ_grows s sub hi n l _ (by simp)
  .rename_i hc;refine Qks s sub hi n hn l free (λj m=>hf j (aw _ m)) ?_;rcases ao.mp h with rfl | h
   .exact absurd ⟨⟨⟨by simp;omega,hf i (by simp)⟩,h2.1⟩,h2.2⟩ hc
   .exact⟨i,h,h2⟩
def occ_one{x:Str}{n:Nat}(hn:1<=n)(h:32∈x.cps.toList):1<=(occurrences x sp 0 x.length n).length:=by
 obtain⟨i,hi⟩:=j4.mp h;have:=(subAt_one x 32 i).mpr hi;rw[<-QhW]at this;have j:=Qks x sp x.length n hn (cw 0 (x.length+1-0)) 0 (λ_ _=>bz _) ⟨i,by simp[List.mem_range'];omega,this⟩;rw[occ_eq];cases m:((forIn (cw 0 (x.length+1-0)) ((#[]:Array Nat),0) (occBody x sp x.length n)).run.fst).toList with
 |nil =>
  exact absurd (Array.toList_eq_nil_iff.mp m) j
 |cons a l=>simp
theorem QmX:∀{l:List Nat}{a:Nat},c∉l->posL c l a=[]
 |[],_,_=>rfl
 |d::l,a,h=>by
  show(if d=c then a::posL c l (a+1) else posL c l (a+1))=[];rw[ar (λe=>h (by simp[e])),QmX (λz=>h (by simp[z]))]
def count_in(h:0<(occurrences x sp 0 x.length (x.length+1)).length):32∈x.cps.toList:=by
 refine c0 λhn=>?_;have e:=QdJ x 32 (x.length+1) 0 #[] 0 (by lia) (by simp) (am _);rw[occ_eq,Nat.sub_zero,QhW,e,fH,QmX hn]at h;simp at h
theorem Qdk s:∀ws,spc (aM s ws)=(ws.map spc).sum+(ws.length-1)*spc s
 |[]=>by rw[Qhg,show spc ""=0 by decide+kernel];simp
 |[w]=>by rw[Yc];simp
 |w::v::ws=>by
  have j:=Qdk s (v::ws);rw[Zl];have e:spc (w++s++aM s (v::ws))=spc w+spc s+spc (aM s (v::ws)):=by
   unfold spc;rw[Yy,Yy,eB,eB]
  rw[e,j];simp;rw[Nat.succ_mul];lia
theorem Qkz{s:Str}{c:Nat}:∀{ws:List Str}{w:Str},w∈ws->c∈w.cps.toList->c∈(aM s ws).cps.toList
 |[v],w,h,hc=>by
  rw[Yc,<-aA.mp h];exact hc
 |v::u::ws,w,h,hc=>by
  rw[Zl,Yy,Yy,aO,aO];rcases ao.mp h with rfl | h
  .exact .inl (.inl hc)
  .exact .inr (Qkz h hc)
def sp2:Str := "  "
theorem QfX:sp2.cps.toList=[32,32]:=by decide+kernel
def l_dbl{n:Nat}(hn:n<=3){x:Str}(h:Ln n x){k:Nat}(G:1<=k)(h0:32∈x.cps.toList):Ln (n+1) (QcD x sp sp2 k)/\semT (bh (QcD x sp sp2 k) sp) = .inr 0:=by
 have ho:=occ_one G h0;have B:sp.length=1:=rfl;have D:sp2.length=2:=rfl;have he:(occurrences x sp 0 x.length k).isEmpty=false:=by
  grind
 unfold QcD;rw[he,ar cC];have ex:aM sp (cY x (occurrences x sp 0 x.length k) sp.length)=x:=glued_between_self x sp k;have j:(cY x (occurrences x sp 0 x.length k) sp.length).length=(occurrences x sp 0 x.length k).length+1:=fL _ _ _;show Ln (n+1) (aM sp2 (cY x (occurrences x sp 0 x.length k) sp.length))/\semT (bh (aM sp2 (cY x (occurrences x sp 0 x.length k) sp.length)) sp) = .inr 0;generalize cY x (occurrences x sp 0 x.length k) sp.length=ps at *;generalize (occurrences x sp 0 x.length k).length=m at *;have H:=Qdk sp ps;have I:=Qdk sp2 ps;have s1:spc sp=1:=by grind[spc,QfF]
 have s2:spc sp2=2:=by grind[spc,QfX]
 rw[ex,s1,j,dG,Nat.mul_one]at H;rw[s2,j,dG]at I;have t1:=Zr sp ps;have t2:=Zr sp2 ps;rw[ex,B,j,dG,Nat.mul_one]at t1;rw[D,j,dG]at t2;have J:=h.sp;have E:2^n<=2^3:=ku (by decide) hn;refine⟨Qph h (λd hd=>?_) (by lia) (by lia),Qix ?_⟩
 .rcases QbB sp2 ps hd with z|⟨w,hw,z⟩
  all_goals grind[QfX,Qkz]
 .match ps,j with
  |p::q::r,_ =>
   grind[Zl,Yy,QfX,splL,Qdj]
  |[p],j=>grind
  |[],j=>simp at j
end DH
namespace DH
open PySem PySem.Spec PyProof.Rows L2 L2.PM PySem.Builtin PySem.Builtin.Str
def pIx_str{z:Str}(G:z.length<=9000){k:Nat}(J:k<z.length):∃c,pIx (.str z) (pN k)=some (.str ⟨#[c]⟩)/\c∈z.cps.toList:=by
 have m:z.cps.toList.length=z.length:=by simp[b9]
 have j:k<z.cps.toList.length:=by omega
 refine⟨z.cps.toList[k],?_,bZ j⟩;show(if z.length<=LIM then (atI z.cps.toList (k:Int)).map (λc=>PV.str ⟨#[c]⟩) else none)=_;rw[ak (Yb (by omega)),QnL (aU j)];rfl
def odd8:Str := "A1-_'.Z,"
def odd8_ok:(odd8.cps.toList.all λc=>decide (c<128)&&decide (c≠10)&&decide (c≠32)&&decide (¬(97<=c/\c<=122)))=true/\odd8.length=8:=by decide+kernel
def odd_get(G:k<8):∃c,pIx (.str "A1-_'.Z,") (pN k)=some (.str ⟨#[c]⟩)/\c<128/\c≠10/\c≠32/\¬(97<=c/\c<=122):=by
 obtain⟨h1,h2⟩:=odd8_ok;obtain⟨c,e,hc⟩:=pIx_str (z:=odd8) (by lia) (k:=k) (by lia);have:=aV.mp h1 c hc;simp only[aD,c9]at this;exact⟨c,e,this.1.1.1,this.1.1.2,this.1.2,this.2⟩
def pCount_s x:Qcj (.str x) [.str " "]=some (pN (occurrences x sp 0 x.length (x.length+1)).length):=rfl
def ev_mRep i a y z m3 γ:mRep i a y z m3 γ=(mVar i γ).bind (repS a y z m3 γ):=rfl
def repS_s a y z m3 γ x:repS a y z m3 γ (.str x)=(m3 γ).bind (repK a x y z):=rfl
def repK_n{x:Str}{k:Nat}(J:k<=100000)(G:x.length<=1000000):repK "bad" x " " "  " (pN k)=some (.tup [.str "bad",.str (QcD x sp sp2 k)]):=by
 show(if 0<=(k:Int)/\(k:Int)<=100000/\x.length<=1000000/\("  ":Str).length<=10/\((" ":Str).length==0)=false/\((" ":Str)=="  ")=false then some (PV.tup [.str "bad",.str (QcD x " " "  " (k:Int).toNat)]) else none)=_;rw[ak ⟨by omega,by omega,G,by decide+kernel,by decide+kernel,by decide+kernel⟩,cu];rfl
def bads_two:[PV.str "",.str " ",.str "guess",.str "a if",.str "a if ",.str "a b",.str " a",.str "a ",.str "a  if b",.str "if",.str "unless a",.str "guess a",.str "A"]++[PV.str "guess a unless",.str "guess a unless b c",.str "a if b if c",.str "a if b c d e f g 1",.str "aaaaaaaaaaaaa"]=bads.map .str:=rfl
def bads_get(h:i<18):∃s,(bads.map PV.str)[i]?=some (.str s)/\s∈bads:=by
 have j:bads.length=18:=rfl;simp_all
def pCutS_lo(h:x.length<=9000):QcE (.str x) none (some a)=some (.str (bT x none (some a))):=ak (Yb (by lia))
def pCutS_hi(h:x.length<=9000):QcE (.str x) (some a) none=some (.str (bT x (some a) none)):=ak (Yb (by omega))
def QnW(x:Str){a:Nat}(h:a<=x.length):(bT x none (some (a:Int))).length<=x.length/\(bT x (some ((a+1:Nat):Int)) none).length<=x.length:=by
 have h1:=congrArg di (s_lo x h);have h2:=congrArg di (s_hi x (a+1));rw[ZW,br,ZW]at h1;rw[ZW,bu,ZW]at h2;omega
def Qpp:MSt:=(QE [] 2 (mLim (Qa (mC (.str "")) (Qa (mC (.str " ")) (Qa (mC (.str "guess")) (Qa (mC (.str "a if")) (Qa (mC (.str "a if ")) (Qa (mC (.str "a b")) (Qa (mC (.str " a")) (Qa (mC (.str "a ")) (Qa (mC (.str "a  if b")) (Qa (mC (.str "if")) (Qa (mC (.str "unless a")) (Qa (mC (.str "guess a")) (Qa (mC (.str "A")) aNil)))))))))))))))
def bad_2:MSt:=(QE [2] 2 (bin2 pCat (mVar 2) (mLst (mLim (Qa (mC (.str "guess a unless")) (Qa (mC (.str "guess a unless b c")) (Qa (mC (.str "a if b if c")) (Qa (mC (.str "a if b c d e f g 1")) (Qa (mC (.str "aaaaaaaaaaaaa")) aNil)))))))))
local macro_rules | `(tactic| walk_at "eb")=>`(tactic| first | assumption | omega | (simp only[signs_len,encN_len,List.length_map,List.length_range,List.length_cons,List.length_nil,List.length_append];omega) | decide)
local macro_rules | `(tactic| walk_at "ev")=>`(tactic| try simp (disch:=walk_at "eb") only[pLen_sn,mtK_s,EVc,EVl,List.length_range])
def e_bad1(G s1 s2 J O:Slot):Qpp [G,s1,s2,J,O]=some (.nx [G,s1,.ow [PV.str "",.str " ",.str "guess",.str "a if",.str "a if ",.str "a b",.str " a",.str "a ",.str "a  if b",.str "if",.str "unless a",.str "guess a",.str "A"],J,O]):=by
 unfold Qpp;walk_at "ev"
def e_bad2 G s1 J O:bad_2 [G,s1,.ow [PV.str "",.str " ",.str "guess",.str "a if",.str "a if ",.str "a b",.str " a",.str "a ",.str "a  if b",.str "if",.str "unless a",.str "guess a",.str "A"],J,O]=some (.nx [G,s1,.ow (bads.map .str),J,O]):=by
 walk_at "ev"
 try rw[<-bads_two]
 try rfl
def Qpo:MSt:=(sSeq (sSet [0,3] 4 (bin2 pMod (bin2 pIx (mVar 0) (mN 13)) (bin2 pAdd (Qg pLen (Qa (mVar 3) aNil)) (mN 1))))
 (sSeq (sIf (truB (bin2 pEq (bin2 pMod (bin2 pIx (mVar 0) (mN 14)) (mN 2)) (mN 0))) (sRet (mTup (Qa (mC (.str "bad")) (Qa (bin2 pAdd (bin2 pAdd (sl3 QcE (mVar 3) mNo (mSo (mVar 4))) (bin2 pIx (mC (.str "A1-_'.Z,")) (bin2 pMod (bin2 pIx (mVar 0) (mN 15)) (mN 8)))) (sl3 QcE (mVar 3) (mSo (bin2 pAdd (mVar 4) (mN 1))) mNo)) aNil)))) sNx)
 (sSeq (sIf (truB (bin2 pEq (bin2 pMod (bin2 pIx (mVar 0) (mN 15)) (mN 3)) (mN 0))) (sRet (mTup (Qa (mC (.str "bad")) (Qa (bin2 pAdd (mC (.str " ")) (mVar 3)) aNil)))) sNx)
 (sSeq (sIf (bAnd (truB (bin2 pEq (bin2 pMod (bin2 pIx (mVar 0) (mN 15)) (mN 3)) (mN 1))) (truB (bin2 pGt (mMt "str" Qcj (mVar 3) (Qa (mC (.str " ")) aNil)) (mN 0)))) (sRet (mRep 3 "bad" " " "  " (bin2 pAdd (mN 1) (bin2 pMod (bin2 pIx (mVar 0) (mN 13)) (mMt "str" Qcj (mVar 3) (Qa (mC (.str " ")) aNil)))))) sNx)
 (sRet (mTup (Qa (mC (.str "bad")) (Qa (bin2 pAdd (mVar 3) (mC (.str " "))) aNil))))))))
def bad_cut:Qbb=(sSeq Qpp (sSeq bad_2
 (sSeq (sIf (truB (bin2 pEq (bin2 pMod (bin2 pIx (mVar 0) (mN 12)) (mN 2)) (mN 0))) (sRet (mTup (Qa (mC (.str "bad")) (Qa (bin2 pIx (mVar 2) (bin2 pMod (bin2 pIx (mVar 0) (mN 11)) (mN 18))) aNil)))) sNx)
 (sSeq (sSet [1] 3 (Qg QB (Qa (mVar 1) aNil))) Qpo)))):=rfl
def pAdd_sp x (h:x.length<=9000):pAdd (.str " ") (.str x)=some (.str (sp++x)):=pAdd_s (by rw[show(" ":Str).length=1 from rfl];lia)
def pAdd_ps x (h:x.length<=9000):pAdd (.str x) (.str " ")=some (.str (x++sp)):=pAdd_s (by rw[show(" ":Str).length=1 from rfl];lia)
local macro_rules | `(tactic| walk_at "ev")=>`(tactic| try simp (disch:=walk_at "eb") only[pLen_sn,mtK_s,pCount_s,ev_mRep,repS_s,EVc,EVl,List.length_range])
def e_badt{E:List PV}{G U J:Nat}(Y:E[13]?=some (pN G))(g14:E[14]?=some (pN U))(O:E[15]?=some (pN J))(hE:E.length<=100){n:Nat}(hn:n<=3){x:Str}(h:Ln n x)(s1 s2:Slot) :
  ∃l,Qpo [.fz (.lst E),s1,s2,.fz (.str x),.un]=some (.rt (.tup [.str "bad",.str l]))/\Ln (n+1) l/\semT (bh l sp) = .inr 0:=by
 have hx:=h.len;have I:G%(x.length+1)<x.length+1:=aP _ (by lia);have B:J%8<8:=aP _ (by decide);obtain⟨c,L,M,Q,T,c4⟩:=odd_get B;unfold Qpo;walk_at "ev";rw[Y];walk_at "ev";generalize hq:G%(x.length+1)=a at *;rw[g14];walk_at "ev";cases h14:U%2==0 with
 |true =>
  obtain⟨l1,l2⟩:=QnW x (a:=a) (by lia);have hs:=l_sign h (c:=c) (a:=a) (by lia) M Q T c4;have a1:pAdd (.str (bT x none (some (a:Int)))) (.str ⟨#[c]⟩)=some (.str (bT x none (some (a:Int))++⟨#[c]⟩)):=pAdd_s (by rw[show(⟨#[c]⟩:Str).length=1 from rfl];lia);have a2:pAdd (.str (bT x none (some (a:Int))++⟨#[c]⟩)) (.str (bT x (some ((a+1:Nat):Int)) none))=some (.str (bT x none (some (a:Int))++⟨#[c]⟩++bT x (some ((a+1:Nat):Int)) none)):=pAdd_s (by rw[QfP,show(⟨#[c]⟩:Str).length=1 from rfl];lia);refine⟨_,?_,hs.1,hs.2⟩;walk_at "ev"
  try rw[pCutS_lo (by lia)]
  walk_at "ev";rw[O];walk_at "ev";rw[L];walk_at "ev"
  try rw[a1]
  walk_at "ev"
  try rw[pCutS_hi (by lia)]
  walk_at "ev"
  try rw[a2]
  walk_at "ev"
 |false =>
  walk_at "ev";rw[O];walk_at "ev";cases h15:J%3==0 with
  |true =>
   refine⟨_,?_,(Qnm h).1,(Qnm h).2⟩;walk_at "ev"
   try rw[pAdd_sp x (by lia)]
   walk_at "ev"
   try rfl
  |false =>
   have back:∃l,(sRet (mTup (Qa (mC (.str "bad")) (Qa (bin2 pAdd (mVar 3) (mC (.str " "))) aNil)))) [.fz (.lst E),s1,s2,.fz (.str x),.fz (pN a)]=some (.rt (.tup [.str "bad",.str l]))/\Ln (n+1) l/\semT (bh l sp) = .inr 0:=by
    refine⟨_,?_,(l_back h).1,(l_back h).2⟩;walk_at "ev"
    try rw[pAdd_ps x (by lia)]
    walk_at "ev"
    try rfl
   obtain⟨D,H,j,m⟩:=back;walk_at "ev";rw[O];walk_at "ev";cases h16:J%3==1 with
   |false =>
    walk_at "ev";exact⟨D,H,j,m⟩
   |true =>
    walk_at "ev";have hol:=il x sp 0 x.length (x.length+1);by_cases hc:0<(occurrences x sp 0 x.length (x.length+1)).length
    .have hd:=l_dbl hn h (k:=1+G%(occurrences x sp 0 x.length (x.length+1)).length) (by lia) (count_in hc);have hm:G%(occurrences x sp 0 x.length (x.length+1)).length<(occurrences x sp 0 x.length (x.length+1)).length:=aP _ hc;rw[aE hc];refine⟨_,?_,hd.1,hd.2⟩;walk_at "ev";rw[Y];walk_at "ev";rw[repK_n (by lia) (by lia)];walk_at "ev"
    .rw[aH hc];walk_at "ev";exact⟨D,H,j,m⟩
def runV_2':runV N 2 m [a,b]=(m (QK N [a,b])).bind outV:=rfl
local macro_rules | `(tactic| walk_at "ev")=>`(tactic| try simp (disch:=walk_at "eb") only[pLen_sn,mtK_s,runV_2',EVc,EVl,List.length_range])
def e_bad{ds:List Nat}(hd:ds.length=16){x:Rx}(J:x.Ok){n:Nat}(hn:n<=3)(h:Ln n x.line):∃l,QH [.lst (encN ds),x.v]=some (Rx.bad l).v/\BadL l/\Ln (n+1) l:=by
 have j:=Qp hd (i:=11) (by decide);have m:=Qp hd (i:=12) (by decide);have B:=Qp hd (i:=13) (by decide);have D:=Qp hd (i:=14) (by decide);have G:=Qp hd (i:=15) (by decide);have I:(encN ds).length<=100:=by rw[encN_len];omega
 generalize encN ds=E at *;obtain⟨l,L,H,M⟩:=e_badt B D G I hn h (.fz x.v) (.ow (bads.map .str));have el:=e_line J;delta QH;rw[bad_cut];have e1:=e_bad1 (.fz (.lst E)) (.fz x.v) .un .un .un;have e2:=e_bad2 (.fz (.lst E)) (.fz x.v) .un .un;generalize Qpp=O at *;generalize bad_2=Q at *;generalize Qpo=Y at *;walk_at "ev";rw[e1];walk_at "ev";rw[e2];walk_at "ev";rw[m];walk_at "ev";cases hc:ds.getD 12 0%2==0 with
 |true =>
  have hm:ds.getD 11 0%18<18:=aP _ (by decide);obtain⟨s,es,hs⟩:=bads_get hm;obtain⟨l1,l2⟩:=QnJ hs;have T:(bads.map PV.str).length=18:=rfl;generalize bads.map PV.str=U at *;refine⟨s,?_,l1.bad (by decide) l2,l1.up (by omega)⟩;walk_at "ev";rw[j];walk_at "ev";rw[es];walk_at "ev";rfl
 |false =>
  refine⟨l,?_,H.bad (by omega) M,H⟩;generalize bads.map PV.str=U at *;walk_at "ev";rw[el];walk_at "ev";rw[L];walk_at "ev";rfl
end DH
namespace DH
open PySem PySem.Spec PyProof.Rows L2 L2.PM
def pCutT2_t xs lo hi:Qci (.tup xs) lo hi=some (.tup (cutP xs lo hi)):=rfl
def pCatT2_t(h:a.length+b.length<=100000):QgR (.tup a) (.tup b)=some (.tup (a++b)):=ak (Yb h)
def pRvT_t xs:pRvT (.tup xs)=some (.tup xs.reverse):=rfl
def Qmk{b:List Str}{i:Nat}(h:i<b.length):∃s,(b.map PV.str)[i]?=some (.str s)/\s∈b :=
 ⟨b[i],by rw[a0,aU h];rfl,bZ _⟩
def QmM{b:List Str}{i:Nat}{w s:Str}(h:s∈b.set i w):s∈b\/s=w:=jl h
local macro_rules | `(tactic| walk_at "eb")=>`(tactic| first | assumption | omega | (simp only[signs_len,encN_len,List.length_map,List.length_range,List.length_cons,List.length_nil,List.length_append];omega) | decide)
local macro_rules | `(tactic| walk_at "ev")=>`(tactic| try simp (disch:=walk_at "eb") only[pLen_sn,mtK_s,runV_2',pCutT2_t,pRvT_t,EVc,EVl,List.length_range])
def e_mixed{ds:List Nat}(hd:ds.length=16)(b:List Str)(U:b.length<=9):∃G:List Str,Yv [.tup (b.map .str),.lst (encN ds)]=some (.tup (G.map .str))/\G.length<=9/\∀s∈G,s∈b:=by
 have D:=Qp hd (i:=10) (by decide);have H:=Qp hd (i:=12) (by decide);have M:=Qp hd (i:=13) (by decide);have hE:(encN ds).length<=100:=by rw[encN_len];omega
 generalize ds.getD 10 0=m at *;generalize ds.getD 12 0=I at *;generalize ds.getD 13 0=J at *;generalize encN ds=E at *;have first:∃G:List Str,(sSeq (sSet [1,0] 2 (bin2 pMod (bin2 pIx (mVar 1) (mN 10)) (bin2 pAdd (Qg pLen (Qa (mVar 0) aNil)) (mN 1)))) (sRet (bin2 QgR (sl3 Qci (mVar 0) (mSo (mVar 2)) mNo) (sl3 Qci (mVar 0) mNo (mSo (mVar 2)))))) [.fz (.tup (b.map .str)),.fz (.lst E),.un,.un,.un,.un]=some (.rt (.tup (G.map .str)))/\G.length<=9/\∀s∈G,s∈b:=by
  have hm:m%(b.length+1)<b.length+1:=aP _ (by omega);generalize hq:m%(b.length+1)=a at *;refine⟨b.drop a++b.take a,?_,by rw[aJ,bu,br];omega,λs hs=>?_⟩
  .walk_at "ev";rw[D];walk_at "ev";rw[hq];walk_at "ev";rw[QiH,QdO];rw[pCatT2_t (by rw[aj,aj,bu,br];omega),<-bH];walk_at "ev"
  .rcases aO.mp hs with h | h
   .exact cO h
   .exact cj h
 delta Yv QcL;generalize hF:(sSeq (sSet [1,0] 2 (bin2 pMod (bin2 pIx (mVar 1) (mN 10)) (bin2 pAdd (Qg pLen (Qa (mVar 0) aNil)) (mN 1)))) (sRet (bin2 QgR (sl3 Qci (mVar 0) (mSo (mVar 2)) mNo) (sl3 Qci (mVar 0) mNo (mSo (mVar 2))))))=F1 at *;obtain⟨T,e1,h1,h2⟩:=first
 walk_at "ev";rw[H];walk_at "ev";cases c1:I%3==0 with
 |true =>
  refine⟨T,?_,h1,h2⟩;walk_at "ev";rw[e1];walk_at "ev"
 |false =>
  walk_at "ev";by_cases Y:b.length<2
  .refine⟨T,?_,h1,h2⟩;rw[aE Y];walk_at "ev";rw[e1];walk_at "ev"
  .rw[aH Y];walk_at "ev";rw[H];walk_at "ev";cases c3:I%3==1 with
   |true =>
    refine⟨b.reverse,?_,by rw[h8];exact U,λs hs=>List.mem_reverse.mp hs⟩;walk_at "ev";rw[<-List.map_reverse]
   |false =>
    have hp:0<b.length:=by omega
    have m1:m%b.length<b.length:=aP _ hp;have m2:J%b.length<b.length:=aP _ hp;generalize O:m%b.length=i at *;generalize Q:J%b.length=j at *;obtain⟨u,eu,hu⟩:=Qmk m1;obtain⟨v,ev,hv⟩:=Qmk m2;refine⟨(b.set i v).set j u,?_,by rw[dM,dM];exact U,λs hs=>?_⟩
    .have L:(b.map PV.str).length=b.length:=aj _;rw[List.map_set,List.map_set];walk_at "ev";rw[D];walk_at "ev";generalize b.map PV.str=B at *
     try rw[L]
     rw[O];walk_at "ev";rw[M];walk_at "ev"
     try rw[L]
     walk_at "ev";rw[Q];walk_at "ev";rw[ev];walk_at "ev"
     try rw[sixK_n (by omega) rfl]
     walk_at "ev";rw[eu];walk_at "ev"
     try rw[sixK_n (by rw[dM];omega) rfl]
     walk_at "ev"
    .rcases QmM hs with h | h
     .rcases QmM h with h | h
      .exact h
      .rw[h];exact hv
     .rw[h];exact hu
def low_spc(h:Low s):spc s=0:=by
 grind[spc,low_sp]
def ln_rw{x:Rw}(h:x.Wk):Ln 0 x.line:=by
 obtain⟨h1,h2,B⟩:=lineW h;refine⟨h1,h2,by omega,?_⟩;rw[QbA,Qdk];have D:=QmV h;have j:(x.pts.map spc).sum=0:=by
  have:∀ws:List Str,(∀s∈ws,spc s=0)->(ws.map spc).sum=0:=λws=>by
   induction ws with
   |nil=>intro _;rfl
   |cons w ws m =>
    intro h;rw[aL,jw,h w (by simp),m λs hs=>h s (by simp[hs])]
  exact this _ λs hs=>low_spc (QfI h s hs).1
 have s1:spc sp=1:=by unfold spc;rw[QfF];rfl
 rw[j,s1];omega
def rx_hard(x:Rx):hard x.v=true:=by
 have hs:∀b:List Str,hardL (b.map .str)=true:=λb=>by
  induction b with
  |nil=>simp[hardL]
  |cons s b j=>rw[aL];simp only[hardL,hard,j];rfl
 cases x with
 |bad l=>simp[Rx.v,hard,hardL]
 | rw x=>cases x with
  |g a b=>simp[Rx.v,Rw.v,hard,hardL]
  |r h b=>simp[Rx.v,Rw.v,hard,hardL,hs b]
def bad0:BadL ""/\Ln 1 "":=by
 obtain⟨h1,h2⟩:=QnJ (s := "") (by decide+kernel);exact⟨h1.bad (by decide) h2,h1⟩
def bodyL{names:List Str}(G:0<names.length){f:Nat->Nat}(n:Nat):∀s∈(az n).map (λk=>names.getD (f k%names.length) ""),s∈names:=λs hs=>by
 obtain⟨k,_,rfl⟩:=bw.mp hs;exact QcX (aP _ G)
def QeV:PEnv->Option (List PV):=Yg (iRg1 (bin2 pAdd (mN 7) (bin2 pMod (bin2 pIx (mVar 4) (mN 4)) (mN 3)))) 1 [2,4] (gSet 0) YE (bin2 pIx (mVar 1) (bin2 pMod (bin2 pAdd (bin2 pIx (mVar 2) (mN 2)) (bin2 pMul (mVar 0) (bin2 pAdd (mN 1) (bin2 pMod (bin2 pIx (mVar 2) (mN 3)) (mN 3))))) (Qg pLen (Qa (mVar 1) aNil))))
local macro_rules | `(tactic| walk_at "ev")=>`(tactic| try simp (disch:=walk_at "eb") only[pLen_sn,mtK_s,EVc,EVl,List.length_range])
def e_fbody{E:List PV}(hE:E.length<=100){O J G:Nat}(Y:E[2]?=some (pN O))(g3:E[3]?=some (pN J))(g4:E[4]?=some (pN G)){names:List Str}(U:0<names.length)(hl:names.length<=40)(s0 s1 s3 s5 s6 s7 s8:Slot) :
  ∃b:List Str,QeV [s0,s1,.fz (.lst (names.map .str)),s3,.fz (.lst E),s5,s6,s7,s8]=some (b.map .str)/\7<=b.length/\b.length<=9/\∀s∈b,s∈names:=by
 have hm:G%3<3:=aP _ (by decide);have m:J%3<3:=aP _ (by decide);refine⟨(az (7+G%3)).map (λk=>names.getD ((O+k*(1+J%3))%names.length) ""),?_,by rw[aj,aq];omega,by rw[aj,aq];omega,bodyL U _⟩;unfold QeV;walk_at "ev";rw[g4];walk_at "ev";generalize D:(bin2 pIx (mVar 1) (bin2 pMod (bin2 pAdd (bin2 pIx (mVar 2) (mN 2)) (bin2 pMul (mVar 0) (bin2 pAdd (mN 1) (bin2 pMod (bin2 pIx (mVar 2) (mN 3)) (mN 3))))) (Qg pLen (Qa (mVar 1) aNil))))=K;have key:QaQ (gSet 0) YE K [.un,.fz (.lst (names.map .str)),.fz (.lst E)] (encN (az (7+G%3)))=some ((az (7+G%3)).map λk=>PV.str (names.getD ((O+k*(1+J%3))%names.length) "")):=by
  rw[show encN (az (7+G%3))=(az (7+G%3)).map pN from rfl];refine ZH pN (λk=>PV.str (names.getD ((O+k*(1+J%3))%names.length) "")) _ λk H=>⟨[.fz (pN k),.fz (.lst (names.map .str)),.fz (.lst E)],rfl,?_⟩
  have I:=dC.mp H;have L:=QcY (names:=names) (i:=(O+k*(1+J%3))%names.length) (aP _ U);have j:(names.map PV.str).length=names.length:=aj _;generalize names.map PV.str=B at *;rw[<-D];walk_at "ev";rw[Y];walk_at "ev";rw[g3];walk_at "ev";rw[j];walk_at "ev";rw[L]
 rw[key,bc];rfl
def Xb:MSt:=(sSeq (sIf (truB (bin2 pEq (mVar 5) (mN 1))) (sRet (mTup (Qa (mC (.str "rule")) (Qa (mVar 8) (Qa (Qg ZK (Qa (mVar 7) aNil)) aNil))))) sNx)
 (sSeq (sIf (truB (bin2 pEq (mVar 5) (mN 2))) (sSeq (QE [7,4] 7 (sl3 pCut (mVar 7) mNo (mSo (bin2 pAdd (mN 1) (bin2 pMod (bin2 pIx (mVar 4) (mN 6)) (mN 5))))))
 (sSeq (sIns [7,4,7] 7 (bin2 pMod (bin2 pIx (mVar 4) (mN 7)) (bin2 pAdd (Qg pLen (Qa (mVar 7) aNil)) (mN 1))) (bin2 pIx (mVar 7) (bin2 pMod (bin2 pIx (mVar 4) (mN 8)) (Qg pLen (Qa (mVar 7) aNil)))))
 (sRet (mTup (Qa (mC (.str "rule")) (Qa (mVar 8) (Qa (Qg ZK (Qa (mVar 7) aNil)) aNil))))))) sNx)
 (sSeq (sIf (bAnd (truB (bin2 pEq (mVar 5) (mN 3))) (truB (bin2 pEq (bin2 pIx (mVar 6) (mN 0)) (mC (.str "guess"))))) (sRet (mTup (Qa (mC (.str "guess")) (Qa (bin2 pIx (mVar 6) (mN 1)) (Qa (bin2 pIx (mVar 2) (bin2 pMod (bin2 pIx (mVar 4) (mN 9)) (Qg pLen (Qa (mVar 2) aNil)))) aNil))))) sNx)
 (sSeq (sIf (bAnd (truB (bin2 pEq (mVar 5) (mN 4))) (truB (bin2 pEq (bin2 pIx (mVar 6) (mN 0)) (mC (.str "rule"))))) (sRet (mTup (Qa (mC (.str "rule")) (Qa (bin2 pIx (mVar 6) (mN 1)) (Qa (Qg Yv (Qa (bin2 pIx (mVar 6) (mN 2)) (Qa (mVar 4) aNil))) aNil))))) sNx)
 (sSeq (sIf (bAnd (truB (bin2 pEq (mVar 5) (mN 5))) (truB (bin2 pGt (mVar 3) (mN 0)))) (sRet (mTup (Qa (mC (.str "rule")) (Qa (bin2 pIx (mVar 2) (bin2 pMod (bin2 pIx (mVar 4) (mN 11)) (mVar 3))) (Qa (Qg ZK (Qa (mLst (sl3 pCut (mVar 7) mNo (mSo (bin2 pMod (bin2 pIx (mVar 4) (mN 6)) (mN 7))))) aNil)) aNil))))) sNx)
 (sRet (Qg QH (Qa (mVar 4) (Qa (mVar 6) aNil)))))))))
def f_6:MSt:=(sSet [2,4,2] 8 (bin2 pIx (mVar 2) (bin2 pMod (bin2 pIx (mVar 4) (mN 5)) (Qg pLen (Qa (mVar 2) aNil)))))
def QlD:QcN=(sSeq (sSet [0] 4 (Qg Qv (Qa (mVar 0) (Qa (mN 16) aNil))))
 (sSeq (sSet [4] 5 (bin2 pMod (bin2 pIx (mVar 4) (mN 0)) (mN 6)))
 (sSeq (sSet [] 6 (mTup (Qa (mC (.str "bad")) (Qa (mC (.str "")) aNil))))
 (sSeq (sIf (truB (bin2 pGt (Qg pLen (Qa (mVar 1) aNil)) (mN 0))) (sSet [1,4,1] 6 (bin2 pIx (mVar 1) (bin2 pMod (bin2 pIx (mVar 4) (mN 1)) (Qg pLen (Qa (mVar 1) aNil))))) sNx)
 (sSeq (QE [4,2,4] 7 QeV) (sSeq f_6 Xb)))))):=rfl
structure Ft (n:Nat) (x:Rx):Prop where
 ok:x.Ok
 ln:Ln n x.line
def rxv_r h b:(Rx.rw (.r h b)).v = .tup [.str "rule",.str h,.tup (b.map .str)]:=rfl
def QjI(h:x.Wk):Ft n (.rw x):=⟨h,(ln_rw h).up (bz _)⟩
def q11:(1==1)=true:=rfl
def q22:(2==2)=true:=rfl
def q33:(3==3)=true:=rfl
def q44:(4==4)=true:=rfl
def q55:(5==5)=true:=rfl
def q01:(0==1)=false:=rfl
def q02:(0==2)=false:=rfl
def q03:(0==3)=false:=rfl
def q04:(0==4)=false:=rfl
def q05:(0==5)=false:=rfl
def q21:(2==1)=false:=rfl
def q23:(2==3)=false:=rfl
def q24:(2==4)=false:=rfl
def q25:(2==5)=false:=rfl
def q31:(3==1)=false:=rfl
def q32:(3==2)=false:=rfl
def q34:(3==4)=false:=rfl
def q35:(3==5)=false:=rfl
def q41:(4==1)=false:=rfl
def q42:(4==2)=false:=rfl
def q43:(4==3)=false:=rfl
def q45:(4==5)=false:=rfl
def q51:(5==1)=false:=rfl
def q52:(5==2)=false:=rfl
def q53:(5==3)=false:=rfl
def q54:(5==4)=false:=rfl
local macro_rules | `(tactic| walk_at "ev")=>`(tactic| try simp (disch:=walk_at "eb") only[pLen_sn,mtK_s,q11,q22,q33,q44,q55,q01,q02,q03,q04,q05,q21,q23,q24,q25,q31,q32,q34,q35,q41,q42,q43,q45,q51,q52,q53,q54,EVc,EVl,List.length_range])
def k_one{names:List Str}(hw:∀s∈names,Wd s)(J:head∈names){b:List Str}(O:∀s∈b,s∈names)(U:b.length<=9) Y s1 s2 s3 s4 s6 n :
  ∃G,Ft n G/\Xb [Y,s1,s2,s3,s4,.fz (pN 1),s6,.ow (b.map .str),.fz (.str head)]=some (.rt G.v):=by
 refine⟨.rw (.r head b),QjI ⟨hw _ J,λs hs=>hw s (O s hs),U⟩,?_⟩;walk_at "ev";rfl
def k_two{E:List PV}{G J O:Nat}(Y:E[6]?=some (pN G))(g7:E[7]?=some (pN J))(g8:E[8]?=some (pN O)){names:List Str}(hw:∀s∈names,Wd s){head:Str}(hh:head∈names){b:List Str}(hb:∀s∈b,s∈names)(h7:7<=b.length)(hl:b.length<=9)(s0 s1 s2 s3 s6:Slot)(n:Nat) :
  ∃U,Ft n U/\Xb [s0,s1,s2,s3,.fz (.lst E),.fz (pN 2),s6,.ow (b.map .str),.fz (.str head)]=some (.rt U.v):=by
 have hm:G%5<5:=aP _ (by decide);have H:(b.take (1+G%5)).length=1+G%5:=by rw[br];omega
 have m:∀s∈b.take (1+G%5),s∈names:=λs hs=>hb s (cj hs);have em:(b.map PV.str).take (1+G%5)=(b.take (1+G%5)).map .str:=(d8).symm;generalize I:b.take (1+G%5)=c at *;have T:J%(c.length+1)<c.length+1:=aP _ (by omega);have L:O%c.length<c.length:=aP _ (by omega);obtain⟨u,M,Q⟩:=Qmk L;generalize B:J%(c.length+1)=i at *;generalize D:O%c.length=j at *;refine⟨.rw (.r head (c.take i++u::c.drop i)),QjI ⟨hw _ hh,λs hs=>?_,?_⟩,?_⟩
 .rcases aO.mp hs with h | h
  .exact hw s (m s (cj h))
  .rcases ao.mp h with rfl | h
   .exact hw _ (m _ Q)
   .exact hw s (m s (cO h))
 .rw[aJ,aK,br,bu];omega
 .unfold Xb;walk_at "ev";rw[Y];walk_at "ev";rw[QdO]
  try rw[em]
  try rw[I]
  walk_at "ev"
  try rw[Qef]
  walk_at "ev";rw[QiD (xs:=c.map PV.str) rfl];walk_at "ev";rw[g7];walk_at "ev";rw[B];rw[g8];walk_at "ev";rw[D];walk_at "ev";rw[M];walk_at "ev";rw[Qmr (by rw[aj];omega) (by rw[aj];omega) rfl];walk_at "ev";rw[<-d8,<-ii];rw[rxv_r,bH,aL]
def k_bad{E:List PV}{x:Rx}{n:Nat}(G:∃l,QH [.lst E,x.v]=some (Rx.bad l).v/\BadL l/\Ln (n+1) l)(γ:PEnv)(O:getV γ 4=some (.lst E))(U:getV γ 6=some x.v):∃J,Ft (n+1) J/\(sRet (Qg QH (Qa (mVar 4) (Qa (mVar 6) aNil)))) γ=some (.rt J.v):=by
 obtain⟨l,e,h1,h2⟩:=G;refine⟨.bad l,⟨h1,h2⟩,?_⟩;walk_at "ev";rw[O];walk_at "ev";rw[U];walk_at "ev";rw[e];walk_at "ev"
def k_old{ds:List Nat}(hd:ds.length=16){names:List Str}(J:0<names.length)(hl:names.length<=40)(hw:∀s∈names,Wd s){x:Rx}{n:Nat}(hn:n<=2)(F:Ft n x){g:Nat}(hg:g<=names.length){b:List Str}(O:∀s∈b,s∈names)(h7:7<=b.length)(h9:b.length<=9){k:Nat}(hk:k=0\/k=3\/k=4\/k=5)(Y s1 s8:Slot) :
  ∃x',Ft (n+1) x'/\Xb [Y,s1,.fz (.lst (names.map .str)),.fz (pN g),.fz (.lst (encN ds)),.fz (pN k),.fz x.v,.ow (b.map .str),s8]=some (.rt x'.v):=by
 have g6:=Qp hd (i:=6) (by decide);have g9:=Qp hd (i:=9) (by decide);have L:=Qp hd (i:=11) (by decide);have H:=e_bad hd F.ok (show n<=3 by lia) F.ln;have I:=λb O=>e_mixed hd b O;have hE:(encN ds).length<=100:=by rw[encN_len];lia
 have m9:=aP (ds.getD 9 0) J;have e9:=QcY m9;have w9:=QcX m9;have M:(names.map PV.str).length=names.length:=aj _;generalize ds.getD 9 0=d9 at *;generalize ds.getD 6 0=d6 at *;generalize ds.getD 11 0=m at *;generalize encN ds=E at *;obtain⟨D,G,j⟩:=k_bad H [Y,s1,.fz (.lst (names.map .str)),.fz (pN g),.fz (.lst E),.fz (pN k),.fz x.v,.ow (b.map .str),s8] rfl rfl;generalize hR:(sRet (Qg QH (Qa (mVar 4) (Qa (mVar 6) aNil))))=RB at *;have eN:∀i,i<names.length->(names.map PV.str)[i]?=some (.str (names.getD i "")):=λi hi=>QcY hi;unfold Xb;rw[hR];rcases hk with rfl | rfl | rfl | rfl
 .refine⟨D,G,?_⟩;walk_at "ev";exact j
 .cases x with
  |bad l =>
   refine⟨D,G,?_⟩;unfold Rx.v at j |-;walk_at "ev";rw[QP Qbs QC,bg_ne];walk_at "ev";exact j
  | rw x=>cases x with
   |g a c =>
    generalize names.map PV.str=B at *;refine⟨.rw (.g a (names.getD (d9%names.length) "")),QjI ⟨F.ok.1,hw _ w9⟩,?_⟩;unfold Rx.v Rw.v;walk_at "ev";rw[QP QC QC,show(("guess":Str)=="guess")=true by simp];walk_at "ev";rw[g9];walk_at "ev";rw[M];walk_at "ev";rw[e9];walk_at "ev"
   |r h c =>
    refine⟨D,G,?_⟩;unfold Rx.v Rw.v at j |-;walk_at "ev";rw[QP QY QC,QcC];walk_at "ev";exact j
 .cases x with
  |bad l =>
   refine⟨D,G,?_⟩;unfold Rx.v at j |-;walk_at "ev";rw[QP Qbs QY,br_ne];walk_at "ev";exact j
  | rw x=>cases x with
   |g a c =>
    refine⟨D,G,?_⟩;unfold Rx.v Rw.v at j |-;walk_at "ev";rw[QP QC QY,QeP];walk_at "ev";exact j
   |r h c =>
    obtain⟨c',em,c1,c2⟩:=I c F.ok.2.2;refine⟨.rw (.r h c'),QjI ⟨F.ok.1,λs hs=>F.ok.2.1 s (c2 s hs),c1⟩,?_⟩;unfold Rx.v Rw.v;walk_at "ev";rw[QP QY QY,show(("rule":Str)=="rule")=true by simp];walk_at "ev";rw[em];walk_at "ev"
 .walk_at "ev";by_cases Q:0<g
  .rw[aE Q];have m11:m%g<g:=aP _ Q;have T:=eN (m%g) (by lia);have U:names.getD (m%g) ""∈names:=QcX (by lia);have hm6:d6%7<7:=aP _ (by decide);refine⟨.rw (.r (names.getD (m%g) "") (b.take (d6%7))),QjI ⟨hw _ U,λs hs=>hw s (O s (cj hs)),by rw[br];lia⟩,?_⟩;rw[rxv_r,d8];generalize names.map PV.str=B at *;walk_at "ev";rw[L];walk_at "ev";rw[T];walk_at "ev";rw[g6];walk_at "ev";rw[QdO]
   try rw[d8]
   walk_at "ev"
  .rw[aH Q];refine⟨D,G,?_⟩;walk_at "ev";exact j
def Ft.up(h:Ft n x)(hm:n<=m):Ft m x:=⟨h.ok,h.ln.up hm⟩
def ft_0:Ft 0 (.bad ""):=⟨bad0.1,⟨bad0.2.asc,bad0.2.nl,by decide+kernel,by decide+kernel⟩⟩
def ok_wk{y:Rw}(h:y.Ok):y.Wk:=by
 cases y with
 |g a b=>exact h
 |r H b=>exact⟨h.1,h.2.1,by have:=h.2.2.2;lia⟩
def runV_4:runV N 4 m [a,b,c,d]=(m (QK N [a,b,c,d])).bind outV:=rfl
def v_nf(x:Rx):flat x.v=false:=by
 cases x with
 |bad l=>rfl
 |rw x=>exact Qmh x
local macro_rules | `(tactic| walk_at "ev")=>`(tactic| try simp (disch:=walk_at "eb") only[pLen_sn,mtK_s,EVc,EVl,List.length_range])
def e_ftail{ds:List Nat}(hd:ds.length=16){names:List Str}(G:0<names.length)(U:names.length<=40)(hw:∀s∈names,Wd s){x:Rx}{n:Nat}(hn:n<=2)(F:Ft n x){g:Nat}(Y:g<=names.length)(O s1:Slot) :
  ∃J,Ft (n+1) J/\(sSeq (QE [4,2,4] 7 QeV) (sSeq f_6 Xb)) [O,s1,.fz (.lst (names.map .str)),.fz (pN g),.fz (.lst (encN ds)),.fz (pN (ds.getD 0 0%6)),.fz x.v,.un,.un]=some (.rt J.v):=by
 have T:=Qp hd (i:=2) (by decide);have g3:=Qp hd (i:=3) (by decide);have g4:=Qp hd (i:=4) (by decide);have g5:=Qp hd (i:=5) (by decide);have g6:=Qp hd (i:=6) (by decide);have g7:=Qp hd (i:=7) (by decide);have g8:=Qp hd (i:=8) (by decide);have hE:(encN ds).length<=100:=by rw[encN_len];lia
 obtain⟨b,eb,L,m,D⟩:=e_fbody hE T g3 g4 G U O s1 (.fz (pN g)) (.fz (pN (ds.getD 0 0%6))) (.fz x.v) .un .un;have M:=aP (ds.getD 5 0) G;have e5:=QcY M;have Q:=QcX M;have H:(names.map PV.str).length=names.length:=aj _;have hk:=aP (ds.getD 0 0) (show 0<6 by decide);generalize ds.getD 0 0%6=k at *;have e6:f_6 [O,s1,.fz (.lst (names.map .str)),.fz (pN g),.fz (.lst (encN ds)),.fz (pN k),.fz x.v,.ow (b.map .str),.un]=some (.nx [O,s1,.fz (.lst (names.map .str)),.fz (pN g),.fz (.lst (encN ds)),.fz (pN k),.fz x.v,.ow (b.map .str),.fz (.str (names.getD (ds.getD 5 0%names.length) ""))]):=by
  unfold f_6;generalize encN ds=E at *;generalize names.map PV.str=B at *;walk_at "ev";rw[g5];walk_at "ev";rw[H];walk_at "ev";rw[e5];walk_at "ev"
 have I:=Qef b;have fin:∃J,Ft (n+1) J/\Xb [O,s1,.fz (.lst (names.map .str)),.fz (pN g),.fz (.lst (encN ds)),.fz (pN k),.fz x.v,.ow (b.map .str),.fz (.str (names.getD (ds.getD 5 0%names.length) ""))]=some (.rt J.v):=by
  have j:k=1\/k=2\/(k=0\/k=3\/k=4\/k=5):=by lia
  rcases j with rfl | rfl | j
  .exact k_one hw Q D m _ _ _ _ _ _ _
  .exact k_two g6 g7 g8 hw Q D L m _ _ _ _ _ _
  .exact k_old hd G U hw hn F Y D L m j _ _ _
 obtain⟨J,F',ek⟩:=fin;refine⟨J,F',?_⟩;generalize QeV=fb at *;generalize f_6=f6 at *;generalize Xb=fk at *;generalize encN ds=E at *;walk_at "ev";rw[eb];walk_at "ev"
 try rw[I]
 walk_at "ev";rw[e6];walk_at "ev";rw[ek]
def e_fault4(c:Int){xs:List Rx}{n:Nat}(hn:n<=2)(U:∀x∈xs,Ft n x)(Y:xs.length<=90){names:List Str}(J:0<names.length)(hl:names.length<=40)(hw:∀s∈names,Wd s){g:Nat}(hg:g<=names.length) :
  ∃G,Ft (n+1) G/\ZU [.int c,.lst (xs.map Rx.v),.lst (names.map .str),pN g]=some G.v:=by
 obtain⟨ds,L,hd⟩:=Qan c (n:=16) (by omega);have M:=Qp hd (i:=0) (by decide);have Q:=Qp hd (i:=1) (by decide);have O:=λ{x:Rx}(F:Ft n x)=>e_ftail hd J hl hw hn F hg (.fz (.int c)) (.fz (.lst (xs.map Rx.v)));delta ZU;rw[QlD];generalize (sSeq (QE [4,2,4] 7 QeV) (sSeq f_6 Xb))=T at *;have j:(xs.map Rx.v).length=xs.length:=aj _;by_cases D:0<xs.length
 .have m1:=aP (ds.getD 1 0) D;have ex:xs[ds.getD 1 0%xs.length]?=some (xs[ds.getD 1 0%xs.length]'m1):=aU m1;have m:xs[ds.getD 1 0%xs.length]'m1∈xs:=bZ _;generalize xs[ds.getD 1 0%xs.length]'m1=x at *;have H:=rx_get ex;obtain⟨G,F',e⟩:=O (U x m);refine⟨G,F',?_⟩;generalize encN ds=E at *;generalize names.map PV.str=B at *;generalize xs.map Rx.v=XV at *;have I:=v_nf x;walk_at "ev";rw[L];walk_at "ev";rw[M];walk_at "ev";rw[j,aE D];walk_at "ev";rw[Q];walk_at "ev";rw[j];walk_at "ev";rw[H];walk_at "ev";rw[I];walk_at "ev";rw[e];walk_at "ev"
 .obtain⟨G,F',e⟩:=O (ft_0.up (bz n));refine⟨G,F',?_⟩;have e:T [.fz (.int c),.fz (.lst (xs.map Rx.v)),.fz (.lst (names.map .str)),.fz (pN g),.fz (.lst (encN ds)),.fz (pN (ds.getD 0 0%6)),.fz (.tup [.str "bad",.str ""]),.un,.un]=some (.rt G.v):=e;generalize encN ds=E at *;generalize names.map PV.str=B at *;generalize xs.map Rx.v=XV at *;walk_at "ev";rw[L];walk_at "ev";rw[M];walk_at "ev";rw[j,aH D];walk_at "ev";rw[e];walk_at "ev"
def pPow_n{a b:Nat}(G:a<1000)(J:b<=1000):pPow (pN a) (pN b)=some (pN (a^b)):=by
 have hc:cPow (a:Int) (b:Int)=true:=Qdd (by constructor;omega;constructor;omega;show a<2^64;omega);show(if cPow (a:Int) (b:Int)=true then some (PV.int ((a:Int)^((b:Nat):Int).toNat)) else none)=_;rw[ak hc,cu];unfold pN;rw[Int.natCast_pow]
def Qni{a i:Nat}(h:a<2^i)(hi:i<4000):a.log2<4000:=by
 rcases lg a with z | z
 .rw[z];simp
 .exact aG ((Nat.log2_lt (by lia)).mpr h) (by lia)
def pMulB_n i j (G:a<2^i) (J:b<2^j) (hi:i<4000) (O:j<4000):Qpf (pN a) (pN b)=some (pN (a*b)):=by
 have hc:cMulB a b=true:=Qdd ⟨Qni G hi,Qni J O⟩;show(if cMulB a b=true then some (PV.int (a*b)) else none)=_;grind[pN]
def ev_sSetH ms i m γ:QoZ ms i m γ=(m γ).map λr=>.nx ((Qw (hard r) ms γ).set i (.fz r)):=rfl
def keepE_t ms γ:Qw true ms γ=γ:=rfl
def Qpc:MEx:=(bin2 Qpf (bin2 pAdd (bin2 pMod (bin2 pDiv (Qg Qn (Qa (mVar 0) (Qa (mN 2) aNil))) (mN 5)) (bin2 pPow (mN 10) (mN 30))) (mN 17)) (bin2 pIx (mLst (mLim (Qa (mN 1) (Qa (mN 69069) (Qa (mN 1664525) aNil))))) (mVar 6)))
def rows_cut:Zp=(sSeq (sSet [0,6] 7 Qpc)
 (sSeq (QoZ [7,5,3,4] 8 (Qg ZU (Qa (mVar 7) (Qa (mVar 5) (Qa (mVar 3) (Qa (mVar 4) aNil))))))
 (sIns [8] 5 (bin2 pMod (bin2 pIx (Qg Qv (Qa (bin2 pAdd (bin2 pDiv (Qg Qn (Qa (mVar 0) (Qa (mN 0) aNil))) (mN 15)) (bin2 pMul (mN 40) (mVar 6))) (Qa (mN 2) aNil))) (mN 1)) (bin2 pAdd (Qg pLen (Qa (mVar 5) aNil)) (mN 1))) (mVar 8)))):=rfl
local macro_rules | `(tactic| walk_at "ev")=>`(tactic| try simp (disch:=walk_at "eb") only[pLen_sn,mtK_s,ev_sSetH,keepE_t,runO_1,outO_ro,EVc,EVl,List.length_range])
def e_num(ns:List Int){k:Nat}(hk:k<3)(s1 s2 G J O U Y:Slot):∃q:Nat,Qpc [.fz (.lst (ns.map .int)),s1,s2,G,J,O,.fz (pN k),U,Y]=some (pN q):=by
 have m:=Qdb ns 2;have j:=pPow_n (a:=10) (b:=30) (by decide) (by decide);have B:10^30<2^110:=by decide
 have D:0<10^30:=Nat.pow_pos (by decide);generalize 10^30=z at *;generalize ns.getD 2 0=c at *;have hz:(c/((5:Nat):Int)%(z:Int)).toNat<z:=by
  have:=Int.emod_lt_of_pos (c/((5:Nat):Int)) (show(0:Int)<z by omega);have:=lZ (c/((5:Nat):Int)) (show(z:Int)≠0 by omega);omega
 generalize E:(c/((5:Nat):Int)%(z:Int)).toNat=q at *;have e3:∃v:Nat,v<2^30/\([pN 1,pN 69069,pN 1664525]:List PV)[k]?=some (pN v):=by
  have:k=0\/k=1\/k=2:=by omega
  rcases this with rfl | rfl | rfl
  .exact⟨1,by decide,rfl⟩
  .exact⟨69069,by decide,rfl⟩
  .exact⟨1664525,by decide,rfl⟩
 obtain⟨v,H,I⟩:=e3;have hm:=pMulB_n (a:=q+17) (b:=v) 120 30 (by omega) H (by decide) (by decide);refine⟨(q+17)*v,?_⟩;delta Qpc;walk_at "ev";rw[m];walk_at "ev";rw[j];walk_at "ev";rw[E];walk_at "ev";rw[I];walk_at "ev";rw[hm]
def rows_one(ns:List Int){names:List Str}(G:0<names.length)(Y:names.length<=40)(hw:∀s∈names,Wd s){g:Nat}(hg:g<=names.length){j:Nat}(hj:j<3){xs:List Rx}(J:∀x∈xs,Ft j x)(hxl:xs.length<=60)(s1 s2 O U:Slot) :
  ∃(ys:List Rx)(t7 t8:Slot),(∀y∈ys,Ft (j+1) y)/\ys.length=xs.length+1/\Zp [.fz (.lst (ns.map .int)),s1,s2,.fz (.lst (names.map .str)),.fz (pN g),.ow (xs.map Rx.v),.fz (pN j),O,U]=some (.nx [.fz (.lst (ns.map .int)),s1,s2,.fz (.lst (names.map .str)),.fz (pN g),.ow (ys.map Rx.v),.fz (pN j),t7,t8]):=by
 obtain⟨q,D⟩:=e_num ns hj s1 s2 (.fz (.lst (names.map .str))) (.fz (pN g)) (.ow (xs.map Rx.v)) O U;obtain⟨m,F,B⟩:=e_fault4 (q:Int) (n:=j) (by lia) J (by lia) G Y hw hg;have H:=Qdb ns 0;obtain⟨ds,I,hd⟩:=Qan (ns.getD 0 0/((15:Nat):Int)+((40*j:Nat):Int)) (n:=2) (by lia);have L:=Qp hd (i:=1) (by decide);have hE:(encN ds).length<=100:=by rw[encN_len];lia
 have hm:=aP (ds.getD 1 0) (show 0<xs.length+1 by lia);have M:=rx_hard m;generalize ds.getD 1 0=Q at *;generalize hi:Q%(xs.length+1)=i at *;generalize encN ds=E at *;generalize ns.getD 0 0=c at *;refine⟨xs.take i++m::xs.drop i,.fz (pN q),.fz m.v,λy T=>?_,?_,?_⟩
 .rcases aO.mp T with h | h
  .exact(J y (cj h)).up (by lia)
  .rcases ao.mp h with rfl | h
   .exact F
   .exact(J y (cO h)).up (by lia)
 .grind
 .rw[rows_cut];have B:ZU [pN q,.lst (xs.map Rx.v),.lst (names.map .str),pN g]=some m.v:=B;generalize Qpc=RN at *;walk_at "ev";rw[D];walk_at "ev";rw[B];walk_at "ev";rw[M];walk_at "ev";rw[QiD (xs:=xs.map Rx.v) rfl];walk_at "ev";rw[H];walk_at "ev";rw[show pAdd (.int (c/((15:Nat):Int))) (pN (40*j))=some (.int (c/((15:Nat):Int)+((40*j:Nat):Int))) from rfl];walk_at "ev";rw[I];walk_at "ev";rw[L];walk_at "ev";rw[hi,Qmr (by grind) (by grind) (by grind),v_nf];walk_at "ev";simp_all
def rows_all(ns:List Int){names:List Str}(U:0<names.length)(Y:names.length<=40)(hw:∀s∈names,Wd s){g:Nat}(hg:g<=names.length){m:Nat}(hm:m<=3){xs:List Rx}(hX:∀x∈xs,Ft 0 x)(hxl:xs.length<=55)(s1 s2:Slot) :
  ∃(ys:List Rx)(O G J:Slot),(∀y∈ys,y.Ok)/\ys.length<=58/\forL (gSet 6) Zp (encN (az m)) [.fz (.lst (ns.map .int)),s1,s2,.fz (.lst (names.map .str)),.fz (pN g),.ow (xs.map Rx.v),.un,.un,.un]=some (.nx [.fz (.lst (ns.map .int)),s1,s2,.fz (.lst (names.map .str)),.fz (pN g),.ow (ys.map Rx.v),O,G,J]):=by
 obtain⟨γ',e,ys,O,G,J,rfl,h1,h2⟩:=QcZ (g:=gSet 6) (b:=Zp) (λj γ=>∃(ys:List Rx)(O G J:Slot),γ=[.fz (.lst (ns.map .int)),s1,s2,.fz (.lst (names.map .str)),.fz (pN g),.ow (ys.map Rx.v),O,G,J]/\(∀y∈ys,Ft j y)/\ys.length<=55+j)
  m [.fz (.lst (ns.map .int)),s1,s2,.fz (.lst (names.map .str)),.fz (pN g),.ow (xs.map Rx.v),.un,.un,.un] ⟨xs,.un,.un,.un,rfl,hX,by omega⟩ (by
   rintro j γ D ⟨ys,O,G,J,rfl,h1,h2⟩;obtain⟨zs,E,H,k1,k2,k3⟩:=rows_one ns U Y hw hg (show j<3 by omega) h1 (by omega) s1 s2 G J;exact⟨_,_,rfl,k3,zs,_,_,_,rfl,k1,by omega⟩)
 exact⟨ys,O,G,J,λy B=>(h1 y B).ok,by omega,e⟩
def QiR:MSt:=(sSeq (sSet [0,2] 3 (Qg Zz (Qa (bin2 pDiv (Qg Qn (Qa (mVar 0) (Qa (mN 1) aNil))) (mN 5)) (Qa (mVar 2) aNil))))
 (sSeq (sSet [1,3] 4 (Qg pMin (Qa (bin2 pMod (bin2 pIx (mVar 1) (mN 12)) (mN 10)) (Qa (Qg pLen (Qa (mVar 3) aNil)) aNil))))
 (sSeq (QE [0,3,4] 5 (Qg QQ (Qa (mVar 0) (Qa (mVar 3) (Qa (mVar 4) aNil)))))
 (sSeq (Qac (iRg1 (bin2 pMod (bin2 pIx (mVar 1) (mN 13)) (mN 4))) (gSet 6) Zp)
 (Qbl 5)))))
def Qob:QbS=(sSeq (sSet [0] 1 (Qg Qv (Qa (Qg Qn (Qa (mVar 0) (Qa (mN 1) aNil))) (Qa (mN 16) aNil))))
 (sSeq (sSet [1] 2 (bin2 pAdd (mN 1) (bin2 pMod (bin2 pIx (mVar 1) (mN 10)) (mN 33))))
 (sSeq (sIf (truB (bin2 pGt (bin2 pMod (bin2 pIx (mVar 1) (mN 11)) (mN 3)) (mN 0))) (sSet [1] 2 (bin2 pAdd (mN 29) (bin2 pMod (bin2 pIx (mVar 1) (mN 10)) (mN 5)))) sNx) QiR))):=rfl
def e_rtail(ns:List Int)(hn:ns.length<=63){E:List PV}(hE:E.length<=100){J O:Nat}(U:E[12]?=some (pN J))(Y:E[13]?=some (pN O)){size:Nat}(h1:1<=size)(h2:size<=33) :
  ∃xs:List Rx,(∀x∈xs,x.Ok)/\xs.length<=58/\QiR [.fz (.lst (ns.map .int)),.fz (.lst E),.fz (pN size),.un,.un,.un,.un,.un,.un]=some (.ro (xs.map Rx.v)):=by
 have I:=Qdb ns 1;obtain⟨names,en,n1,n2,n3,L⟩:=e_family (ns.getD 1 0/((5:Nat):Int)) h1 h2;have D:min (J%10) names.length<=names.length:=lJ _ _;have M:min (J%10) names.length<=9:=by
  have:=aP J (show 0<10 by decide);omega
 generalize j:min (J%10) names.length=g at *;obtain⟨R,G,Q⟩:=e_good ns hn (show names.length<=40 by omega) n2 D M;have hm:=aP O (show 0<4 by decide);obtain⟨ys,t6,t7,t8,T,y2,H⟩:=rows_all ns L (show names.length<=40 by omega) n2 D (m:=O%4) (by omega) (xs:=R.map Rx.rw) (λx hx=>by
  obtain⟨y,hy,rfl⟩:=bw.mp hx;exact QjI (ok_wk (G.ok y hy))) (by rw[aj];have:=G.len;omega) (.fz (.lst E)) (.fz (pN size))
 rw[rx_map]at H;refine⟨ys,T,y2,?_⟩;have hRl:(R.map Rw.v).length<=100:=by rw[aj];have:=G.len;omega
 have hnl:(names.map PV.str).length=names.length:=aj _;have B:Qw ((R.map Rw.v).all flat) [0,3,4] [.fz (.lst (ns.map .int)),.fz (.lst E),.fz (pN size),.fz (.lst (names.map .str)),.fz (pN g),.un,.un,.un,.un]=[.fz (.lst (ns.map .int)),.fz (.lst E),.fz (pN size),.fz (.lst (names.map .str)),.fz (pN g),.un,.un,.un,.un]:=by
  unfold Qw;split<;>rfl
 delta QiR;walk_at "ev";rw[I];walk_at "ev";rw[en];walk_at "ev";rw[U];walk_at "ev"
 try rw[j]
 walk_at "ev";rw[Q];walk_at "ev"
 try rw[B]
 walk_at "ev";rw[Y];walk_at "ev";rw[H];walk_at "ev"
def e_rows(ns:List Int)(hn:ns.length<=63):∃xs:List Rx,(∀x∈xs,x.Ok)/\xs.length<=58/\Yf [.lst (ns.map .int)]=some (xs.map Rx.v):=by
 have M:=Qdb ns 1;obtain⟨ds,O,hd⟩:=Qan (ns.getD 1 0) (n:=16) (by lia);have m:=Qp hd (i:=10) (by decide);have B:=Qp hd (i:=11) (by decide);have D:=Qp hd (i:=12) (by decide);have G:=Qp hd (i:=13) (by decide);have Q:(encN ds).length<=100:=by rw[encN_len];lia
 generalize ds.getD 10 0=j at *;generalize ds.getD 11 0=H at *;generalize ds.getD 12 0=T at *;generalize ds.getD 13 0=U at *;generalize encN ds=E at *;have L:=λ{size:Nat} h1 h2=>e_rtail ns hn Q D G (size:=size) h1 h2;delta Yf;rw[Qob];generalize QiR=TL at *;have Y:=aP j (show 0<33 by decide);have m5:=aP j (show 0<5 by decide);walk_at "ev";rw[M];walk_at "ev";rw[O];walk_at "ev";rw[m];walk_at "ev";rw[B];walk_at "ev";by_cases c:0<H%3
 .obtain⟨xs,I,J,e⟩:=L (size:=29+j%5) (by lia) (by lia);refine⟨xs,I,J,?_⟩;rw[aE c];walk_at "ev";rw[m];walk_at "ev";rw[e];walk_at "ev"
  try rfl
 .obtain⟨xs,I,J,e⟩:=L (size:=1+j%33) (by lia) (by lia);refine⟨xs,I,J,?_⟩;rw[aH c];walk_at "ev";rw[e];walk_at "ev"
  try rfl
def law_k4 C (G:([C 1,C 2,C 3,C 4,C 5]).Nodup) (ns:List Int) (J:ns.length<=63):QbF C [.lst (ns.map .int)]=some (.bl true):=by
 obtain⟨xs,m,D,e⟩:=e_rows ns J;obtain⟨o,B,ho⟩:=Qnk G (.fz (.lst (ns.map .int))) (encN (az 3)) xs .un .un m (by lia);have j:Qw ((xs.map Rx.v).all flat) [0] [.fz (.lst (ns.map .int)),.un,.un,.un]=[.fz (.lst (ns.map .int)),.un,.un,.un]:=by
  unfold Qw;split<;>rfl
 delta QbF QhK;walk_at "ev";rw[e];walk_at "ev"
 try rw[j]
 walk_at "ev";rw[B];rcases ho with rfl|⟨γ,rfl⟩
 .walk_at "ev"
 .walk_at "ev"
end DH
namespace L2.PM
open PySem PySem.Spec PyProof.Rows
section
variable{X:Cx}{a b e:Expr}{es:List Expr}{ms ns:List Nat}{m m1 m2:MEx}{pos p p2:Pos}
def kv(i:Nat){x:Str}{pos:Pos}(J:X.N[i]?=some x:=by rfl)(O:Vis X.env.scope x:=by first | exact Or.inl rfl | exact Or.inr (Or.inl rfl) | exact Or.inr (Or.inr rfl))(hd:(x==("__debug__":Str))=false:=by decide)(G:(x==("__classdict__":Str))=false:=by decide):EM X [i] (.Name x pos) (mVar i):=Qu i (pe_var J O hd G)
def kx(G:EM X ms a m1)(J:EM X ns b m2)(hs:QiN b:=by intro _ _;rfl):EM X (ms++ns) (.Subscript a b pos) (bin2 pIx m1 m2):=QaP QaO G J hs
def k1(h:EM X ms e m)(hs:ai [e] X.env=[(false,eval e X.env)]:=by rfl):AM X (ms++[]) [e] (Qa m aNil):=Qh h Qm hs
def kc{x:Str}{n k O:Nat}{g:List PV->Option PV}{ma:PEnv->Option (List PV)}(c:Cal X.prog X.w X.K X.mg X.base k x n g)(U:Room O X.A)(Y:AM X ms (e::es) ma)(hn:∀ps r,g ps=some r->ps.length=n:=by exact Qai)(hk:k<=O:=by decide)(hg:Gl X x:=by rfl)(G:(x==("__debug__":Str))=false:=by decide)(he:ai (e::es) X.env=(false,eval e X.env)::ai es X.env:=by rfl)(J:(bB pos (ai es X.env)).any (·.1)=false:=by rfl):EM X ms (.Call (.Name x p) (e::es) [] pos) (Qg g ma):=QeW c hn (U.mono hk) hg Y G he J
def ks{i:Nat}{x:Str}(G:X.N.Nodup)(h:EM X ms e m)(hi:X.N[i]?=some x:=by rfl)(J:Loc X.env.scope x:=by exact Or.inl rfl)(hs:cp e (some (.Name x p2)) pos.line X.env=pure false:=by rfl)(hf:X.fn x=true\/X.env.scope.names.lookup x=some .local:=by first | exact .inl rfl | exact .inr rfl | assumption):SM X (.Assign [.Name x p2] e pos) (sSet ms i m):=QiP G hi J h hs hf
def ko{i:Nat}{x:Str}{m:PEnv->Option (List PV)}(G:X.N.Nodup)(h:EO X ms e m)(hi:X.N[i]?=some x:=by rfl)(J:Loc X.env.scope x:=by exact Or.inl rfl)(hs:cp e (some (.Name x p2)) pos.line X.env=pure false:=by rfl)(hf:X.fn x=true\/X.env.scope.names.lookup x=some .local:=by first | exact .inl rfl | exact .inr rfl | assumption):SM X (.Assign [.Name x p2] e pos) (QE ms i m):=QdG G hi J h hs hf
def kM(G:EM X ms a m1)(J:EM X ns b m2):EM X (ms++ns) (.BinOp a .Mod b pos) (bin2 pMod m1 m2):=Zd QiW G J
def kA(G:EM X ms a m1)(J:EM X ns b m2):EM X (ms++ns) (.BinOp a .Add b pos) (bin2 pAdd m1 m2):=Zd QiX G J
def kt{G:CmpOp}{f:PV->PV->Option PV}(ho:OpM X (bE G) f)(J:EM X ms a m1)(O:EM X ns b m2)(h:G≠.In:=by decide)(h2:G≠.NotIn:=by decide):TM X (ms++ns) (.Compare a [G] [b] pos) (truB (bin2 f m1 m2)):=XE ho J O (Xp _ h h2)
def kg{i:Nat}{x:Str}(G:X.N.Nodup)(hi:X.N[i]?=some x:=by rfl)(J:Loc X.env.scope x:=by exact Or.inl rfl)(hf:X.fn x=true\/X.env.scope.names.lookup x=some .local:=by first | exact .inl rfl | exact .inr rfl | assumption):GM X [i] (.Name x pos) (gSet i):=Zu (QS G hi J hf)
end
end L2.PM
namespace K04
local macro_rules | `(tactic| walk_at "s")=>`(tactic| exact⟨rfl,rfl,rfl,by decide+kernel,rfl,by decide+kernel,by decide+kernel⟩)
open PySem PySem.Spec PyProof.Rows L2 L2.PM DH
def law_true(C:Nat->Addr)(hC:([C 1,C 2,C 3,C 4,C 5]:List Addr).Nodup)(ns:List Int)(hl:ns.length<=63):QbF C [.lst (ns.map .int)]=some (.bl true):=law_k4 C hC ns hl
end K04
namespace K04
open PySem PySem.Spec PySem.W PyProof.Rows L2 L2.PM DH HD
def top(i:Nat):Stmt:=PySem.Challenge.pw_doubthall_k04_first_fault.main.body.getD i (.Pass ⟨0,0,0,0⟩)
noncomputable def ka:List Addr:=[2,3,23,24,40,41,43,44,55,56,67,68,79,80,91,92,95,99,100,106,107,111,112,113,119,120,126,127,133,134,138,139,145,146,152,153,157,158,162,163,167,168,172,173,177,178,184,185,191,192,198,199,205,206,212,213,219,220,226,227,233,234,240,241,247,248,254,255,259,260,266,267,273,274,278,279,285,286,292,293,297,298,302,303,307,308,312,313]
@[irreducible] noncomputable def kk:=kof PySem.Challenge.pw_doubthall_k04_first_fault ka 2516
def cc:=exC [24,44,56,68,80,92]
def blt:List Str:=["ValueError","all","bool","enumerate","int","isinstance","len","list","min","range","set","sorted","tuple"]
def cst:List (Str×Int):=[("MOST_GUESSES",8),("MOST_IN_BODY",6),("MOST_LETTERS",12),("MOST_RULES",40),("MOST_WORDS",30)]
def nam:List (Str×Nat):=[("HallError",0),("RowError",1),("NoRow",2),("TooMany",3),("Twice",4),("Headed",5)]
def idx:List Nat:=[14,15,16,18,19,20,21,22,23,24,25,26,27,28,29,31,32,33,34,35,36,37,38,39,40,41,42,43,44,45,46,47,48,49]
def xss:List Addr:=[cc 1,cc 2,cc 3,cc 4,cc 5]
def tab:List (Value×List (Addr×Bool)):=[(.ref (cc 5),[false,false,false,false,true]),(.ref (cc 4),[false,false,false,true,false]),(.ref (cc 3),[false,false,true,false,false]),(.ref (cc 2),[false,true,false,false,false]),(.ref (cc 0),[true,true,true,true,true]),(.type "ValueError",[true,true,true,true,true])].map λ(t,b)=>(t,xss.zip b)
structure Bd (P:aN) (w:bg) (K:Frag) (mg:Str->Option Value) (base:Heap):Prop where
 ex:K=kk w.params/\∃h,K.In h/\h.Ns cG mg
structure Txt (K:Frag) (mg:Str->Option Value):Prop where
 b:∀x,blt.contains x=true->mg x=none
 i:∀x v,cst.contains (x,v)=true->∃t,mg x=some (.int v t)
 z:∃a,mg "NO_WORDS"=some (.ref a)/\GT K a ["guess","unless","if"]
 n:∀x j,nam.contains (x,j)=true->mg x=some (.ref (cc j))
 d:∀i,idx.contains i=true->∃f fd,mg (nm (top i))=some (.ref f)/\Fun K (nm (top i)) (nm (top i)) (top i) f fd
 x:∀D,xss.contains D=true->XFld K D "row"/\i4 K D (.ref (cc 1))=some true/\kU K (.ref D)=some (.type "type")/\Qar K D=true/\eQ K (.ref D) "__setattr__"=some (some (.builtin "object.__setattr__"))/\eQ K (.ref D) "__init__"=some (some (.ref 41))/\me K (.ref D)=true
 s:∀t l,tab.contains (t,l)=true->∀D b,l.lookup D=some b->XIs K D t b
 o:isFn K (.ref 41)=true/\∃fd,Fun K "__init__" "RowError.__init__" (Qnq (top 2) 0) 41 fd
 r:∃fd,mg "read_row"=some (.ref 120)/\FunD K "read_row" "read_row" (top 17) 120 fd 0
def fx{P:aN}{w:bg}{K:Frag}{mg:Str->Option Value}{base:Heap}(B:Bd P w K mg base):Txt K mg:=by
 obtain⟨rfl,h,X,G⟩:=B.ex;generalize w.params=p at *;have x:=cnE (f:=λD=>(eQ (kk p) (.ref D) "__getattribute__",eQ (kk p) (.ref D) "__getattr__",i4 (kk p) D (.type "BaseException"),i4 (kk p) D (.type "object"),eQ (kk p) (.ref D) "__class__",eQ (kk p) (.ref D) "row",hasDictIn (kk p) D,i4 (kk p) D (.ref (cc 1)),kU (kk p) (.ref D),Qar (kk p) D,eQ (kk p) (.ref D) "__setattr__",eQ (kk p) (.ref D) "__init__",me (kk p) (.ref D))) (g:=λD=>(some (some (.builtin "BaseException.__getattribute__")),some none,some true,some true,some (some (.builtin "object.__class__")),some none,true,some true,some (.type "type"),true,some (some (.builtin "object.__setattr__")),some (some (.ref 41)),true)) (l:=xss) (by kernel_rfl);have A:=λD m=>have z:=x D m;(⟨congrArg (·.1) z,congrArg (·.2.1) z,congrArg (·.2.2.1) z,congrArg (·.2.2.2.1) z,congrArg (·.2.2.2.2.1) z,by kernel_rfl,by kernel_rfl⟩:XCl (kk p) D);have⟨_,_,_,_,_,_,_,_,_,l,c,k⟩:=fv_get (dV := .ref 113) (by kernel_rfl:fv (kk p) 120=fe "read_row" "read_row" (top 17) _);exact⟨λx E=>mg_none_of X G (cnE (f:=nsIn (kk p) cG) (g:=λ_=>some none) (l:=blt) (by kernel_rfl) x E),
  λx v E=>(in_of (cnE (f:=λx=>(nsIn (kk p) cG x.1).bind iv) (g:=λx=>some x.2) (l:=cst) (by kernel_rfl) _ E)).imp λt e=>mg_of X G e,
  ⟨95,mg_of X G (by kernel_rfl),_,_,_,(by kernel_rfl:(kk p).lookup 95=some ⟨(.type "tuple"),none,(.seq #[(.str "guess" 298),(.str "unless" 299),(.str "if" 300)] 0),#[]⟩),rfl,rfl,rfl,(by decide:3<=ax),.cons ⟨_,rfl⟩ (.cons ⟨_,rfl⟩ (.cons ⟨_,rfl⟩ .nil))⟩,
  λx j E=>mg_of X G (cnE (f:=λx=>nsIn (kk p) cG x.1) (g:=λx=>some (some (.ref (cc x.2)))) (l:=nam) (by kernel_rfl) _ E),
  λi hi=>have⟨f,fd,a,F⟩:=Qpn (cnE (f:=λi=>dv (kk p) (nm (top i))) (g:=λi=>fe (nm (top i)) (nm (top i)) (top i) .none) (l:=idx) (by kernel_rfl) i hi);⟨f,fd,mg_of X G a,F⟩,
  λD m=>have z:=(congrArg (·.2.2.2.2.2) (x D m) :);⟨⟨A D m,congrArg (·.1) z,congrArg (·.2.1) z⟩,congrArg (·.2.2.1) z,congrArg (·.2.2.2.1) z,congrArg (·.2.2.2.2.1) z,congrArg (·.2.2.2.2.2.1) z,congrArg (·.2.2.2.2.2.2.1) z,congrArg (·.2.2.2.2.2.2.2) z⟩,
  λt l H D b m=>have z:=mapE (f:=λx=>(kitOne (kk p) (.ref x.1) t,xss.contains x.1)) (g:=λx=>(some x.2,true)) (cnE (f:=λy=>y.2.map λx=>(kitOne (kk p) (.ref x.1) y.1,xss.contains x.1)) (g:=λy=>y.2.map λx=>(some x.2,true)) (l:=tab) (by kernel_rfl) (t,l) H) (D,b) (lk_mem m);⟨A D (congrArg Prod.snd z),congrArg kr z⟩,
  ⟨by kernel_rfl,fun_of (by kernel_rfl)⟩,⟨_,mg_of X G (by kernel_rfl),funD_mk l c k (by kernel_rfl:(kk p).lookup 113=some ⟨(.type "tuple"),none,(.seq #[(.int 0 331)] 0),#[]⟩)⟩⟩
variable{P:aN}{w:bg}{K:Frag}{mg:Str->Option Value}{base:Heap}
local macro_rules | `(tactic| walk_at "b") => `(tactic| (intro _ _ _ _ _ _ us hl;first | exact lb1 (P:=λus=>bindArgs _ ⟨us,[]⟩=pure (List.zip _ us)) (by intros;exact rfl) us hl | exact lb2 (P:=λus=>bindArgs _ ⟨us,[]⟩=pure (List.zip _ us)) (by intros;exact rfl) us hl | exact lb3 (P:=λus=>bindArgs _ ⟨us,[]⟩=pure (List.zip _ us)) (by intros;exact rfl) us hl | exact lb4 (P:=λus=>bindArgs _ ⟨us,[]⟩=pure (List.zip _ us)) (by intros;exact rfl) us hl))
def qc{CX:CXT}{sp:Sp}{k:Nat}{x:Str}(B:Bd P w K mg base)(i:Nat)(ok:∀{f fd},Txt K mg->Fun K x x (top i) f fd->FnOk P w K mg base CX k f fd (an (top i)) sp)(hi:idx.contains i=true:=by rfl)(J:nm (top i)=x:=by rfl)(O:∀(kV doc U:Value) (a:Option Addr) (G ct:Value) (us:List Value),us.length=(an (top i)).length->fC (fnOf x x (QT (top i)) (Qy (top i)) (Qc (top i)) .none kV doc U a G ct) ⟨us,[]⟩=pure ((an (top i)).zip us):=by walk_at "b") :
  ∃f fd ps,FnOk P w K mg base CX k f fd ps sp/\mg x=some (.ref f)/\me K (.ref f)=true/\YQ K fd ps []:=by
 subst J;obtain⟨f,fd,a,F⟩:=(fx B).d i hi;exact⟨f,fd,_,ok (fx B) F,a,F.kp,F.binds O⟩
def Txt.be(T:Txt K mg){D:Addr}(h:xss.contains D=true):i4 K D (.type "BaseException")=some true:=(T.x D h).1.cl.be
def Txt.ty(T:Txt K mg){D:Addr}(h:xss.contains D=true):kU K (.ref D)=some (.type "type"):=(T.x D h).2.2.1
section
variable{X:Cx}{a b e:Expr}{es:List Expr}{ms ns:List Nat}{m m1 m2:MEx}{pos p p2:Pos}
def kl(T:Txt X.K X.mg)(J:EM X ms e m)(O:Gl X "len":=by rfl)(hs:ai [e] X.env=[(false,eval e X.env)]:=by rfl)(G:(bB pos (ai [] X.env)).any (·.1)=false:=by rfl):EM X (ms++[]) (.Call (.Name "len" p) [e] [] pos) (Qg pLen (Qa m aNil)):=Qam cm_len O (T.b _ rfl) fD (Qh J Qm hs) (by decide) (by decide) hs G
end
abbrev Qih:Stmt:=top 31
def QcT:List Str:=["cell","count","number","drawn","k"]
def ZV(B:Bd P w K mg base):Cal P w K mg base 1 "_law_draws" 2 Qv:=qc B 31 λ{f fd} T F=>by
 have j:FnScope QcT ["cell","count"] (Qc Qih):=⟨rfl,rfl,rfl,by decide+kernel,rfl,by decide+kernel,by decide+kernel⟩
 have nd:=j.nd;refine fnM (N:=QcT) (k:=0) F j rfl λm A outer s H E D=>?_;exact(Qf (ks nd (kM (Zd Qbg (kA (kM (kv 0) Qb) Qb) Qb) Qb)) (Qf (ko nd (QO Qm)) (Qf (YZ bJ rfl (Zm (by rfl) (T.b _ rfl) (k1 (kv 1))) (kg nd) (Qf (ks nd (kM (Zd Qbg (kv 2) Qb) Qb)) (Qi (QeS (i:=3) (pv 3) (Zd Qav (kv 2) Qb) (Ys (Qad bj cM cL YN (pv 3) (YY (Zd Qav (kv 2) Qb)))))))) (Qi (QaS 3 (pv 3))))))
abbrev Qig:Stmt:=top 33
def QcS:List Str:=["number","size","letters","name","k"]
def Qap(B:Bd P w K mg base):Cal P w K mg base 1 "_law_fresh" 2 ZT:=qc B 33 λ{f fd} T F=>by
 have j:FnScope QcS ["number","size"] (Qc Qig):=⟨rfl,rfl,rfl,by decide+kernel,rfl,by decide+kernel,by decide+kernel⟩
 have nd:=j.nd;refine fnM (N:=QcS) (k:=0) F j rfl λm A outer s H E D=>?_;exact(Qf (ks nd Qr) (Qf (ks nd Qr) (Qf (YZ bJ rfl (Zm (by rfl) (T.b _ rfl) (k1 (kv 1))) (kg nd) (Qf (ks nd (kM (kA (Zd Qbg (kv 0) Qb) Qb) Qb)) (Qi (ks nd (kA (kv 3) (kx (kv 2) (kM (Zd Qav (kv 0) Qb) Qb))))))) (Qi (QaS 3 (pv 3))))))
abbrev Qdx:Stmt:=top 34
def XU:List Str:=["drawn","k","letters","signs","one","two"]
def QdD(B:Bd P w K mg base):Cal P w K mg base 2 "_law_like_name" 2 ZO:=qc B 34 λ{f fd} T F=>by
 have j:FnScope XU ["drawn","k"] (Qc Qdx):=⟨rfl,rfl,rfl,by decide+kernel,rfl,by decide+kernel,by decide+kernel⟩
 have nd:=j.nd;refine fnM (N:=XU) (k:=1) F j rfl λm A outer s H E D=>?_;exact(Qf (ks nd Qr) (Qf (ko nd (Qeg (co_listS rfl) (by rfl) (T.b _ rfl) (by kernel_rfl) (k1 (kc (Qap B) D (Qh (kx (kv 0) Qb) (k1 (kA Qb (kM (kx (kv 0) Qb) Qb)))))))) (Qf (ks nd (kM (kx (kv 0) Qb) (kl T (kv 3)))) (Qf (ks nd (kM (kA (kA (kv 4) Qb) (kM (kx (kv 0) Qb) (Zd QiV (kl T (kv 3)) Qb))) (kl T (kv 3)))) (Qf (Qdl (i:=3) (pv 3) (kx (kv 2) (kM (kA (kx (kv 0) Qb) (Zd Qbg (kv 1) (kx (EO.em (QO (QD (QD (QD (QD (QD (QD Qm)))))))) (kM (kx (kv 0) Qb) Qb)))) Qb)) (kv 4)) (Qf (Qdl (i:=3) (pv 3) (kx (kv 2) (kM (kA (kx (kv 0) Qb) (Zd Qav (kv 1) Qb)) Qb)) (kv 5)) (Qi (Qo (Qnz Qr (k1 (kv 3)))))))))))
abbrev Qdv:Stmt:=top 35
def XS:List Str:=["drawn","k","base","at"]
def QdB(B:Bd P w K mg base):Cal P w K mg base 2 "_law_part_name" 2 ZM:=qc B 35 λ{f fd} T F=>by
 have j:FnScope XS ["drawn","k"] (Qc Qdv):=⟨rfl,rfl,rfl,by decide+kernel,rfl,by decide+kernel,by decide+kernel⟩
 have nd:=j.nd;refine fnM (N:=XS) (k:=1) F j rfl λm A outer s H E D=>?_;exact(Qf (ks nd (kc (Qap B) D (Qh (kx (kv 0) Qb) (QD Qm)))) (Qf (ks nd (kM (kA (Zd Qbg (kv 1) Qb) (kx (kv 0) Qb)) Qb)) (Qf (QA (kt QbX (kv 3) Qb) (Qi (Qo (QdN (kv 2) Yl (ZG (kA Qb (kv 3)))))) Qq) (Qf (QA (kt QbX (kv 3) Qb) (Qi (Qo (QdN (kv 2) (ZG (Zd QiV (kv 3) Qb)) Yl))) Qq) (Qi (Qo (QdN (em_revS (kv 2) (QgU Qb) (λ_=>rfl)) Yl (ZG (Zd QiV (kv 3) Qb)))))))))
abbrev Qdw:Stmt:=top 36
def XT:List Str:=["k","some"]
def QdC(B:Bd P w K mg base):Cal P w K mg base 1 "_law_near_name" 1 ZN:=qc B 36 λ{f fd} T F=>by
 have j:FnScope XT ["k"] (Qc Qdw):=⟨rfl,rfl,rfl,by decide+kernel,rfl,by decide+kernel,by decide+kernel⟩
 have nd:=j.nd;refine fnM (N:=XT) (k:=0) F j rfl λm A outer s H E D=>?_;refine Qf ?_ ?_
 .refine QdG (i:=1) ?_ ?_ ?_ ?_ (hs := ?_) (hf := ?_)
  .exact nd
  .rfl
  .exact Or.inl rfl
  .refine QO ?_;iterate 12 refine ZE ?_
   exact Qm
  .rfl
  .first | exact .inl rfl | exact .inr rfl | assumption
 refine Qf ?_ ?_
 .exact(ko nd (Qib QcW (kv 1) (EO.em (QO (QiM [("guesses",_,_),("guessunless",_,_),("iff",_,_),("unlessguess",_,_)])))))
 exact Qi (Qo (QaP QaO (Qu 1 (pv 1)) (Zd QiW (Qu 0 (pv 0)) Qb) (λ_ _=>rfl)))
abbrev QgE:Stmt:=top 37
def QbW:List Str:=["cell","size","drawn","names","k","name"]
def QgL(B:Bd P w K mg base):Cal P w K mg base 3 "_law_family" 2 Zz:=qc B 37 λ{f fd} T F=>by
 have m:FnScope QbW ["cell","size"] (Qc QgE):=⟨rfl,rfl,rfl,by decide+kernel,rfl,by decide+kernel,by decide+kernel⟩
 have nd:=m.nd;refine fnM (N:=QbW) (k:=2) F m rfl λD A outer s H E j=>?_;exact(Qf (ks nd (kc (ZV B) j (Qh (kv 0) (QD Qm)))) (Qf (ko nd (QO Qm)) (Qf (YZ bJ rfl (Zm (by rfl) (T.b _ rfl) (k1 (kv 1))) (kg nd) (Qf (ks nd (kc (Qap B) j (Qh (kx (kv 2) (kv 4)) (k1 (kA Qb (kM (Zd Qav (kx (kv 2) (kA (kv 4) Qb)) Qb) Qb)))))) (Qf (QA (kt (QF j.units) (kM (kx (kv 2) Qb) Qb) Qb) (Qi (ks nd (kc (QdD B) j (Qh (kv 2) (k1 (kv 4)))))) Qq) (Qf (QA (WM.tm (XD (kt (QF j.units) (kM (kx (kv 2) Qb) Qb) Qb) (YA (kt QbX (kv 4) Qb)))) (Qi (ks nd (kc (QdB B) j (Qh (kv 2) (k1 (kv 4)))))) Qq) (Qf (QA (WM.tm (XD (kt (QF j.units) (kM (kx (kv 2) Qb) Qb) Qb) (YA (kt QbX (kv 4) Qb)))) (Qi (ks nd (kc (QdC B) j (k1 (kA (kv 4) (kx (kv 2) Qb)))))) Qq) (Qf (QA (XE (Qma j.units) (kv 5) (Zw (ZE (ZE (ZE Qm)))) (by with_unfolding_all rfl)) (Qi (ks nd (kA (kv 5) Qr))) Qq) (Qi (QA (XE (Qkp j.units) (kv 5) (kv 3) (by with_unfolding_all rfl)) (Qi (QeS (i:=3) (pv 3) (kv 5) (Ys (Qad bj cM cL YN (pv 3) (YY (kv 5)))))) Qq)))))))) (Qi (QaS 3 (pv 3))))))
abbrev QeY:Stmt:=top 32
def Qbd:List Str:=["script","k"]
def QI(B:Bd P w K mg base):Cal P w K mg base 1 "_law_cell_at" 2 Qn:=qc B 32 λ{f fd} T F=>by
 have j:FnScope Qbd ["script","k"] (Qc QeY):=⟨rfl,rfl,rfl,by decide+kernel,rfl,by decide+kernel,by decide+kernel⟩
 have nd:=j.nd;refine fnM (N:=Qbd) (k:=0) F j rfl λm A outer s H E D=>?_;exact(Qf (QA (kt QbX (kv 1) (kl T (kv 0))) (Qi (Qo (kx (kv 0) (kv 1)))) Qq) (Qi (Qo Qb)))
abbrev Qjt:Stmt:=top 39
def QeB:List Str:=["cell","names","guesses","drawn","body","k","word"]
def QjU(B:Bd P w K mg base):Cal P w K mg base 2 "_law_rule" 3 Yt:=qc B 39 λ{f fd} T F=>by
 have j:FnScope QeB ["cell","names","guesses"] (Qc Qjt):=⟨rfl,rfl,rfl,by decide+kernel,rfl,by decide+kernel,by decide+kernel⟩
 have nd:=j.nd;refine fnM (N:=QeB) (k:=1) F j rfl λD A outer s H E m=>?_;exact(Qf (ks nd (kc (ZV B) m (Qh (kv 0) (QD Qm)))) (Qf (ko nd (QO Qm)) (Qf (YZ bJ rfl (Zm (by rfl) (T.b _ rfl) (k1 (kM (kx (kv 3) Qb) Qb))) (kg nd) (Qf (ks nd (kx (kv 1) (kM (kx (kv 3) (kA Qb (kv 5))) (kl T (kv 1))))) (Qi (QA (XE (Qkp m.units) (kv 6) (kv 4) (by with_unfolding_all rfl)) (Qi (QeS (i:=4) (pv 4) (kv 6) (Ys (Qad bj cM cL YN (pv 4) (YY (kv 6)))))) Qq)))) (Qi (Qo (Zw (Qh Qr (Qh (kx (kv 1) (kA (kv 2) (kM (kx (kv 3) Qb) (Zd QiV (kl T (kv 1)) (kv 2))))) (k1 (Zk ZX (by rfl) (T.b _ rfl) (by kernel_rfl) (k1 (kv 4))))))))))))
abbrev Qjs:Stmt:=top 38
def QeA:List Str:=["one","other"]
def Qev(B:Bd P w K mg base):Cal P w K mg base 1 "_law_twin" 2 Yq:=qc B 38 λ{f fd} T F=>by
 have m:FnScope QeA ["one","other"] (Qc Qjs):=⟨rfl,rfl,rfl,by decide+kernel,rfl,by decide+kernel,by decide+kernel⟩
 have nd:=m.nd;refine fnM (N:=QeA) (k:=0) F m rfl λD A outer s H E j=>?_;exact(Qf (QA (WM.tm (QeM (kt (Qia j.units) (kx (kv 0) Qb) (kx (kv 1) Qb)) (QeM (kt (Qia j.units) (kx (kv 0) Qb) (kx (kv 1) Qb)) (QcU (kt (QF j.units) (kx (kv 0) Qb) Qr))))) (Qi (Qo Qbo)) Qq) (Qi (Qo (em_or (Qcl (QF j.units) (kx (kv 0) Qb) Qr (Xp _)) (Qjf (Qcl (QF j.units) (EO.em (Qal Qcs (by rfl) (T.b _ rfl) (by kernel_rfl) (k1 (kx (kv 0) Qb)))) (EO.em (Qal Qcs (by rfl) (T.b _ rfl) (by kernel_rfl) (k1 (kx (kv 1) Qb)))) (Xp _)))))))
abbrev Yz:Stmt:=top 40
def ZQ:List Str:=["script","names","guesses","cells","size","k","rows","cell","new","drawn","bane"]
def QdE(B:Bd P w K mg base):CalO P w K mg base 3 "_law_good_rows" 3 QQ:=qc B 40 λ{f fd} T F=>by
 have D:FnScope ZQ ["script","names","guesses"] (Qc Yz):=⟨rfl,rfl,rfl,by decide+kernel,rfl,by decide+kernel,by decide+kernel⟩
 have nd:=D.nd;refine fnO (N:=ZQ) (k:=2) F D rfl λm A outer s H E j=>?_;exact(Qf (ko nd (Qda (kv 0) (ZG Qb) (ZG Qb))) (Qf (ks nd (kl T (kv 3))) (Qf (QA (kt (QF j.units) (kM (kc (QI B) j (Qh (kv 0) (QD Qm))) Qb) Qb) (Qi (ks nd (kA Qb (kM (Zd Qav (kc (QI B) j (Qh (kv 0) (QD Qm))) Qb) Qb)))) Qq) (Qf (YZ bJ rfl (Zm (by rfl) (T.b _ rfl) (QD Qm)) (kg nd) (Qi (ko nd (Qib QcW (kv 3) (EO.em (QO (k1 (kA (kM (kc (QI B) j (Qh (kv 0) (QD Qm))) (Zd om_pow Qb Qb)) (Zd Qbg (Zd Qbg Qb (kv 5)) (kv 5)))))))))) (Qf (ko nd (QO Qm)) (Qf (Qml bJ rfl (Yr (kv 3)) (kg nd) (Qi (QA (WM.tm (XD (kt QbX (kl T (kv 6)) (kv 4)) (YA (kt QbX (kv 2) (kl T (kv 1)))))) (Qf (QiP (i:=8) nd rfl (Or.inr rfl) (kc (QjU B) j (Qh (kv 7) (Qh (kv 1) (k1 (kv 2)))))) (Qi (QA (kt (QF j.units) (kl T (EO.em (YC (X:=(cxOf CX0 P w K mg base ZQ "_law_good_rows" (Qc Yz) f m A outer s H E).nox) (N':=["row","new"]) (nt:=1) (caps:=[8]) (ts:=[0]) (ns:=[0,1]) (ls:=[0]) rfl (Qaf (N:=ZQ) (osc:=(Qc Yz)) rfl rfl (by decide+kernel)) (by decide) (QJ _) (Yr (kv 6)) (λ_ _ _ _ _ _=>(Zu (QS (i:=0) (show(["row","new"]:List Str).Nodup by decide+kernel) rfl (Or.inl rfl)))) (λ_ _ _ _ _ _=>(Qjc (Xt (QeW (Qev B) QeF (j.mono (by decide)) (by rfl) (Qh (Qu 0 (pv 0)) (Qh (Qu 1 (pv 1)) Qm)))))) (λ_ _ _ _ _ _=>(Qu 0 (pv 0)))))) Qb) (Qi (QeS (i:=6) (pv 6) (kv 8) (Ys (Qad bj cM cL YN (pv 6) (YY (kv 8)))))) Qq))) Qq))) (Qf (ks nd (kc (ZV B) j (Qh (Zd Qav (kc (QI B) j (Qh (kv 0) (QD Qm))) Qb) (QD Qm)))) (Qf (YZ bJ rfl (Zm (by rfl) (T.b _ rfl) (k1 (kv 2))) (kg nd) (Qf (ks nd (kx (kv 1) (kM (kx (kv 9) (kv 5)) (kl T (kv 1))))) (Qi (Qiv (i:=6) (pv 6) (Ys (Qad bj d7 fU Qec (pv 6) (Qgm (kM (kx (kv 9) (kA Qb (kv 5))) (kA (kl T (kv 6)) Qb)) (Zw (Qh Qr (Qh (kx (kv 1) (kv 5)) (k1 (kv 10)))))))))))) (Qi (QaS 6 (pv 6)))))))))))
abbrev Qjv:Stmt:=top 45
def QeD:List Str:=["row"]
def Qew(B:Bd P w K mg base):Cal P w K mg base 1 "_law_line" 1 QB:=qc B 45 λ{f fd} T F=>by
 have m:FnScope QeD ["row"] (Qc Qjv):=⟨rfl,rfl,rfl,by decide+kernel,rfl,by decide+kernel,by decide+kernel⟩
 have nd:=m.nd;refine fnM (N:=QeD) (k:=0) F m rfl λD A outer s H E j=>?_;exact(Qf (QA (kt (QF j.units) (kx (kv 0) Qb) Qr) (Qi (Qo (kx (kv 0) Qb))) Qq) (Qf (QA (kt (QF j.units) (kx (kv 0) Qb) Qr) (Qi (Qo (kA (kA (kA Qr (kx (kv 0) Qb)) Qr) (kx (kv 0) Qb)))) Qq) (Qf (QA (kt (QF j.units) (kl T (kx (kv 0) Qb)) Qb) (Qi (Qo (kx (kv 0) Qb))) Qq) (Qi (Qo (kA (kA (kx (kv 0) Qb) Qr) (em_joinT Qr (k1 (kx (kv 0) Qb)))))))))
abbrev QeZ:Stmt:=top 41
def Qbe:List Str:=["drawn","old","some","line","at"]
def Qfd(B:Bd P w K mg base):Cal P w K mg base 2 "_law_bad_row" 2 QH:=qc B 41 λ{f fd} T F=>by
 have m:FnScope Qbe ["drawn","old"] (Qc QeZ):=⟨rfl,rfl,rfl,by decide+kernel,rfl,by decide+kernel,by decide+kernel⟩
 have nd:=m.nd;refine fnM (N:=Qbe) (k:=1) F m rfl λD A outer s H E j=>?_;refine Qf ?_ ?_
 .refine QdG (i:=2) ?_ ?_ ?_ ?_ (hs := ?_) (hf := ?_)
  .exact nd
  .rfl
  .exact Or.inl rfl
  .refine QO ?_;iterate 13 refine ZE ?_
   exact Qm
  .rfl
  .first | exact .inl rfl | exact .inr rfl | assumption
 refine Qf ?_ ?_
 .exact(ko nd (Qib QcW (kv 2) (EO.em (QO (QiM [("guess a unless",_,_),("guess a unless b c",_,_),("a if b if c",_,_),("a if b c d e f g 1",_,_),("aaaaaaaaaaaaa",_,_)])))))
 refine Qf ?_ ?_
 .exact(QA (kt (QF j.units) (kM (kx (kv 0) Qb) Qb) Qb) (Qi (Qo (Zw (Qh Qr (k1 (kx (kv 2) (kM (kx (kv 0) Qb) Qb))))))) Qq)
 refine Qf ?_ ?_
 .exact(ks nd (kc (Qew B) j (k1 (kv 1))))
 refine Qf ?_ ?_
 .exact(ks nd (kM (kx (kv 0) Qb) (kA (kl T (kv 3)) Qb)))
 refine Qf ?_ ?_
 .exact(QA (kt (QF j.units) (kM (kx (kv 0) Qb) Qb) Qb) (Qi (Qo (Zw (Qh Qr (k1 (kA (kA (QdN (kv 3) Yl (ZG (kv 4))) (kx Qr (kM (kx (kv 0) Qb) Qb))) (QdN (kv 3) (ZG (kA (kv 4) Qb)) Yl))))))) Qq)
 refine Qf ?_ ?_
 .exact(QA (kt (QF j.units) (kM (kx (kv 0) Qb) Qb) Qb) (Qi (Qo (Zw (Qh Qr (k1 (kA Qr (kv 3))))))) Qq)
 refine Qf ?_ ?_
 .exact(QA (WM.tm (XD (kt (QF j.units) (kM (kx (kv 0) Qb) Qb) Qb) (YA (kt QdR (QkP (kv 3) (ZE Qm)) Qb)))) (Qi (Qo (em_rep (i:=3) rfl (by first | exact Or.inl rfl | exact Or.inr (Or.inl rfl) | exact Or.inr (Or.inr rfl)) (kA Qb (kM (kx (kv 0) Qb) (QkP (kv 3) (ZE Qm))))))) Qq)
 exact Qi (Qo (Zw (Qh Qr (Qh (Zd QiX (Qu 3 (pv 3)) Qr) Qm))))
abbrev Qif:Stmt:=top 42
def QcR:List Str:=["body","drawn","at","words","one","two"]
def Qiq(B:Bd P w K mg base):Cal P w K mg base 1 "_law_mixed" 2 Yv:=qc B 42 λ{f fd} T F=>by
 have j:FnScope QcR ["body","drawn"] (Qc Qif):=⟨rfl,rfl,rfl,by decide+kernel,rfl,by decide+kernel,by decide+kernel⟩
 have nd:=j.nd;refine fnM (N:=QcR) (k:=0) F j rfl λD A outer s H E m=>?_;exact(Qf (QA (WM.tm (QeM (kt (QF m.units) (kM (kx (kv 1) Qb) Qb) Qb) (QcU (kt QbX (kl T (kv 0)) Qb)))) (Qf (ks nd (kM (kx (kv 1) Qb) (kA (kl T (kv 0)) Qb))) (Qi (Qo (Zd om_catT2 (QkO (kv 0) (ZG (kv 2)) Yl) (QkO (kv 0) Yl (ZG (kv 2))))))) Qq) (Qf (QA (kt (QF m.units) (kM (kx (kv 1) Qb) Qb) Qb) (Qi (Qo (em_revT (kv 0) (QgU Qb) (λ_=>rfl)))) Qq) (Qf (ko nd (Qeg QnF (by rfl) (T.b _ rfl) (by kernel_rfl) (k1 (kv 0)))) (Qf (ks nd (kM (kx (kv 1) Qb) (kl T (kv 3)))) (Qf (ks nd (kM (kx (kv 1) Qb) (kl T (kv 3)))) (Qf (Qdl (i:=3) (pv 3) (kx (kv 0) (kv 5)) (kv 4)) (Qf (Qdl (i:=3) (pv 3) (kx (kv 0) (kv 4)) (kv 5)) (Qi (Qo (Zk ZX (by rfl) (T.b _ rfl) (by kernel_rfl) (k1 (kv 3))))))))))))
abbrev QcH:Stmt:=top 43
def Qaq:List Str:=["number","rows","names","guesses","drawn","kind","old","body","head"]
def Qir(B:Bd P w K mg base):Cal P w K mg base 3 "_law_fault" 4 ZU:=qc B 43 λ{f fd} T F=>by
 have m:FnScope Qaq ["number","rows","names","guesses"] (Qc QcH):=⟨rfl,rfl,rfl,by decide+kernel,rfl,by decide+kernel,by decide+kernel⟩
 have nd:=m.nd;refine fnM (N:=Qaq) (k:=2) F m rfl λD A outer s H E j=>?_;exact(Qf (QiP (i:=4) nd rfl (Or.inr rfl) (kc (ZV B) j (Qh (kv 0) (QD Qm)))) (Qf (ks nd (kM (kx (kv 4) Qb) Qb)) (Qf (ks nd (Zw (ZE (ZE Qm)))) (Qf (QA (kt QdR (kl T (kv 1)) Qb) (Qi (ks nd (kx (kv 1) (kM (kx (kv 4) Qb) (kl T (kv 1)))))) Qq) (Qf (QaE (i:=7) nd rfl rfl (N':=["k","names","drawn"]) (nt:=1) (caps:=[2,4]) (ts:=[0]) (ns:=[]) (ls:=[1,2,0,2,1]) rfl (Qaf (N:=Qaq) (osc:=(Qc QcH)) rfl rfl (by decide+kernel)) (by decide) (QJ _) (QhD (by rfl) (T.b _ rfl) (k1 (kA Qb (kM (kx (kv 4) Qb) Qb)))) (λ_ _ _ _ _ _=>(Zu (QS (i:=0) (show(["k","names","drawn"]:List Str).Nodup by decide+kernel) rfl (Or.inl rfl)))) (λ_ _ _ _ _ _=>XG) (λ_ _ _ _ _ _=>(QaP QaO (Qu 1 (pv 1)) (Zd QiW (Zd QiX (QaP QaO (Qu 2 (pv 2)) Qb (λ_ _=>rfl)) (Zd Qbg (Qu 0 (pv 0)) (Zd QiX Qb (Zd QiW (QaP QaO (Qu 2 (pv 2)) Qb (λ_ _=>rfl)) Qb)))) (Qam cm_len (by rfl) (T.b _ rfl) fD (Qh (Qu 1 (pv 1)) Qm))) (λ_ _=>rfl)))) (Qf (ks nd (kx (kv 2) (kM (kx (kv 4) Qb) (kl T (kv 2))))) (Qf (QA (kt (QF j.units) (kv 5) Qb) (Qi (Qo (Zw (Qh Qr (Qh (kv 8) (k1 (Zk ZX (by rfl) (T.b _ rfl) (by kernel_rfl) (k1 (kv 7))))))))) Qq) (Qf (QA (kt (QF j.units) (kv 5) Qb) (Qf (ko nd (Qda (kv 7) Yl (ZG (kA Qb (kM (kx (kv 4) Qb) Qb))))) (Qf (Qiv (i:=7) (pv 7) (Ys (Qad bj d7 fU Qec (pv 7) (Qgm (kM (kx (kv 4) Qb) (kA (kl T (kv 7)) Qb)) (kx (kv 7) (kM (kx (kv 4) Qb) (kl T (kv 7)))))))) (Qi (Qo (Zw (Qh Qr (Qh (kv 8) (k1 (Zk ZX (by rfl) (T.b _ rfl) (by kernel_rfl) (k1 (kv 7))))))))))) Qq) (Qf (QA (WM.tm (XD (kt (QF j.units) (kv 5) Qb) (YA (kt (QF j.units) (kx (kv 6) Qb) Qr)))) (Qi (Qo (Zw (Qh Qr (Qh (kx (kv 6) Qb) (k1 (kx (kv 2) (kM (kx (kv 4) Qb) (kl T (kv 2)))))))))) Qq) (Qf (QA (WM.tm (XD (kt (QF j.units) (kv 5) Qb) (YA (kt (QF j.units) (kx (kv 6) Qb) Qr)))) (Qi (Qo (Zw (Qh Qr (Qh (kx (kv 6) Qb) (k1 (kc (Qiq B) j (Qh (kx (kv 6) Qb) (k1 (kv 4)))))))))) Qq) (Qf (QA (WM.tm (XD (kt (QF j.units) (kv 5) Qb) (YA (kt QdR (kv 3) Qb)))) (Qi (Qo (Zw (Qh Qr (Qh (kx (kv 2) (kM (kx (kv 4) Qb) (kv 3))) (k1 (Zk ZX (by rfl) (T.b _ rfl) (by kernel_rfl) (k1 (EO.em (Qda (kv 7) Yl (ZG (kM (kx (kv 4) Qb) Qb)))))))))))) Qq) (Qi (Qo (kc (Qfd B) j (Qh (kv 4) (k1 (kv 6)))))))))))))))))
abbrev Qju:Stmt:=top 44
def QeC:List Str:=["script","drawn","size","names","guesses","rows","k","number","new"]
def QjV(B:Bd P w K mg base):CalO P w K mg base 4 "_law_rows" 1 Yf:=qc B 44 λ{f fd} T F=>by
 have m:FnScope QeC ["script"] (Qc Qju):=⟨rfl,rfl,rfl,by decide+kernel,rfl,by decide+kernel,by decide+kernel⟩
 have nd:=m.nd;refine fnO (N:=QeC) (k:=3) F m rfl λD A outer s H E j=>?_;exact(Qf (ks nd (kc (ZV B) j (Qh (kc (QI B) j (Qh (kv 0) (QD Qm))) (QD Qm)))) (Qf (ks nd (kA Qb (kM (kx (kv 1) Qb) Qb))) (Qf (QA (kt QdR (kM (kx (kv 1) Qb) Qb) Qb) (Qi (ks nd (kA Qb (kM (kx (kv 1) Qb) Qb)))) Qq) (Qf (ks nd (kc (QgL B) j (Qh (Zd Qav (kc (QI B) j (Qh (kv 0) (QD Qm))) Qb) (k1 (kv 2))))) (Qf (ks nd (Qam (cm_min rfl) (by rfl) (T.b _ rfl) (by kernel_rfl) (Qh (kM (kx (kv 1) Qb) Qb) (k1 (kl T (kv 3)))))) (Qf (ko nd (Qmu (QdE B) QaW (j.mono (by decide)) (by rfl) (Qh (kv 0) (Qh (kv 3) (k1 (kv 4)))))) (Qf (YZ bJ rfl (Zm (by rfl) (T.b _ rfl) (k1 (kM (kx (kv 1) Qb) Qb))) (kg nd) (Qf (ks nd (Zd om_mulB (kA (kM (Zd Qav (kc (QI B) j (Qh (kv 0) (QD Qm))) Qb) (Zd om_pow Qb Qb)) Qb) (kx (EO.em (QO (QD (QD (QD Qm))))) (kv 6)))) (Qf (sm_setH (i:=8) nd rfl (Or.inl rfl) (kc (Qir B) j (Qh (kv 7) (Qh (kv 5) (Qh (kv 3) (k1 (kv 4))))))) (Qi (Qiv (i:=5) (pv 5) (Ys (Qad bj d7 fU Qec (pv 5) (Qgm (kM (kx (kc (ZV B) j (Qh (kA (Zd Qav (kc (QI B) j (Qh (kv 0) (QD Qm))) Qb) (Zd Qbg Qb (kv 6))) (QD Qm))) Qb) (kA (kl T (kv 5)) Qb)) (kv 8))))))))) (Qi (QaS 5 (pv 5))))))))))
abbrev YT:Stmt:=top 46
def Yk:List Str:=["row","above","words","old","word","alike"]
def QeL(B:Bd P w K mg base):CalDD P w K mg base 2 "_law_fault_of" 3 Qs:=qc B 46 λ{f fd} T F=>by
 have G:FnScope Yk ["row","above","words"] (Qc YT):=⟨rfl,rfl,rfl,by decide+kernel,rfl,by decide+kernel,by decide+kernel⟩
 have nd:=G.nd;refine fnDD (N:=Yk) (k:=1) F G rfl (j:=2) rfl λD A outer s H E m=>?_;exact(QgM (QA (kt (QF m.units) (kx (kv 0) Qb) Qr) (Qi (Qo Qb)) Qq) (QgM (QA (WM.tm (XD (kt (QF m.units) (kx (kv 0) Qb) Qr) (YA (kt QdR (kl T (kx (kv 0) Qb)) Qb)))) (Qi (Qo Qb)) Qq) (QgM (QA (WM.tm (XD (kt (QF m.units) (kx (kv 0) Qb) Qr) (YA (kt QbX (Qfu rfl (by rfl) (T.b _ rfl) (by rfl) (T.b _ rfl) (k1 (kx (kv 0) Qb))) (kl T (kx (kv 0) Qb)))))) (Qi (Qo Qb)) Qq) (QgM (Qml bJ rfl (Yr (kv 1)) (kg nd) (Qi (QA (Xt (kc (Qev B) m (Qh (kv 3) (k1 (kv 0))))) (Qi (Qo Qb)) Qq))) (vs_x (QmA (j:=2) m.units (pv 2) (kx (kv 0) Qb) Qbo) (vs_x (xm_for QaL bJ rfl (Yr (Qpm (kt (QF m.units) (kx (kv 0) Qb) Qr) (EO.em (QO (k1 (kx (kv 0) Qb)))) (EO.em (Qeg QnF (by rfl) (T.b _ rfl) (by kernel_rfl) (k1 (kx (kv 0) Qb)))))) (kg nd) (xs_one (QmA (j:=2) m.units (pv 2) (kv 4) Qbo))) (QgM (ks nd (kl T (EO.em (YC (X:=(cxOf CX0 P w K mg base Yk "_law_fault_of" (Qc YT) f D A outer s H E).nox) (N':=["old","row"]) (nt:=1) (caps:=[0]) (ts:=[0]) (ns:=([0]++[1])) (ls:=[0]) rfl (Qaf (N:=Yk) (osc:=(Qc YT)) rfl rfl (by decide+kernel)) (by decide) (QJ _) (Yr (kv 1)) (λ_ _ _ _ _ _=>(Zu (QS (i:=0) (show(["old","row"]:List Str).Nodup by decide+kernel) rfl (Or.inl rfl)))) (λ_ _ _ _ _ _=>(Qjc (XE (QF (by exact m.units)) (QaP QaO (Qu 0 (pv 0)) Qb (λ_ _=>rfl)) (QaP QaO (Qu 1 (pv 1)) Qb (λ_ _=>rfl)) (Xp _)))) (λ_ _ _ _ _ _=>(Qu 0 (pv 0))))))) (vs_if (WM.tm (QeM (kt QdR (Qam cm_lenD (by rfl) (T.b _ rfl) fD (k1 (kv 2))) Qb) (QcU (kt om_ge (kv 5) (kx (EO.em (QO (QD (QD Qm)))) (Zk cm_i01 (by rfl) (T.b _ rfl) (by kernel_rfl) (k1 (Qcl (QF m.units) (kx (kv 0) Qb) Qr (Xp _))))))))) (QmC (Qo Qb)) (QmC (Qo (QgU Qb)))))))))))
abbrev Qfk:Stmt:=top 47
def Qcw:List Str:=["rows","words","k","kind","heads"]
def QlO(B:Bd P w K mg base):CalO P w K mg base 3 "_law_due" 1 Zt:=qc B 47 λ{f fd} T F=>by
 have D:FnScope Qcw ["rows"] (Qc Qfk):=⟨rfl,rfl,rfl,by decide+kernel,rfl,by decide+kernel,by decide+kernel⟩
 have nd:=D.nd;refine fnO (N:=Qcw) (k:=2) F D rfl λG A outer s H E m=>?_;exact(Qf (QA (kt (QF m.units) (kv 0) (EO.em (QO (k1 (Zw (ZE (ZE Qm))))))) (Qi (QdH (QO (Qh (QgU Qb) (QD Qm))))) Qq) (Qf (sm_dnew (i:=1) nd rfl (Or.inl rfl)) (Qf (YZ bJ rfl (Zm (by rfl) (T.b _ rfl) (k1 (kl T (kv 0)))) (kg nd) (Qf (sm_calD (i:=3) (j:=1) nd rfl (Or.inl rfl) (QeL B) Qbv (m.mono (by decide)) (by rfl) (kx (kv 0) (kv 2)) (EO.em (Qda (kv 0) Yl (ZG (kv 2)))) (pv 1)) (Qi (QA (kt om_ge (kv 3) Qb) (Qi (QdH (QO (Qh (kv 3) (k1 (kv 2)))))) Qq)))) (Qf (QaE (i:=4) nd rfl rfl (N':=["row"]) (nt:=1) (caps:=[]) (ts:=[0]) (ns:=([0]++[])) (ls:=[0]) rfl (Qaf (N:=Qcw) (osc:=(Qc Qfk)) rfl rfl (by decide+kernel)) (by decide) (QJ _) (Yr (kv 0)) (λ_ _ _ _ _ _=>(Zu (QS (i:=0) (show(["row"]:List Str).Nodup by decide+kernel) rfl (Or.inl rfl)))) (λ_ _ _ _ _ _=>(Qjc (XE (QF (by exact m.units)) (QaP QaO (Qu 0 (pv 0)) Qb (λ_ _=>rfl)) Qr (Xp _)))) (λ_ _ _ _ _ _=>(QaP QaO (Qu 0 (pv 0)) Qb (λ_ _=>rfl)))) (Qf (YZ bJ rfl (Zm (by rfl) (T.b _ rfl) (k1 (kl T (kv 0)))) (kg nd) (Qi (QA (WM.tm (XD (kt (QF m.units) (kx (kx (kv 0) (kv 2)) Qb) Qr) (YA (XE (Qma m.units) (kx (kx (kv 0) (kv 2)) Qb) (kv 4) (by with_unfolding_all rfl))))) (Qi (QdH (QO (Qh Qb (k1 (kv 2)))))) Qq))) (Qi (QdH (QO (Qh (QgU Qb) (QD Qm))))))))))
abbrev QdW:Stmt:=top 14
def QbN:List Str:=["part"]
def QbL(B:Bd P w K mg base):Cal P w K mg base 1 "is_word" 1 Yd:=qc B 14 λ{f fd} T F=>by
 have m:FnScope QbN ["part"] (Qc QdW):=⟨rfl,rfl,rfl,by decide+kernel,rfl,by decide+kernel,by decide+kernel⟩
 have nd:=m.nd;refine fnM (N:=QbN) (k:=0) F m rfl λj A outer s H E D=>?_;exact(Qf (QA (WM.tm (QeM (XE (Qma D.units) (kv 0) (em_gT (by rfl) T.z) (by with_unfolding_all rfl)) (QcU (Qmi (tm_chain om_le om_le Qb (kl T (kv 0)) (Qme (by rfl) (T.i _ _ rfl))))))) (Qi (Qo Qbo)) Qq) (Qi (Qo (Qam (cm_all rfl) (by rfl) (T.b _ rfl) (by kernel_rfl) (k1 (EO.em (YC (X:=(cxOf CX0 P w K mg base QbN "is_word" (Qc QdW) f j A outer s H E).nox) (N':=["sign"]) (nt:=1) (caps:=[]) (ts:=[0]) (ns:=[]) (ls:=[0]) rfl (Qaf (N:=QbN) (osc:=(Qc QdW)) rfl rfl (by decide+kernel)) (by decide) (QJ _) (im_str (kv 0)) (λ_ _ _ _ _ _=>(Zu (QS (i:=0) (show(["sign"]:List Str).Nodup by decide+kernel) rfl (Or.inl rfl)))) (λ_ _ _ _ _ _=>XG) (λ_ _ _ _ _ _=>(em_chain om_leS om_leS Qr (Qu 0 (pv 0)) Qr)))))))))
abbrev QeX:Stmt:=top 15
def Qbc:List Str:=["parts"]
def Qfc(B:Bd P w K mg base):Cal P w K mg base 2 "is_guess_row" 1 ZJ:=qc B 15 λ{f fd} T F=>by
 have m:FnScope Qbc ["parts"] (Qc QeX):=⟨rfl,rfl,rfl,by decide+kernel,rfl,by decide+kernel,by decide+kernel⟩
 have nd:=m.nd;refine fnM (N:=Qbc) (k:=1) F m rfl λD A outer s H E j=>?_;exact(Qf (QA (WM.tm (QeM (kt (Qia j.units) (kl T (kv 0)) Qb) (QeM (kt (Qia j.units) (kx (kv 0) Qb) Qr) (QcU (kt (Qia j.units) (kx (kv 0) Qb) Qr))))) (Qi (Qo Qbo)) Qq) (Qi (Qo (QgW (kc (QbL B) j (k1 (kx (kv 0) Qb))) (Qjf (kc (QbL B) j (k1 (kx (kv 0) Qb))))))))
abbrev XA:Stmt:=top 16
def YJ:List Str:=["parts"]
def QgK(B:Bd P w K mg base):Cal P w K mg base 2 "is_rule_row" 1 ZB:=qc B 16 λ{f fd} T F=>by
 have D:FnScope YJ ["parts"] (Qc XA):=⟨rfl,rfl,rfl,by decide+kernel,rfl,by decide+kernel,by decide+kernel⟩
 have nd:=D.nd;refine fnM (N:=YJ) (k:=1) F D rfl λm A outer s H E j=>?_;exact(Qf (QA (kt (QF j.units) (kl T (kv 0)) Qb) (Qi (Qo (kc (QbL B) j (k1 (kx (kv 0) Qb))))) Qq) (Qf (QA (WM.tm (QeM (kt (QF j.units) (kl T (kv 0)) Qb) (QcU (kt (Qia j.units) (kx (kv 0) Qb) Qr)))) (Qi (Qo Qbo)) Qq) (Qi (Qo (Qam (cm_all rfl) (by rfl) (T.b _ rfl) (by kernel_rfl) (k1 (EO.em (YC (X:=(cxOf CX0 P w K mg base YJ "is_rule_row" (Qc XA) f m A outer s H E).nox) (N':=["part"]) (nt:=1) (caps:=[]) (ts:=[0]) (ns:=[]) (ls:=[0]) rfl (Qaf (N:=YJ) (osc:=(Qc XA)) rfl rfl (by decide+kernel)) (by decide) (QJ _) (Yr (EO.em (Qib QcW (EO.em (Qda (kv 0) Yl (ZG Qb))) (EO.em (Qda (kv 0) (ZG Qb) Yl))))) (λ_ _ _ _ _ _=>(Zu (QS (i:=0) (show(["part"]:List Str).Nodup by decide+kernel) rfl (Or.inl rfl)))) (λ_ _ _ _ _ _=>XG) (λ_ _ _ _ _ _=>(QeW (QbL B) QgG (j.mono (by decide)) (by rfl) (Qh (Qu 0 (pv 0)) Qm)))))))))))
abbrev YV:Stmt:=Qnq (top 2) 0
def YW:List Str:=["self","row"]
def QaX{f:Addr}{fd:cA}{D:Addr}(xs:XSet K D "row")(F:Fun K "__init__" "RowError.__init__" YV f fd):FnOk P w K mg base CX0 1 f fd ["self","row"] (spI D "row"):=by
 have j:FnScope YW ["self","row"] (Qc YV):=⟨rfl,rfl,rfl,by decide+kernel,rfl,by decide+kernel,by decide+kernel⟩
 exact fnI (N:=YW) (k:=0) F j rfl xs λm A outer s H E B=>QdI (ps_xset (pv 0) (pv 1))
def ci{D:Addr}(B:Bd P w K mg base)(G:xss.contains D=true):CalI P w K mg base 1 D "row":=by
 have⟨f,_,_,a,b,c,d⟩:=(fx B).x D G;obtain⟨i,_,F⟩:=(fx B).o;exact⟨_,_,_,QaX ⟨a,b,f.no⟩ F,c,i,F.binds (ps:=["self","row"]) λ_ _ _ _ _ _ us j=>match us,j with | [_,_],_=>rfl,a,d⟩
abbrev Qfi:Stmt:=top 17
def QfB:List Str:=["line","row","parts","body"]
def QjA{f:Addr}{fd:cA}(B:Bd P w K mg base)(T:Txt K mg)(F:FunD K "read_row" "read_row" Qfi f fd 0):FnOk P w K mg base (CX2 P w) 3 f fd ["line","row"] (spR K 2 (Zs cc)):=by
 have m:FnScope QfB ["line","row"] (Qc Qfi):=⟨rfl,rfl,rfl,by decide+kernel,rfl,by decide+kernel,by decide+kernel⟩
 have nd:=m.nd;refine fnRD (N:=QfB) (k:=2) F m rfl λG A outer s H E j=>?_;exact(ZR (QbZ (ko nd (QkL (kv 0) (ZE Qm)))) (ZR (QbZ (QA (Xt (kc (Qfc B) j (k1 (kv 2)))) (Qi (Qo (Zw (Qh Qr (Qh (kx (kv 2) Qb) (k1 (kx (kv 2) Qb))))))) Qq)) (ZR (Qjw (Qmi (Xt (kc (QgK B) j (k1 (kv 2))))) (Qas (Qaj Qco rfl (CalI.mk (ci B (D:=cc 2) rfl)) (j.mono (by decide)) (by rfl) (T.n _ 2 rfl) (T.be rfl) (T.ty rfl) (k1 (kv 1)))) (Xs Qq)) (ZR (QbZ (ks nd (Zk ZX (by rfl) (T.b _ rfl) (by kernel_rfl) (k1 (EO.em (Qda (kv 2) (ZG Qb) Yl)))))) (ZR (Qjw (kt QdR (kl T (kv 3)) (Qme (by rfl) (T.i _ _ rfl))) (Qas (Qaj Qco rfl (CalI.mk (ci B (D:=cc 3) rfl)) (j.mono (by decide)) (by rfl) (T.n _ 3 rfl) (T.be rfl) (T.ty rfl) (k1 (kv 1)))) (Xs Qq)) (ZR (Qjw (kt QbX (Qfu rfl (by rfl) (T.b _ rfl) (by rfl) (T.b _ rfl) (k1 (kv 3))) (kl T (kv 3))) (Qas (Qaj Qco rfl (CalI.mk (ci B (D:=cc 4) rfl)) (j.mono (by decide)) (by rfl) (T.n _ 4 rfl) (T.be rfl) (T.ty rfl) (k1 (kv 1)))) (Xs Qq)) (Xs (Qi (Qo (Zw (Qh Qr (Qh (kx (kv 2) Qb) (k1 (kv 3))))))))))))))
def QlL(B:Bd P w K mg base):Qpt P w K mg base 3 "read_row" "row" 0 (Zs cc):=by
 obtain⟨_,a,F⟩:=(fx B).r;exact⟨_,_,_,QjA B (fx B) F,a,F.kp,F.binds (ps:=["line","row"]) λ_ _ _ _ _ _ _ d us j=>match us,j with | [_,_],_=>⟨_,rfl,rfl⟩,F.bindsD (ps:=["line","row"]) λ_ _ _ _ _ _ _ d us j=>match us,j with | [_],_=>⟨_,rfl,rfl⟩,Qov (y := "row") (ps:=["line","row"]) F rfl λ_ _ _ _ _ _ _ d u w=>⟨_,rfl,rfl⟩⟩
abbrev QdV:Stmt:=top 20
def QbM:List Str:=["rows","kind"]
def Xm(B:Bd P w K mg base):Cal P w K mg base 1 "of_kind" 2 Zj:=qc B 20 λ{f fd} T F=>by
 have m:FnScope QbM ["rows","kind"] (Qc QdV):=⟨rfl,rfl,rfl,by decide+kernel,rfl,by decide+kernel,by decide+kernel⟩
 have nd:=m.nd;refine fnM (N:=QbM) (k:=0) F m rfl λj A outer s H E D=>?_;exact(Qi (QdH (YC (X:=(cxOf CX0 P w K mg base QbM "of_kind" (Qc QdV) f j A outer s H E).nox) (N':=["told","kind"]) (nt:=1) (caps:=[1]) (ts:=[0]) (ns:=([0]++[1])) (ls:=[0]) rfl (Qaf (N:=QbM) (osc:=(Qc QdV)) rfl rfl (by decide+kernel)) (by decide) (QJ _) (Yr (kv 0)) (λ_ _ _ _ _ _=>(Zu (QS (i:=0) (show(["told","kind"]:List Str).Nodup by decide+kernel) rfl (Or.inl rfl)))) (λ_ _ _ _ _ _=>(Qjc (XE (QF (by exact D.units)) (QaP QaO (Qu 0 (pv 0)) Qb (λ_ _=>rfl)) (Qu 1 (pv 1)) (Xp _)))) (λ_ _ _ _ _ _=>(Qu 0 (pv 0))))))
abbrev Qlg:Stmt:=top 21
def QfA:List Str:=["rows","words","told"]
def Qfz(B:Bd P w K mg base):Cal P w K mg base 1 "words_in" 1 Xn:=qc B 21 λ{f fd} T F=>by
 have j:FnScope QfA ["rows"] (Qc Qlg):=⟨rfl,rfl,rfl,by decide+kernel,rfl,by decide+kernel,by decide+kernel⟩
 have nd:=j.nd;refine fnM (N:=QfA) (k:=0) F j rfl λD A outer s H E m=>?_;exact(Qf (ko nd (QO Qm)) (Qf (Qml bJ rfl (Yr (kv 0)) (kg nd) (Qf (QeS (i:=1) (pv 1) (kx (kv 2) Qb) (Ys (Qad bj cM cL YN (pv 1) (YY (kx (kv 2) Qb))))) (Qi (sm_exM (i:=1) (pv 1) (Qpm (kt (QF m.units) (kx (kv 2) Qb) Qr) (EO.em (QO (k1 (kx (kv 2) Qb)))) (kx (kv 2) Qb)) (Ys (Qad bj PySem.F.slot_list_extend PySem.F.type_list_extend mt_exM (pv 1) (YY (Qpm (kt (QF m.units) (kx (kv 2) Qb) Qr) (EO.em (QO (k1 (kx (kv 2) Qb)))) (kx (kv 2) Qb))))))))) (Qi (QaS 1 (pv 1)))))
abbrev QgD:Stmt:=top 22
def QbV:List Str:=["rows"]
def QgJ(B:Bd P w K mg base):Cal P w K mg base 2 "over_bounds" 1 Ye:=qc B 22 λ{f fd} T F=>by
 have m:FnScope QbV ["rows"] (Qc QgD):=⟨rfl,rfl,rfl,by decide+kernel,rfl,by decide+kernel,by decide+kernel⟩
 have nd:=m.nd;refine fnM (N:=QbV) (k:=1) F m rfl λD A outer s H E j=>?_;exact(Qf (QA (WM.tm (QeM (kt QdR (kl T (kc (Xm B) j (Qh (kv 0) (ZE Qm)))) (Qme (by rfl) (T.i _ _ rfl))) (QcU (kt QdR (kl T (kc (Xm B) j (Qh (kv 0) (ZE Qm)))) (Qme (by rfl) (T.i _ _ rfl)))))) (Qi (Qo Qbo)) Qq) (Qi (Qo (Qcl QdR (QjK rfl (by rfl) (T.b _ rfl) (by rfl) (T.b _ rfl) (k1 (kc (Qfz B) j (k1 (kv 0))))) (Qme (by rfl) (T.i _ _ rfl)) (Xp _)))))
abbrev Qjq:Stmt:=top 19
def Qey:List Str:=["told"]
def Qeu(B:Bd P w K mg base):Cal P w K mg base 1 "told_once" 1 ZL:=qc B 19 λ{f fd} T F=>by
 have j:FnScope Qey ["told"] (Qc Qjq):=⟨rfl,rfl,rfl,by decide+kernel,rfl,by decide+kernel,by decide+kernel⟩
 have nd:=j.nd;refine fnM (N:=Qey) (k:=0) F j rfl λm A outer s H E D=>?_;exact(Qf (QA (kt (QF D.units) (kx (kv 0) Qb) Qr) (Qi (Qo (Zw (Qh Qr (k1 (kx (kv 0) Qb)))))) Qq) (Qi (Qo (Zw (Qh Qr (Qh (kx (kv 0) Qb) (k1 (Zk ZX (by rfl) (T.b _ rfl) (by kernel_rfl) (k1 (EO.em (Qal Qcs (by rfl) (T.b _ rfl) (by kernel_rfl) (k1 (kx (kv 0) Qb)))))))))))))
abbrev Qbk:Stmt:=top 23
def Xz:List Str:=["lines","rows","number","line","told"]
def QjS(B:Bd P w K mg base):CalZ P w K mg base 4 "read_rows" 1 (Zh cc):=qc B 23 λ{f fd} T F=>by
 have G:FnScope Xz ["lines"] (Qc Qbk):=⟨rfl,rfl,rfl,by decide+kernel,rfl,by decide+kernel,by decide+kernel⟩
 have nd:=G.nd;refine fnRA (N:=Xz) (k:=3) F G rfl λm A outer s H E j=>?_;exact(ZR (QbZ (ko nd (QO Qm))) (ZR (rm_for ownA rfl (QkC rfl (by rfl) (T.b _ rfl) (k1 (kv 0))) (Qnr (pg_tup rfl (Qdn (QS (i:=2) nd rfl (Or.inl rfl)) (Qdn (QS (i:=3) nd rfl (Or.inl rfl)) QmZ)))) (ZR (rm_set (i:=4) nd rfl (Or.inl rfl) (QfK Qpe (Qpt.cal (QlL B)) (Qdy cc) (j.mono (by decide)) (by rfl) (Qh (kv 3) (k1 (kv 2))))) (ZR (Qjw (XE (Qma j.units) (kc (Qeu B) j (k1 (kv 4))) (EO.em (YC (X:=(cxA P w K mg base Xz "read_rows" (Qc Qbk) f m A outer s H E).nox) (N':=["above"]) (nt:=1) (caps:=[]) (ts:=[0]) (ns:=[]) (ls:=[0]) rfl (Qaf (N:=Xz) (osc:=(Qc Qbk)) rfl rfl (by decide+kernel)) (by decide) (QJ _) (Yr (kv 1)) (λ_ _ _ _ _ _=>(Zu (QS (i:=0) (show(["above"]:List Str).Nodup by decide+kernel) rfl (Or.inl rfl)))) (λ_ _ _ _ _ _=>XG) (λ_ _ _ _ _ _=>(QeW (Qeu B) QeE (j.mono (by decide)) (by rfl) (Qh (Qu 0 (pv 0)) Qm))))) (by with_unfolding_all rfl)) (Qas (Qaj Qiy rfl (CalI.mk (ci B (D:=cc 4) rfl)) (j.mono (by decide)) (by rfl) (T.n _ 4 rfl) (T.be rfl) (T.ty rfl) (k1 (kv 2)))) (Xs Qq)) (ZR (QbZ (QeS (i:=1) (pv 1) (kv 4) (Ys (Qad bj cM cL YN (pv 1) (YY (kv 4)))))) (Qas (Qjw (Xt (kc (QgJ B) j (k1 (kv 1)))) (Qas (Qaj Qiy rfl (CalI.mk (ci B (D:=cc 3) rfl)) (j.mono (by decide)) (by rfl) (T.n _ 3 rfl) (T.be rfl) (T.ty rfl) (k1 (kv 2)))) (Xs Qq))))))) (Xs (Qi (QaS 1 (pv 1))))))
abbrev Qax:Stmt:=top 24
def YU:List Str:=["rows","guesses","number","told"]
def QeI(B:Bd P w K mg base):CalZ P w K mg base 3 "refuse_headed" 1 (Qz cc):=qc B 24 λ{f fd} T F=>by
 have m:FnScope YU ["rows"] (Qc Qax):=⟨rfl,rfl,rfl,by decide+kernel,rfl,by decide+kernel,by decide+kernel⟩
 have nd:=m.nd;refine fnRA (N:=YU) (k:=2) F m rfl λG A outer s H E j=>?_;exact(ZR (QbZ (QaE (i:=1) nd rfl rfl (N':=["told"]) (nt:=1) (caps:=[]) (ts:=[0]) (ns:=[]) (ls:=[0]) rfl (Qaf (N:=YU) (osc:=(Qc Qax)) rfl rfl (by decide+kernel)) (by decide) (QJ _) (Yr (kc (Xm B) j (Qh (kv 0) (ZE Qm)))) (λ_ _ _ _ _ _=>(Zu (QS (i:=0) (show(["told"]:List Str).Nodup by decide+kernel) rfl (Or.inl rfl)))) (λ_ _ _ _ _ _=>XG) (λ_ _ _ _ _ _=>(QaP QaO (Qu 0 (pv 0)) Qb (λ_ _=>rfl))))) (Qas (rm_for ownA rfl (QkC rfl (by rfl) (T.b _ rfl) (k1 (kv 0))) (Qnr (pg_tup rfl (Qdn (QS (i:=2) nd rfl (Or.inl rfl)) (Qdn (QS (i:=3) nd rfl (Or.inl rfl)) QmZ)))) (Qas (Qjw (WM.tm (XD (kt (QF j.units) (kx (kv 3) Qb) Qr) (YA (XE (Qma j.units) (kx (kv 3) Qb) (kv 1) (by with_unfolding_all rfl))))) (Qas (Qaj Qiy rfl (CalI.mk (ci B (D:=cc 5) rfl)) (j.mono (by decide)) (by rfl) (T.n _ 5 rfl) (T.be rfl) (T.ty rfl) (k1 (kv 2)))) (Xs Qq))))))
abbrev Qfj:Stmt:=top 25
def Qcv:List Str:=["rows","guesses"]
def QlM(B:Bd P w K mg base):Cal P w K mg base 2 "names_of" 1 QaG:=qc B 25 λ{f fd} T F=>by
 have j:FnScope Qcv ["rows"] (Qc Qfj):=⟨rfl,rfl,rfl,by decide+kernel,rfl,by decide+kernel,by decide+kernel⟩
 have nd:=j.nd;refine fnM (N:=Qcv) (k:=1) F j rfl λD A outer s H E m=>?_;exact(Qf (QaE (i:=1) nd rfl rfl (N':=["told"]) (nt:=1) (caps:=[]) (ts:=[0]) (ns:=[]) (ls:=[0]) rfl (Qaf (N:=Qcv) (osc:=(Qc Qfj)) rfl rfl (by decide+kernel)) (by decide) (QJ _) (Yr (kc (Xm B) m (Qh (kv 0) (ZE Qm)))) (λ_ _ _ _ _ _=>(Zu (QS (i:=0) (show(["told"]:List Str).Nodup by decide+kernel) rfl (Or.inl rfl)))) (λ_ _ _ _ _ _=>XG) (λ_ _ _ _ _ _=>(QaP QaO (Qu 0 (pv 0)) Qb (λ_ _=>rfl)))) (Qi (Qo (Zk ZX (by rfl) (T.b _ rfl) (by kernel_rfl) (k1 (EO.em (Qib QcW (EO.em (Qal Qek (by rfl) (T.b _ rfl) (by kernel_rfl) (k1 (kv 1)))) (EO.em (QjJ rfl (by rfl) (T.b _ rfl) (by rfl) (T.b _ rfl) (k1 (kc (Qfz B) m (k1 (kv 0)))) (k1 (kv 1)))))))))))
abbrev YS:Stmt:=top 26
def Yj:List Str:=["names","told","body"]
def QeJ(B:Bd P w K mg base):Cal P w K mg base 1 "numbered_rule" 2 Zy:=qc B 26 λ{f fd} T F=>by
 have m:FnScope Yj ["names","told"] (Qc YS):=⟨rfl,rfl,rfl,by decide+kernel,rfl,by decide+kernel,by decide+kernel⟩
 have nd:=m.nd;refine fnM (N:=Yj) (k:=0) F m rfl λj A outer s H E D=>?_;exact(Qf (ko nd (Qal Qek (by rfl) (T.b _ rfl) (by kernel_rfl) (k1 (EO.em (YC (X:=(cxOf CX0 P w K mg base Yj "numbered_rule" (Qc YS) f j A outer s H E).nox) (N':=["word","names"]) (nt:=1) (caps:=[0]) (ts:=[0]) (ns:=[]) (ls:=[1,0]) rfl (Qaf (N:=Yj) (osc:=(Qc YS)) rfl rfl (by decide+kernel)) (by decide) (QJ _) (im_seq (kx (kv 1) Qb)) (λ_ _ _ _ _ _=>(Zu (QS (i:=0) (show(["word","names"]:List Str).Nodup by decide+kernel) rfl (Or.inl rfl)))) (λ_ _ _ _ _ _=>XG) (λ_ _ _ _ _ _=>(Qei (Qu 1 (pv 1)) (Qh (Qu 0 (pv 0)) Qm)))))))) (Qi (Qo (Zw (Qh (Qei (kv 0) (k1 (kx (kv 1) Qb))) (k1 (Zk ZX (by rfl) (T.b _ rfl) (by kernel_rfl) (k1 (kv 2)))))))))
abbrev Zx:Stmt:=top 27
def QZ:List Str:=["names","rows","guesses","banes","rules"]
def QeK(B:Bd P w K mg base):Cal P w K mg base 2 "numbered_book" 2 Yi:=qc B 27 λ{f fd} T F=>by
 have D:FnScope QZ ["names","rows"] (Qc Zx):=⟨rfl,rfl,rfl,by decide+kernel,rfl,by decide+kernel,by decide+kernel⟩
 have nd:=D.nd;refine fnM (N:=QZ) (k:=1) F D rfl λj A outer s H E m=>?_;exact(Qf (ko nd (Qal QjQ (by rfl) (T.b _ rfl) (by kernel_rfl) (k1 (kc (Xm B) m (Qh (kv 1) (ZE Qm)))))) (Qf (ks nd (Zk ZX (by rfl) (T.b _ rfl) (by kernel_rfl) (k1 (EO.em (YC (X:=(cxOf CX0 P w K mg base QZ "numbered_book" (Qc Zx) f j A outer s H E).nox) (N':=["told","names"]) (nt:=1) (caps:=[0]) (ts:=[0]) (ns:=[]) (ls:=[1,0]) rfl (Qaf (N:=QZ) (osc:=(Qc Zx)) rfl rfl (by decide+kernel)) (by decide) (QJ _) (Yr (kv 2)) (λ_ _ _ _ _ _=>(Zu (QS (i:=0) (show(["told","names"]:List Str).Nodup by decide+kernel) rfl (Or.inl rfl)))) (λ_ _ _ _ _ _=>XG) (λ_ _ _ _ _ _=>(Qei (Qu 1 (pv 1)) (Qh (QaP QaO (Qu 0 (pv 0)) Qb (λ_ _=>rfl)) Qm)))))))) (Qf (ks nd (Zk ZX (by rfl) (T.b _ rfl) (by kernel_rfl) (k1 (EO.em (YC (X:=(cxOf CX0 P w K mg base QZ "numbered_book" (Qc Zx) f j A outer s H E).nox) (N':=["told","names"]) (nt:=1) (caps:=[0]) (ts:=[0]) (ns:=[]) (ls:=[1,0]) rfl (Qaf (N:=QZ) (osc:=(Qc Zx)) rfl rfl (by decide+kernel)) (by decide) (QJ _) (Yr (kc (Xm B) m (Qh (kv 1) (ZE Qm)))) (λ_ _ _ _ _ _=>(Zu (QS (i:=0) (show(["told","names"]:List Str).Nodup by decide+kernel) rfl (Or.inl rfl)))) (λ_ _ _ _ _ _=>XG) (λ_ _ _ _ _ _=>(QeW (QeJ B) Qbu (m.mono (by decide)) (by rfl) (Qh (Qu 1 (pv 1)) (Qh (Qu 0 (pv 0)) Qm))))))))) (Qi (Qo (Zw (Qh (kl T (kv 0)) (Qh (kv 3) (k1 (kv 4))))))))))
abbrev Qie:Stmt:=top 28
def QcQ:List Str:=["lines","rows","names"]
def Qio(B:Bd P w K mg base):CalZ P w K mg base 5 "read_lines" 1 (QV cc):=qc B 28 λ{f fd} T F=>by
 have m:FnScope QcQ ["lines"] (Qc Qie):=⟨rfl,rfl,rfl,by decide+kernel,rfl,by decide+kernel,by decide+kernel⟩
 have nd:=m.nd;refine fnRA (N:=QcQ) (k:=4) F m rfl λD A outer s H E j=>?_;exact(ZR (rm_set (i:=1) nd rfl (Or.inl rfl) (QfK Qpe (QjS B) (Qcx cc) (j.mono (by decide)) (by rfl) (k1 (kv 0)))) (ZR (rm_exE (QfK Qpe (QeI B) (QaN cc) (j.mono (by decide)) (by rfl) (k1 (kv 1)))) (Xs (Qf (ks nd (kc (QlM B) j (k1 (kv 1)))) (Qi (Qo (Zw (Qh (kv 2) (k1 (kc (QeK B) j (Qh (kv 2) (k1 (kv 1)))))))))))))
abbrev Qlh:Stmt:=top 18
def QfC:List Str:=["text"]
def QlN(B:Bd P w K mg base):Cal P w K mg base 1 "lines_of" 1 YL:=qc B 18 λ{f fd} T F=>by
 have j:FnScope QfC ["text"] (Qc Qlh):=⟨rfl,rfl,rfl,by decide+kernel,rfl,by decide+kernel,by decide+kernel⟩
 have nd:=j.nd;refine fnM (N:=QfC) (k:=0) F j rfl λm A outer s H E D=>?_;exact(Qi (Qo (Qpm (Xt (kv 0)) (EO.em (QkL (kv 0) (ZE Qm))) (EO.em (QO Qm)))))
abbrev Qjr:Stmt:=top 29
def Qez:List Str:=["text"]
def QjT(B:Bd P w K mg base):CalZ P w K mg base 6 "read_book" 1 (Zi cc):=qc B 29 λ{f fd} T F=>by
 have j:FnScope Qez ["text"] (Qc Qjr):=⟨rfl,rfl,rfl,by decide+kernel,rfl,by decide+kernel,by decide+kernel⟩
 have nd:=j.nd;refine fnRA (N:=Qez) (k:=5) F j rfl λD A outer s H E m=>?_;exact(Qas (rm_ret (QfK Qpe (Qio B) (Qce cc) (m.mono (by decide)) (by rfl) (k1 (kc (QlN B) m (k1 (kv 0)))))))
abbrev Qao:Stmt:=top 48
def Xf:List Str:=["text","due","kinds","at","found","e"]
def Qip(B:Bd P w K mg base):Cal P w K mg base 7 "_law_right" 2 (Zo cc):=qc B 48 λ{f fd} T F=>by
 have I:FnScope Xf ["text","due"] (Qc Qao):=⟨rfl,rfl,rfl,by decide+kernel,rfl,by decide+kernel,by decide+kernel⟩
 have nd:=I.nd;refine fnM (N:=Xf) (k:=6) F I rfl λG A outer s H E j=>?_;exact(Qf (ko nd (QO Qm)) (Qf (ks nd Qb) (Qf (ks nd em_non) (Qf (sm_tryX (i:=5) (Cs:=[cc 1,cc 2,cc 3,cc 4,cc 5]) rfl rfl rfl (λxe=>(qs_one (qm_set (i:=4) nd rfl (Or.inl rfl) (QjT B) (Qcy cc) (j.mono (by decide)) (by rfl) (Qh (Qu 0 (pv 0)) Qm)))) (λa=>(Qf (QdG (i:=2) nd rfl (Or.inl rfl) (QO (Qh (QgV (x := "NoRow") (T.s _ _ (by kernel_rfl)) (Qu 5 (pv 5)) (by rfl) (T.b _ rfl) (by rfl) (T.n _ 2 rfl)) (Qh (QgV (x := "TooMany") (T.s _ _ (by kernel_rfl)) (Qu 5 (pv 5)) (by rfl) (T.b _ rfl) (by rfl) (T.n _ 3 rfl)) (Qh (QgV (x := "Twice") (T.s _ _ (by kernel_rfl)) (Qu 5 (pv 5)) (by rfl) (T.b _ rfl) (by rfl) (T.n _ 4 rfl)) (Qh (QgV (x := "Headed") (T.s _ _ (by kernel_rfl)) (Qu 5 (pv 5)) (by rfl) (T.b _ rfl) (by rfl) (T.n _ 5 rfl)) Qm))))))
   (Qf (QdG (i:=2) nd rfl (Or.inl rfl) (Qib QcW (Qu 2 (pv 2)) (EO.em (QO (Qh (QgV (x := "HallError") (T.s _ _ (by kernel_rfl)) (Qu 5 (pv 5)) (by rfl) (T.b _ rfl) (by rfl) (T.n _ 0 rfl)) (Qh (em_isXB (x := "ValueError") (T.s (.type "ValueError") _ (by kernel_rfl)) (Qu 5 (pv 5)) (by rfl) (T.b _ rfl) (by rfl) (T.b _ rfl) (by kernel_rfl)) Qm))))))
   (Qi (QiP (i:=3) nd rfl (Or.inl rfl) (em_fldX (Qu 5 (pv 5)) (λD m=>(T.x D m).1))))))) (λD m=>⟨(T.x D m).2.1,(T.x D m).1.cl.be⟩) (by rfl) (T.n _ 1 rfl) ⟨(T.x _ rfl).1.cl,(T.x _ rfl).2.2.1⟩ nd rfl rfl) (Qf (QA (kt QbX (kx (kv 1) Qb) Qb) (Qi (Qo (QgW (Qcl (QF j.units) (kv 2) (EO.em (QO Qm)) (Xp _)) (QgW (Qeh (x := "tuple") isi_tup (kv 4) (by rfl) (T.b _ rfl) (by rfl) (T.b _ rfl) (by kernel_rfl)) (Qjf (Qcl (QF j.units) (kl T (kv 4)) Qb (Xp _))))))) Qq) (Qf (QA (kt (Qia j.units) (kv 2) (EO.em (Qib QcW (EO.em (YC (X:=(cxOf CX0 P w K mg base Xf "_law_right" (Qc Qao) f G A outer s H E).nox) (N':=["k","due"]) (nt:=1) (caps:=[1]) (ts:=[0]) (ns:=[]) (ls:=[0,1]) rfl (Qaf (N:=Xf) (osc:=(Qc Qao)) rfl rfl (by decide+kernel)) (by decide) (QJ _) (QhD (by rfl) (T.b _ rfl) (QD Qm)) (λ_ _ _ _ _ _=>(Zu (QS (i:=0) (show(["k","due"]:List Str).Nodup by decide+kernel) rfl (Or.inl rfl)))) (λ_ _ _ _ _ _=>XG) (λ_ _ _ _ _ _=>(Qcl (QF (by exact j.units)) (Qu 0 (pv 0)) (QaP QaO (Qu 1 (pv 1)) Qb (λ_ _=>rfl)) (Xp _))))) (EO.em (QO (Qh Qbo (k1 Qbo))))))) (Qi (Qo Qbo)) Qq) (Qi (Qo (QgW (Qeh (x := "int") isi_int (kv 3) (by rfl) (T.b _ rfl) (by rfl) (T.b _ rfl) (by kernel_rfl)) (QgW (em_not (Qeh (x := "bool") isi_bl (kv 3) (by rfl) (T.b _ rfl) (by rfl) (T.b _ rfl) (by kernel_rfl))) (Qjf (Qcl (QF j.units) (kv 3) (kx (kv 1) Qb) (Xp _)))))))))))))
abbrev QoY:Stmt:=top 49
def Qps:List Str:=["script","rows","k","due"]
def ok_law{f:Addr}{fd:cA}(B:Bd P w K mg base)(T:Txt K mg)(F:Fun K "law" "law" QoY f fd):FnOk P w K mg base CX0 8 f fd ["script"] (spM K 1 (QbF cc)):=by
 have D:FnScope Qps ["script"] (Qc QoY):=⟨rfl,rfl,rfl,by decide+kernel,rfl,by decide+kernel,by decide+kernel⟩
 have nd:=D.nd;refine fnM (N:=Qps) (k:=7) F D rfl λm A outer s H E j=>?_;exact(Qf (ko nd (Qmu (QjV B) Qcz (j.mono (by decide)) (by rfl) (k1 (kv 0)))) (Qf (YZ bJ rfl (Zm (by rfl) (T.b _ rfl) (QD Qm)) (kg nd) (Qf (ko nd (Qmu (QlO B) Qdz (j.mono (by decide)) (by rfl) (k1 (kv 1)))) (Qf (QA (Qmi (Xt (kc (Qip B) j (Qh (Qnz Qr (k1 (EO.em (YC (X:=(cxOf CX0 P w K mg base Qps "law" (Qc QoY) f m A outer s H E).nox) (N':=["row"]) (nt:=1) (caps:=[]) (ts:=[0]) (ns:=[]) (ls:=[0]) rfl (Qaf (N:=Qps) (osc:=(Qc QoY)) rfl rfl (by decide+kernel)) (by decide) (QJ _) (Yr (kv 1)) (λ_ _ _ _ _ _=>(Zu (QS (i:=0) (show(["row"]:List Str).Nodup by decide+kernel) rfl (Or.inl rfl)))) (λ_ _ _ _ _ _=>XG) (λ_ _ _ _ _ _=>(QeW (Qew B) QcA (j.mono (by decide)) (by rfl) (Qh (Qu 0 (pv 0)) Qm))))))) (k1 (kv 3)))))) (Qi (Qo Qbo)) Qq) (Qf (QA (kt QbX (kx (kv 3) Qb) Qb) (Qi (Qo Qbo)) Qq) (Qi (sm_pop (i:=1) (pv 1) (Ys (Qad bj PySem.F.slot_list_pop PySem.F.type_list_pop mt_popAt (pv 1) (YY (kx (kv 3) Qb)))))))))) (Qi (Qo Qbo))))
def h_said:li PySem.Challenge.rw_doubthall_k04_first_fault=true:=by kernel_rfl
def h_one(w:bg)(os:jd):end_ PySem.Challenge.pw_doubthall_k04_first_fault (only PySem.Challenge.pw_doubthall_k04_first_fault (top 49)) ka w os 2516=some (true,openGood (only PySem.Challenge.pw_doubthall_k04_first_fault (top 49)) (Qau PySem.Challenge.pw_doubthall_k04_first_fault),(kk w.params).map λx=>some x.2):=by kernel_rfl
end K04
open PySem PySem.W PyProof.Rows
set_option maxRecDepth 100000 in
set_option maxHeartbeats 8000000 in
theorem PySem.Challenge.cw_doubthall_k04_first_fault_holds : PySem.Challenge.rw_doubthall_k04_first_fault.Holds := by
 refine HD.opens (K:=K04.kk) (as:=K04.ka) (st:=K04.top 49) (N:=2516) K04.h_said (by kernel_rfl) (λs=>by kernel_rfl) (by kernel_rfl) K04.h_one (λP=>by kernel_rfl) (by kernel_rfl) (by kernel_rfl) (by kernel_rfl) (by kernel_rfl) ⟨rfl,rfl,rfl,rfl,rfl,by decide+kernel⟩ ?hw ?hc
 (case hw=>w_witness2)
 refine L2.walk_of (n:=63) (k:=8) (x := "script") (CX:=λ_=>L2.CX0) (sp:=λw=>L2.PM.spM (K04.kk w.params) 1 L2.PM.trueOn) rfl (by decide) rfl ⟨rfl,by decide,by decide⟩ (λw h Y=>Y) (λw mg fa h X G e=>?_) (λw H a ns hl _ hS=>L2.PM.law_sp L2.PM.trueOn_ok hl hS) λ_ _ _ _ _ z=>z;have T:=K04.fx (P:=PySem.Challenge.rw_doubthall_k04_first_fault.prog) (base:=h) ⟨rfl,h,X,G⟩;obtain⟨f,fd,a,F⟩:=T.d 49 rfl;cases e.symm.trans a;have F2:=F;obtain⟨_,_,kV,dc,pm,an,cd,ct,_,rfl,_,_⟩:=F2.ex;exact⟨_,λs v=>.of_eq rfl,λbase _ _=>(K04.ok_law ⟨rfl,h,X,G⟩ T F).sw λqs r h=>L2.PM.trueOn_get (K04.law_true K04.cc (by decide+kernel)) h⟩
