import PyProof.Rows.All
import Wide.All
import OpenK.AllK
import Wide.FinOn
import Lean
import PyProof.EqAt
import PyProof.EqKinds
import PyProof.TupleCall
import PyProof.NeKinds
import PyProof.EnumMake
import PyProof.ConsumeWalk
import PyProof.StrWalks
import PyProof.WalksMore
import PyProof.StrLawsNeg
import KE.KDictList
import KE.KDictOf
import KE.KLam
import KE.KMinKey
import KE.KSortTup
import KE.KUnpack
import PyProof.AttrMiss
import PyProof.Rows.SortKey
import PyProof.Rows.ZipGen
import PyProof.ZipIter
import PySem.Challenge.RW_citeward_k33_whole_texts_set
set_option compiler.extract_closed false
set_option Elab.async false
set_option linter.all false
set_option genSizeOf false
set_option genSizeOfSpec false
set_option maxRecDepth 100000
set_option maxHeartbeats 4000000
set_option backward.eqns.nonrecursive false
set_option genInjectivity false
open PySem.Str renaming ofString->aa,empty->dy,join->g5,append_assoc->i4,append_empty->ju,cps_append->qa,empty_append->ww,length->IF
open List renaming mem_cons_self->ac,mem_cons_of_mem->ag,length_map->aj,mem_singleton->ao,mem_map->av,length_append->ax,mem_cons->az,length_cons->ca,map_append->cb,getElem?_eq_getElem->cf,map_cons->cg,getElem?_eq_some_iff->ci,getElem?_map->c8,size_toArray->c9,mem_append_right->di,mem_append->dm,mem_append_left->dr,getD_eq_getElem?_getD->du,length_singleton->dv,nodup_cons->fm,map_map->f7,nil_append->f8,append_assoc->f9,nodup_nil->gd,mem_of_getElem?->gh,all_eq_true->gi,getElem?_set_ne->gj,getElem?_set_self->gv,range->gz,drop_eq_getElem_cons->ic,length_set->io,append_nil->iq,replicate->ir,nodup_append->iw,getElem?_append_left->ix,toArray->iy,getElem?_append_right->jb,filterMap_cons_some->ji,filterMap_cons_none->jm,filterMap_cons->jw,getElem?_zip_eq_some->jz,length_replicate->j0,map_congr_left->kj,take_of_length_le->kx,all_map->ky,mem_range->lh,findIdx?_cons->lj,length_zip->l5,find?_cons->l7,map_nil->mf,getElem?_of_mem->mh,all_cons->mo,lookup_cons->mv,not_lt->mx,zip_cons_cons->m8,mem_filterMap->m9,eq_nil_or_concat->nr,concat_eq_append->nu,drop_zero->oh,length_take->om,length_drop->oo,getElem_mem->oq,getElem?_eq_none_iff->ox,replicate_succ->o0,any_cons->o8,of_mem_zip->ph,length_nil->pj,forIn_cons->po,all_append->pq,length->p9,flatMap_cons->qh,mem_iff_getElem?->qk,mem_of_mem_take->qy,mem_of_mem_drop->q5,map->re,mem_filter->ri,findIdx_cons->t9,findIdx?_map->ua,mem_flatMap->uq,map_snd_zip->ur,map_fst_zip->ut,getElem?_replicate->uu,range_succ_eq_map->ux,drop_of_length_le->uy,dropLast_eq_take->u9,forIn_nil->vh,filterMap->vi,drop_left->vj,count_le_length->vk,getElem_of_mem->vv,getElem?_range->vw,set_cons_zero->v8,filterMap_map->v9,findIdx?_eq_some_iff_getElem->wc,range'_succ->wz,not_mem_nil->w5,drop_length->w8,range'->xc,eq_nil_of_length_eq_zero->xf,dropLast_concat_getLast->xm,take_left->yb,getLast_eq_getElem->zj,filter_cons_of_pos->zm,filter_cons_of_neg->zn,cons->zp,map_id'->AJ,find?_cons_of_pos->AK,find?_cons_of_neg->AL,set_append_right->AW,filterMap_append->AX,count_cons_self->BG,length_take_le->BT,length_pos_iff->BU,filter_sublist->BW,set_cons_succ->CY,pairwise_cons->CZ,find?_eq_none->DA,contains_cons->DB,getElem_take->DQ,getElem_zip->EK,getElem_inj->EL,ext_getElem->EM,countP_cons->EN,cons_ne_nil->EO,any_eq_true->EQ,range_succ->EV,foldl_cons->EW,drop_drop->FV,map_take->GG,le_trans->GH
open PySem renaming wpAny_bind->af,Value->am,Addr->aq,Shared->au,wpAny_pure->ay,wpAny->de,sizeLine->dg,model->dw,Expr->dz,Program->eg,Around->fj,mainGlobals->f6,World->gq,Heap->ie,wpAny_mono->ij,wpAny_loadPart'->im,compareOp->i3,swapsWith->i6,sysModules->i7,strIterType->i9,NameKind->ja,cLine->jf,FuncData->jg,wpAny_call_entry->jt,starEach->jv,sizeLine_eq->jx,rawInt->j4,wpAny_holding->j6,wpAny_dictEntries->j7,call_meets->j8,mem_of_lookup->ke,bootBuiltins->kq,Stmt->lu,codeAny_builtin->lw,sliceBounds->l9,foldedSetIterable->md,wpAny_typeNameOfWhole_keyiter->mw,wpAny_Call_Name_kw->my,tupleKind_room_in1->mz,wpAny_passesOwn->nc,wpAny_dictEpoch->ng,behindInMarks->nh,wpAny_notOrdered_dict->nj,wpAny_truthy_bool->nv,wpAny_newObj_type->nw,wpAny_field->ny,Scope->n9,DictEntry->ou,eval->oz,wpAny_typeNameOf_keyiter->o6,plainId_quiet->o7,wpAny_updateSeq->pf,Builtin->pv,assignEach->pz,wpAny_getItem_str_slice->p7,wpAny_callSpecial?_slot->p8,builtinLookup_eq_fast->qj,typeIs_str->qo,pyNext->qr,backTo->qt,letOwnedTupleGo->rh,codeAny->rj,tupleKind->ro,wpAny_setField->se,typeLookup->si,binaryOp->sj,wpAny_attempt->ud,wpAny_isInstance->uj,codeAmong->uk,wpAny_rule->uw,IsPair->uz,wpAny_execs_nil->u2,typeLookup_type->u3,post_val_or_str->u4,wpAny_isOneOf_keyiter->u7,wpAny_seqItems->vb,wpAny_fieldsOf->vc,bindArgs->vd,ZipApart->ve,valueAt->vo,relabel->vp,callerA->vq,attributeBase->vz,closureFor->v4,builtinsNs->v5,Paired->v6,JoinOk->wb,wpAny_typeOf->we,slot_list_getitem->wf,getItem->wg,codeAny_mono->wj,call_meetsIn->wm,atKey->wn,Params->wy,Arguments->xa,subscripted->xb,wpAny_specialOf->xh,wpAny_richCompare_same_room->xp,BindsTo->xq,Model->ya,wpAny_newList->yf,wpAny_getItem_list_slice->yg,wpAny_comprehension_free->yh,slicePick->yo,noteFrame->yp,bindL->yt,bindC->yu,PassesOwn->zi,wpAny_nextOf_list_item->zw,richCompare_meets_room->z7,holding->AA,assign->AB,IsPart->AM,wpAny_pyNext_zip_item->AR,wpAny_pyNext_zip_end->AY,wpAny_newFunctionEnv->AZ,wpAny_loadName_local->BA,Operator->BF,wpAny_loadName_cell->BJ,wpAny_call->BX,wpAny_Name->BY,typeOf->BZ,sliceRange->CA,pyIter->CC,getattributeRaised->CF,entryOfKey->CG,defaultsOf->CH,cellOf->CI,Result->CQ,call->CS,wpAny_pyIter_slot->DD,wpAny_pyIter_list->DE,wpAny_pyIter_enum->DF,wpAny_assign_Name->DG,storedH->DH,Meets->DP,Keyword->DS,CmpOp->DW,wpAny_pyIter_zip->DY,wpAny_forIn_list->DZ,wpAny_execs_cons->EA,wpAny_Dict_empty->EB,strValues->EC,storeName->ED,setFlight->EE,cellsFrom->EF,TriplesOk->EG,wpAny_notIn_of->FC,wpAny_newTuple->FF,setField->FJ,isSubtype_stop->FK,firstArgMember->FM,callType_codes->FN,intText?->FP,boot_len->FQ,wpAny_standAt->FY,intBits_le_64->FZ,evalPart_none->GA,call_list_seq->GB,KeyKind->GF,spliced->GN,seqIndex_neg->GO,operate->GR,newList->GT,wpAny_letGo->HA,wpAny_in_of->HC,wpAny_Slice->HE,unsupported->HG,seqIndex_of->HH,putAt->HJ,keywordEach->HM,interactive->HP,data2->HQ,IsRangeIter->HW,wpAny_load->HZ,stored->IB,checkCount->IE,PlainAttrs->IG,DefRec->IJ,updateSeq->IK,seqIndex?->IL,lastMarks->IM,inplaceOp->IQ
open PySem.W renaming Frag->ak,nsIn->gu,mroIn->jd,fnOf->kr,keepIn->lg,kia_one->ly,kitOne->og,isClsIn->pg,Looks->qv,typeIn->tm,codeIn->tu,OpenLaw->u6,notCls->vf,codeHdIn->wx,cellsFrom_some->AE,looks_mroIn->BQ,codeHd_of_K->BR,callWith_K->CU,kitx_dict->DJ,CodeHd->FU,WalkO->GE
open PySem.Heap renaming get?_push_of_some->aw,lt_size->cn,get?_push_size->dn,get?_update_other->kz,get?_update_self->lq,get?_update_ne->mq,SameBut->qi,get?_none_of_le->rg,get?_push_ne->DT,size_update->ER,size_push->FW
open Nat renaming le_refl->cj,lt_of_lt_of_le->dh,ne_of_lt->eh,le_trans->fg,zero_le->gr,lt_irrefl->g6,ne_of_gt->ku,not_lt_zero->lz,le_succ_of_le->me,lt_of_succ_lt_succ->m7,zero_add->oi,lt_or_ge->oj,le_of_lt->qg,min_le_right->um,lt_succ_self->uo,sub_succ_lt_self->vg,lt_of_le_of_lt->v7,sub_self->wq,min_le_left->xk,succ->xy,not_lt->xz,sub_zero->AH,lt_trans->AI,sub_eq_zero_of_le->AU,le_sub_of_add_le'->AV,sub_add_cancel->CV,add_sub_cancel->CW,lt_succ_of_lt->DO,le_of_not_lt->EI,le_add_right->EJ,min_eq_left->EU,succ_pos->GX,succ_mul->GY,le_of_eq->GZ,le_succ->HU,sub_le->II
open Bool renaming false_ne_true->df,and_eq_true->ig,false_eq_true->j5,eq_iff_iff->l8,false_and->vn,or_eq_true->xo,and_false->yd,or_false->GI,not_true->GJ,false_or->GL
open PySem.PassesOwn renaming never->dq
open PySem.Builtin.Str renaming occurrences->fq,strKind->o5,strSub->tw,partsBetween->ym
open Option renaming bind_eq_some_iff->gc,some->h8,bind_some->i5,map_eq_some_iff->je,isSome_map->t8,getD_none->ul,map->xx,isSome_iff_exists->yj,map_eq_none_iff->AG,getD_some->EH,none->HS
open PySem.Obj renaming mapSeq->gp,data_mapFields->m6,mapFields->uh,isFreed_of_fields->u8,cls_mapFields->DN
open PySem.F renaming plainAttrs_list->gw,slot_dict_keyiterator_next->jq,type_list_append->mj,slot_list_append->mm,slot_dict_get->nq,plainAttrs_str->qc,entry_dict_get->qf,type_list_extend->ue,slot_list_extend->uf,args_dict_keyiterator_next_1->vt,entry_dict_keyiterator_next->v3,slot_dict_setdefault->xj,excBase_ValueError->xw,slot_list_index->yx,slot_list_count->yz,plain_list_iadd->y0,plainAttrs_dict->za,args_dict_get_3->zb,args_dict_get_2->zg,slot_dict_iter->AF,sub_dict_dict->AT,slot_dict_ne->BC,slot_dict_eq->BD
open PySem.Value renaming ref->g0,none->ik,bool->nz,type->sk,str->wv,int->yv,notImplemented->BB,isStrOf->GC,isInt->HR
open Int renaming emod_lt_of_pos->g7,emod_nonneg->kc,eq_ofNat_of_zero_le->uv,toNat_natCast->wt,toNat_lt->wu
open PySem.NameKind renaming free->ia
open Or renaming inr->ii,inl->jr
open PySem.Txt renaming partition->iu,split->qu,join->tf,slice_le->wp,slice->yw,mul->GW,find3->IR
open PyProof.Rows renaming seqObj->iz,callWith_type1->kt,envOfC->nn,boot_str->qw,AllBare->uc,listUpdate_at->vx,get?_update_seq->xi,Subscript_->xv,subscriptTail->yi,boot_list->yq,subscriptTail_builtinR->zy,IntsAre->AN,size_push'->CB,boot_tuple->CJ,arrOf->DI,entry_list_sort->ET,tail_any->FH,slot_list_sort->FI,tuples'->GM,plain_sorted->GQ,listItems_at->GU,entry_sorted->GV,seqEpoch_at->HI,kind_sorted->HL,IsTup->HV,sortedHeap->IC,isTrue_and->ID,OwnCls->IH,isTrue_or->IP
open Pure renaming pure->jh
open PySem.Builtin.List renaming listTooLong->jp,listExtendWith->rm,listSameRef->yn
open ForInStep renaming yield->jy
open True renaming intro->j9
open Array renaming length_toList->kn,getElem?_toList->lr,getElem?_eq_some_iff->tz,forIn_toList->t5,toList_inj->w9,getD_eq_getD_getElem?->xr,perm_iff_toList_perm->ye,toList->AQ,size_append->DX,size_push->EY
open False renaming elim->ln
open PySem.Around renaming under_plainId->mi,frames_deeper->BI
open PySem.Heap.SameBut renaming update->mr
open PySem.SeqAt renaming EqAt->n8,ne_of_list_tuple->AC,RcNeAt->AD,RcAt->CK
open PySem.Builtin.Dict renaming dictSlotArgs->oy,showsAll->va,samePairs->AO
open PySem.AutoSeq1 renaming wpAny_loadPart'->o9,sub_tuple_tuple->ui,sub_list_list->u1,sub_tuple_list->zq,sub_list_tuple->zu,idx_int->ES
open PySem.Calls renaming spliced_cons->p6,spliced_nil->ub,callWith_builtin->u0,evalArgs_plain->vm,Name_function_global->yc
open Prod renaming snd->qx
open PySem.Paired renaming length->ug,snoc->BE
open PySem.SeqAt.EqAt renaming same->u5,str_none->BL,none_str->BN,none_int->BO,int_none->BP,str_str->CM,str_int->CN,of_refs->CO,int_str->CP
open List.Sublist renaming nodup->wa,refl->DR
open List.Pairwise renaming map->wr
open PySem.Builtin.Dict_items renaming ownsTuple->xn
open PySem.Spec renaming strs?->xu
open PySem.DictEntry renaming key->yk
open LT renaming lt->BH
open PySem.Heap.IsSliceOf renaming new->DC
open Array.Perm renaming refl->EZ
open PySem.Data renaming fields->HY,cell->IS
open Option renaming some->aA,none->aB
open Bool renaming true->aC,false->aE
theorem dY.{u}{c:Prop}{h:Decidable c}(n:¬c){α:Sort u}{t e:α}:@ite α c h t e=e:=if_neg n
theorem dZ.{u}{c:Prop}{h:Decidable c}(n:c){α:Sort u}{t e:α}:@ite α c h t e=t:=if_pos n
theorem d0{p:Prop}[Decidable p](h:¬p):decide p=false:=decide_eq_false h
theorem d_{p:Prop}[Decidable p](h:p):decide p=true:=decide_eq_true h
theorem da{p:Prop}[Decidable p](h:decide p=true):p:=of_decide_eq_true h
theorem dt{a b:Prop}(h:a)(g:¬a):b:=absurd h g
theorem zqA(h:True:=by first|rfl|exact Or.inl rfl|exact Or.inr (Or.inl rfl)|exact Or.inr (Or.inr rfl)|exact Or.inr rfl|(intro _;rfl)|(intro _ _;rfl)|assumption|decide|(constructor<;>first|rfl|exact Or.inl rfl|exact Or.inr (Or.inl rfl)|exact Or.inr (Or.inr rfl)|decide)|exact⟨rfl,rfl,rfl,rfl⟩|(refine⟨by constructor<;>first|rfl|decide+kernel,?_,rfl⟩;intro _ _ _ _ _ _ us hl;(first|refine of1 ?_ us hl|refine of2 ?_ us hl|refine of3 ?_ us hl|refine of4 ?_ us hl|refine of5 ?_ us hl);intros;rfl)|(apply E1<;>rfl)):True:=h
local macro_rules |`(‹$t›)=>`(autoParam $t zqA._auto_1)
open PySem PySem.Spec PyProof.Rows
set_option bootstrap.genMatcherCode false
noncomputable section
theorem Γ{p:Prop}(h:p:=by decide):p:=h
theorem Δ{p:Prop}(h:p:=by simp):p:=h
theorem Θ{p:Prop}(h:p:=by lia):p:=h
theorem Ξ{p:Prop}(h:p:=by decide+kernel):p:=h
theorem Φ{p:Prop}(h:p:=by kernel_rfl):p:=h
theorem Ψ{p:Prop}(h:p:=by simp;lia):p:=h
theorem Ω{p:Prop}(h:p:=by rw[aj];lia):p:=h
theorem ε{p:Prop}(h:p:=by rw[ax,dv];lia):p:=h
theorem ζ{p:Prop}(h:p:=by simpa using z):p:=h
theorem η{p:Prop}(h:p:=by simpa using h):p:=h
theorem θ{p:Prop}(h:p:=by simpa using e):p:=h
theorem ι{p:Prop}(h:p:=by rfl):p:=h
theorem μ{p:Prop}(h:p:=by simpa using c):p:=h
theorem ν{p:Prop}(h:p:=by simpa using a):p:=h
theorem ξ{p:Prop}(h:p:=by simp only[c9]<;> lia):p:=h
theorem ο{p:Prop}(h:p:=by simp[z]):p:=h
theorem π{p:Prop}(h:p:=by omega):p:=h
theorem ρ{p:Prop}(h:p:=by simp[h]):p:=h
theorem ς{p:Prop}(h:p:=by rw[<-u.length_map];exact hz):p:=h
theorem τ{p:Prop}(h:p:=by rw[ax];simp;lia):p:=h
theorem υ{p:Prop}(h:p:=by unfold Of;decide+kernel):p:=h
theorem χ{p:Prop}(h:p:=by show 2<=sizeLine;decide):p:=h
theorem ψ{p:Prop}(h:p:=by rw[c9];lia):p:=h
theorem ω{p:Prop}(h:p:=by simpa using hl):p:=h
theorem Γa{p:Prop}(h:p:=by simpa using h2):p:=h
theorem Γb{p:Prop}(h:p:=by rw[z];exact ao.mpr rfl):p:=h
abbrev À.{u}:Type u->Type u:=List
abbrev Á.{u}:Type u->Type u:=Option
namespace Lake
namespace L2
theorem dN.{u,v}{α:Type u}{β:Type v}{o:Á α}{f:α->Á β}{r:β}{G:Prop}(e:o.bind f=aA r)(k:∀a,o=aA a->f a=aA r->G):G:=let⟨a,b,c⟩:=gc.mp e;k a b c
theorem dO.{u,v,w}{α:Type u}{h:Type w}{β:Type v}{o:Á (α×h)}{f:α×h->Á β}{r:β}{G:Prop}(e:o.bind f=aA r)(k:∀a b,o=aA (a,b)->f (a,b)=aA r->G):G:=let⟨(a,b),c,d⟩:=gc.mp e;k a b c d
inductive E2{α β:Type}(p:α->β->Prop):Prop where
 |mk (a:α) (b:β) (h:p a b)
inductive E3{α β γ:Type}(p:α->β->γ->Prop):Prop where
 |mk (a:α) (b:β) (c:γ) (h:p a b c)
inductive E4{α β γ δ:Type}(p:α->β->γ->δ->Prop):Prop where
 |mk (a:α) (b:β) (c:γ) (d:δ) (h:p a b c d)
inductive A3(a b c:Prop):Prop where
 |mk (x:a) (y:b) (z:c)
inductive A4(a b c d:Prop):Prop where
 |mk (x:a) (y:b) (z:c) (w:d)
inductive A5(a b c d e:Prop):Prop where
 |mk (x:a) (y:b) (z:c) (w:d) (v:e)
theorem Wv{P:Prop}(h:∀G:Prop,(P->G)->G):P:=h P id
theorem sx(h:n- i=k+1):n- (i+1)=k:=Θ
theorem sw(h:n- i=k+1):i<n:=Θ
theorem sy(h:i<n):n- i=n- (i+1)+1:=Θ
theorem dlt{α:Type}{l r:À α}{x}(h:l.drop i=x::r):i<l.length:=by have:=congrArg p9 h;rw[oo,ca]at this;exact sw this
noncomputable abbrev Key:=Sum Int Str
def Rb:Key->am->Bool
 | .inl k,v=>HR k v
 | .inr x,v=>GC x v
def gU(w:gq):Key->Int
 | .inl k=>hashInt k
 | .inr x=>hashStr w x
theorem Yv:∀{k:Key} {v:am},Rb k v=aC->(E2 λi t=>k=Sum.inl i/\v=yv i t)\/(E2 λx t=>k=Sum.inr x/\v=wv x t)
 | .inl i,v,h=>by obtain⟨t,e⟩:=Value.isInt_shape (k:=i) (v:=v) h;exact .inl ⟨i,t,rfl,e⟩
 | .inr x,v,h=>by obtain⟨t,e⟩:=Value.isStrOf_shape (x:=x) (v:=v) h;exact .inr ⟨x,t,rfl,e⟩
theorem jc(i t):Rb (.inl i) (.int i t)=aC:=by simp[Rb,HR]
theorem jZ(x t):Rb (.inr x) (.str x t)=aC:=by simp[Rb,GC]
theorem rR(a b):decide ((Sum.inl a:Key)=Sum.inl b)=(a==b):=by
 by_cases e:a=b
 .subst e;simp
 .have h:¬(Sum.inl a:Key)=Sum.inl b:=λq=>e<|Sum.inl.inj q;rw[d0 h];exact(beq_eq_false_iff_ne.mpr e).symm
theorem rQ(a b):decide ((Sum.inr a:Key)=Sum.inr b)=decide (a=b):=by
 by_cases e:a=b
 .subst e;simp
 .have h:¬(Sum.inr a:Key)=Sum.inr b:=λq=>e<|Sum.inr.inj q;rw[d0 h,d0 e]
theorem rG(a b):decide ((Sum.inl a:Key)=Sum.inr b)=aE:=d0<|λq=>nomatch q
theorem rF(a b):decide ((Sum.inr a:Key)=Sum.inl b)=aE:=d0<|λq=>nomatch q
def Yr(prog:eg)(w:gq):GF prog w Key where
 is:=Rb
 hash:=gU w
 inj:=λv a b m f=>by
  rcases Yv m with⟨i,t,rfl,rfl⟩|⟨x,t,rfl,rfl⟩
  .rcases Yv f with⟨j,u,rfl,e⟩|⟨y,u,rfl,e⟩
   .injection e with e1 _;rw[e1]
   .exact nomatch e
  .rcases Yv f with⟨j,u,rfl,e⟩|⟨y,u,rfl,e⟩
   .exact nomatch e
   .injection e with e1 _;rw[e1]
 byValue:=λk v h=>by rcases Yv h with⟨i,t,rfl,rfl⟩|⟨x,t,rfl,rfl⟩<;> rfl
 pyHash:=λc h=>by
  rcases Yv c with⟨i,t,rfl,rfl⟩|⟨x,t,rfl,rfl⟩
  .exact wpAny_pyHash_int h
  .exact wpAny_pyHash_str h
 eqBool:=λl c h=>by
  rcases Yv l with⟨i,t,rfl,rfl⟩|⟨x,t,rfl,rfl⟩
  .rcases Yv c with⟨j,u,rfl,rfl⟩|⟨y,u,rfl,rfl⟩
   .rw[rR]at h;exact wpAny_eqBool_int h
   .rw[rG]at h;exact CP i t y u _ _ _ _ h
  .rcases Yv c with⟨j,u,rfl,rfl⟩|⟨y,u,rfl,rfl⟩
   .rw[rF]at h;exact CN x t j u _ _ _ _ h
   .rw[rQ]at h;exact wpAny_eqBool_str h
 «strs»:=λk x t v h=>by
  rcases Yv h with⟨i,u,rfl,e⟩|⟨y,u,rfl,e⟩
  .exact nomatch e
  .injection e with e1 _;subst e1;cases v<;> rfl
theorem eK(prog w k v):(Yr prog w).is k v=Rb k v:=rfl
set_option genInjectivity true in
inductive V where
 |non|bl (b:Bool)|int (i:Int)|str (x:Str)|byt (b:Array UInt8)|flt (b:UInt64)|ref (a:aq)|ty (n:String)
 deriving DecidableEq
def Z9:V->am->Prop
 | .non,u=>u=ik
 | .bl b,u=>u=nz b
 | .int i,u=>∃t,u=yv i t
 | .str x,u=>∃t,u=wv x t
 | .byt b,u=>∃t,u=Value.bytes b t
 | .flt b,u=>∃t,u=Value.float b t
 | .ref a,u=>u=g0 a
 | .ty n,u=>u=sk n
abbrev Yg:À V->À am->Prop:=v6 Z9
theorem Yg.length(r:Yg xs us):xs.length=us.length:=ug r
theorem Yg.consI(h:Yg (x::xs) us):∃u ws,us=u::ws/\Z9 x u/\Yg xs ws:=by
 cases h with
 |cons a t=>exact⟨_,_,rfl,a,t⟩
theorem Yg.get:∀{xs:À V} {us:À am} {i:Nat} {x:V},Yg xs us->xs[i]? =aA x->∃u,us[i]? =aA u/\Z9 x u
 |_,_,_,_,.nil,e=>by simp at e
 |_,_,0,_,.cons r _,e=>by simp at e;subst e;exact⟨_,rfl,r⟩
 |_,_,i+1,x,.cons _ t,e=>by obtain⟨u,h1,h2⟩:=Yg.get (i:=i) (x:=x) t θ;exact⟨u,by simpa using h1,h2⟩
theorem Yg.append(h:Yg xs us)(s:Yg ys ws):Yg (xs++ys)<|us++ws:=by
 induction h with
 |nil=>exact s
 |cons r _ a=>exact .cons r a
theorem Yg.take:∀{xs:À V} {us:À am} n,Yg xs us->Yg (xs.take n) (us.take n)
 |_,_,0,_=>.nil
 |_,_,_+1,.nil=>.nil
 |_,_,n+1,.cons r t=>.cons r<|Yg.take n t
theorem Yg.drop:∀{xs:À V} {us:À am} n,Yg xs us->Yg (xs.drop n) (us.drop n)
 |_,_,0,r=>r
 |_,_,_+1,.nil=>.nil
 |_,_,n+1,.cons _ t=>Yg.drop n t
theorem Yg.none_of:∀{xs:À V} {us:À am} {i:Nat},Yg xs us->xs[i]? =aB->us[i]? =aB:=fun{xs us i} r e=>by have h1:=r.length;have h2:xs.length<=i:=ox.mp e;exact ox.mpr Θ
def Kn:Option V->Option am->Prop
 |some v,aA u=>Z9 v u
 |none,aB=>True
 |_,_=>False
def KV{κ:Type}:À (κ×V)->À (κ×am)->Prop:=v6 λ(p:κ×V) (q:κ×am)=>p.1=q.1/\Z9 p.2 q.2
noncomputable def kV:Key->V
 | .inl i=>.int i
 | .inr x=>.str x
inductive HO where
 |lst (xs:List V)
 |tup (xs:List V)
 |dK (kvs:List<|Key×V) (ep:Nat)|dT (kvs:List<|List Key×V) (ep:Nat) (bs:List aq)
 |set (S:Int->Bool) (n:Nat)
 |own (x:aq)
 |xd (fs:List<|Str×V)
 |frz (o:Obj) (u:HO)
 |tbl (ps:Array am)
 |tab (q:Str)
 |ext (φ:ie->Prop)
noncomputable abbrev Hp:=aq->Option HO
def upd(H:Hp)(a:aq)(o:HO):Hp:=λb=>if b=a then aA o else H b
theorem Z8:upd H a o a=aA o:=by unfold upd;rw[dZ rfl]
theorem Zs(h:b≠a):upd H a o b=H b:=by unfold upd;rw[dY h]
theorem nU:upd (upd H a o) a u=upd H a u:=by funext b;unfold upd;split<;> rfl
theorem Yw{H:Hp}(h:H a=aA o)(h':H b=aB):a≠b:=by intro e;subst e;rw[h]at h';cases h'
section
variable(P:eg)(w:gq)
def Wc(H:Hp)(h:ie)(a:aq):HO->Prop
 | .lst xs=>xs.length<=sizeLine/\∃(dI:List am) (n:Nat),Yg xs dI/\h.get? a=aA {cls:=.type "list",data:=.seq dI.toArray n}
 | .tup xs=>xs.length<=sizeLine/\∃dI:List am,Yg xs dI/\HV h a dI.toArray
 | .dK kvs ep=>kvs.length<=sizeLine/\(a==i7)=aE/\∃vs,KV kvs vs/\h.DictAt (Yr P w) a vs ep
 | .dT kvs ep bs=>kvs.length<=sizeLine/\(a==i7)=aE/\∃xs:List<|List Key×aq×am,
   v6 (λ(p:List Key×V) (q:List Key×aq×am)=>p.1=q.1/\H q.2.1=aA (.tup<|p.1.map kV)/\Z9 p.2 q.2.2) kvs xs/\
   ∃o es,h.get? a=aA o/\o.ExactDict/\o.data= .dict es ep/\es.toList=xs.map (CG<|ro<|Yr P w)/\(xs.map (·.1)).Nodup/\(xs.map λx=>x.2.1)=bs
 | .set S n=>h.SetOf (intKind P w) a S n
 | .own _=>∃o,h.get? a=aA o
 | .xd fs=>∃j,h.Ns1 a j/\∀f,Kn (fs.lookup f)<|j f
 | .frz o u=>h.get? a=aA o/\Wc H h a u
 | .tbl ps=>h.get? a=aA {cls:=.none,data:=.fields ps}
 | .tab q=>∃ps:Array am,h.get? a=aA {cls:=.none,data:=.fields ps}/\EG ps.toList/\∀pos l,uk pos ps.toList=aA l->∃c o vs t,l= .ref c/\H c=aA (.frz o<|.own a)/\o.data= .fields vs/\vs[1]? =aA (.str q t)
 | .ext φ=>φ h/\(∃o,h.get? a=aA o)/\∀h1 h2:ie,φ h1->(∀o,h1.get? a=aA o->h2.get? a=aA o)->φ h2
def Rc(H:Hp)(h:ie):Prop:=∀a o,H a=aA o->Wc P w H h a o
end
section
variable{P:eg}{w:gq}{H H':Hp}{h h':ie}{a:aq}{o:HO}
theorem Wc.lt(x:Wc P w H h a o):a<h.objs.size:=by
 cases o with
 |lst xs=>obtain⟨_,_,_,_,e⟩:=x;exact cn e
 |tup xs=>obtain⟨_,_,_,p⟩:=x;exact p.lt
 |dK kvs ep=>obtain⟨_,_,_,_,o,_,e,_⟩:=x;exact cn e
 |dT kvs ep bs=>obtain⟨_,_,_,_,o,_,e,_⟩:=x;exact cn e
 |set S n=>obtain⟨o,_,_,_,e,_⟩:=x;exact cn e
 |own y=>obtain⟨_,e⟩:=x;exact cn e
 |xd fs=>obtain⟨_,⟨_,_,_,e,_⟩,_⟩:=x;exact cn e
 |frz f u=>obtain⟨e,_⟩:=x;exact cn e
 |tbl ps=>exact cn (show h.get? a=aA _ from x)
 |tab q=>obtain⟨_,e,_⟩:=x;exact cn e
 |ext c=>obtain⟨_,⟨_,e⟩,_⟩:=x;exact cn e
theorem Paired.mapP{j:À α}{c:À β}(h:v6 F j c)(f:∀a b,F a b->G a b):v6 G j c:=by
 induction h with
 |nil=>exact .nil
 |cons r _ l=>exact .cons (f _ _ r) l
theorem Wc.stay(x:Wc P w H h a o)(k:∀b u,(b=a\/H b=aA (.own a))->h.get? b=aA u->h'.get? b=aA u)(F:∀b,H b=aA (.own a)->H' b=aA (.own a))(s:∀b xs,H b=aA (.tup xs)->H' b=aA (.tup xs))(hz:∀b o,H b=aA (.frz o<|.own a)->H' b=aA (.frz o<|.own a):=by first|exact λ_ _ q=>q| (intro b o q;rw[Zs<|Yw q<|by assumption];exact q)):Wc P w H' h' a o:=by
 induction o with
 |lst xs=>obtain⟨z,dI,n,r,e⟩:=x;exact⟨z,dI,n,r,k _ _ (.inl rfl) e⟩
 |tup xs=>obtain⟨z,dI,r,f,e,c⟩:=x;exact⟨z,dI,r,f,k _ _ (.inl rfl) e,c⟩
 |dK kvs ep=>obtain⟨z,y,vs,r,f,es,e,c⟩:=x;exact⟨z,y,vs,r,f,es,k _ _ (.inl rfl) e,c⟩
 |dT kvs ep bs=>obtain⟨z,y,xs,r,f,es,e,c⟩:=x;exact⟨z,y,xs,Paired.mapP r λp q z=>⟨z.1,s _ _ z.2.1,z.2.2⟩,f,es,k _ _ (.inl rfl) e,c⟩
 |set S n=>obtain⟨f,es,ep,t,e,c⟩:=x;exact⟨f,es,ep,t,k _ _ (.inl rfl) e,c⟩
 |own y=>obtain⟨f,e⟩:=x;exact⟨f,k _ _ (.inl rfl) e⟩
 |xd fs=>obtain⟨l,⟨od,es,ep,e,c⟩,r⟩:=x;exact⟨l,⟨od,es,ep,k _ _ (.inl rfl) e,c⟩,r⟩
 |frz f u m=>obtain⟨e,q⟩:=x;exact⟨k _ _ (.inl rfl) e,m q⟩
 |tbl ps=>have e:h.get? a=aA {cls:=.none,data:=.fields ps}:=x;show h'.get? a=aA {cls:=.none,data:=.fields ps};exact k a _ (.inl rfl) e
 |tab q=>obtain⟨ps,e,t,c⟩:=x;refine⟨ps,k _ _ (.inl rfl) e,t,λpos B z=>?_⟩;obtain⟨C,j,vs,tt,A,v,r⟩:=c pos B z;exact⟨C,j,vs,tt,A,hz _ _ v,r⟩
 |ext E=>obtain⟨p,⟨o,e⟩,st⟩:=x;exact⟨st _ _ p λo q=>k _ _ (.inl rfl) q,⟨o,k _ _ (.inl rfl) e⟩,st⟩
theorem Rc.lt(x:Rc P w H h)(e:H a=aA o):a<h.objs.size:=(x a o e).lt
theorem Rc.fresh(x:Rc P w H h)(e:h.objs.size<=a):H a=aB:=by
 cases q:H a with
 |none=>rfl
 |some u=>exact dt (dh (x.lt q) e)<|g6 _
theorem Rc.kept(x:Rc P w H h)(k:∀b u,h.get? b=aA u->h'.get? b=aA u):Rc P w H h':=λa o e=>
 (x a o e).stay (λb u _ q=>k b u q) (λ_ q=>q) λ_ _ q=>q
theorem Rc.laid(x:Rc P w H h)(k:∀b u,h.get? b=aA u->h'.get? b=aA u)(l:h.objs.size<=a)(f:Wc P w (upd H a o) h' a o):Rc P w (upd H a o) h':=λb u e=>by
 have hn:=x.fresh l;by_cases j:b=a
 .subst j;rw[Z8]at e;cases e;exact f
 .rw[Zs j]at e;exact(x b u e).stay (λc v _ q=>k c v q) (λc q=>by rw[Zs<|Yw q hn];exact q) λc xs q=>by rw[Zs<|Yw q hn];exact q
end
def Rd(H:Hp)(a:aq)(u:HO):Prop:=H a=aA u\/∃o,H a=aA (.frz o u)
theorem Rd.ok(r:Rd H a u)(x:Rc P w H h):Wc P w H h a u:=by
 rcases r with r|⟨o,r⟩
 .exact x a u r
 .obtain⟨_,q⟩:=x a _ r;exact q
def HK(H:Hp)(a:aq)(kvs:À (Key×V)):Prop:=∃ep,H a=aA (.dK kvs ep)
def HTt(H:Hp)(a:aq)(kvs:À (À Key×V)):Prop:=∃ep bs,H a=aA (.dT kvs ep bs)
def RdK(H:Hp)(a:aq)(kvs:À (Key×V)):Prop:=∃ep,Rd H a<|.dK kvs ep
def RdT(H:Hp)(a:aq)(kvs:À (À Key×V)):Prop:=∃ep bs,Rd H a<|.dT kvs ep bs
theorem HK.rd(h:HK H a kvs):RdK H a kvs:=let⟨ep,h⟩:=h;⟨ep,.inl h⟩
def Dl(kvs:À (À Key×V))(bs:À aq)(k:À Key)(b:aq):À Addr:=if(kvs.any λa=>decide (a.1=k))=aC then bs else bs++[b]
theorem HTt.rd(h:HTt H a kvs):RdT H a kvs:=let⟨ep,bs,h⟩:=h;⟨ep,bs,.inl h⟩
def Mut:Option HO->Prop
 |some (.lst _)=>True
 |some (.dK _ _)=>True
 |some (.dT _ _ _)=>True
 |some (.set _ _)=>True
 |some (.ext _)=>True
 |_=>False
theorem Rc.write(ok:Rc P w H h)(j:Mut<|H x)(B:e=x\/H e=aA (.own x))(k:∀b u,b≠e->h.get? b=aA u->h'.get? b=aA u)(s:∃u,h'.get? e=aA u)(p:Wc P w (upd H x o') h' x o'):Rc P w (upd H x o') h':=λb u q=>by
 have f:∀c y,H c=aA (.own y)->c≠x:=λc y r z=>by subst z;rw[r]at j;exact j
 have l:∀c xs,H c=aA (.tup xs)->c≠x:=λc xs r z=>by subst z;rw[r]at j;exact j
 by_cases n:b=x
 .subst n;rw[Z8]at q;cases q;exact p
 .rw[Zs n]at q;by_cases a:b=e
  .have A:H b=aA (.own x):=by
    rcases B with z|z
    .exact dt (a.trans z) n
    .rw[a];exact z
   rw[q]at A;cases A;obtain⟨v,C⟩:=s;exact⟨v,by rw[a];exact C⟩
  .refine(ok b u q).stay (λc v m r=>k c v ?_ r) (λc r=>by rw[Zs<|f c b r];exact r) (λc xs r=>by rw[Zs<|l c xs r];exact r) λc o r=>by rw[Zs (λz=>by subst z;rw[r]at j;exact j)];exact r
   rcases m with rfl|m
   .exact a
   .rintro rfl;rcases B with z|z
    .exact f c b m z
    .rw[m]at z;cases z;exact n rfl
structure Un(fs ex:À aq)(H H':Hp)(h h':ie):Prop where
 keep:∀b o,h.get? b=aA o->H b=aB->b∉fs->b∉ex->h'.get? b=aA o
 slot:∀b o,h.get? b=aA o->H b=aB->b∈fs->b∉ex->∃sl,h'.get? b=aA {o with slots:=sl}
 free:∀b o,h.get? b=aA o->H b=aB->b∉ex->H' b=aB
 there:∀b o,h.get? b=aA o->b∉ex->∃o',h'.get? b=aA o'
 tups:∀b xs,H b=aA (.tup xs)->H' b=aA (.tup xs)
 frzs:∀b o u,H b=aA (.frz o u)->H' b=aA (.frz o u)
 tbls:∀b ps,H b=aA (.tbl ps)->∃WW,H' b=aA (.tbl<|ps++WW)
section
variable{fs YA ex fX:À aq}{H H1 H2:Hp}{h h1 h2 h':ie}{a x e:aq}{o:HO}
theorem Un.any(u:Un fs ex H H1 h h1)(q:h.get? b=aA ob)(n:H b=aB)(a:b∉ex):∃g,h1.get? b=aA {ob with slots:=g}:=by
 by_cases c:b∈fs
 .exact u.slot b ob q n c a
 .exact⟨ob.slots,u.keep b ob q n c a⟩
theorem Un.kept(k:∀b u,h.get? b=aA u->h'.get? b=aA u):Un fs ex H H h h':=
 ⟨λb a q _ _ _=>k b a q,λb a q _ _ _=>⟨a.slots,k b a q⟩,λ_ _ _ n _=>n,λb a q _=>⟨a,k b a q⟩,λ_ _ q=>q,λ_ _ _ q=>q,λ_ ps q=>⟨#[],by rw[q];simp⟩⟩
theorem Un.refl:Un fs ex H H h h:=Un.kept λ_ _ q=>q
theorem Un.laid(k:∀b u,h.get? b=aA u->h'.get? b=aA u)(c:h.objs.size<=a)(hn:H a=aB):Un fs ex H (upd H a o) h h' where
 keep:=λb u q _ _ _=>k b u q
 slot:=λb u q _ _ _=>⟨u.slots,k b u q⟩
 free:=λb u q n _=>by rw[Zs<|eh<|dh (cn q) c];exact n
 there:=λb u q _=>⟨u,k b u q⟩
 tups:=λb xs q=>by rw[Zs<|Yw q hn];exact q
 frzs:=λb u xs q=>by rw[Zs<|Yw q hn];exact q
 tbls:=λb ps q=>⟨#[],by rw[Zs<|Yw q hn,q];simp⟩
theorem Un.write(c:Mut<|H x)(p:e=x\/H e=aA (.own x))(k:∀b u,b≠e->h.get? b=aA u->h'.get? b=aA u)(j:∃u,h'.get? e=aA u):Un fs ex H (upd H x o) h h':=by
 have l:∀b,H b=aB->b≠x:=λb n z=>by subst z;rw[n]at c;exact c
 have m:∀b,H b=aB->b≠e:=λb n z=>by
  subst z;rcases p with r|r
  .exact l b n r
  .rw[n]at r;cases r
 have f:∀b u,H b=aA u->¬Mut (aA u)->b≠x:=λb u q nm z=>by subst z;rw[q]at c;exact nm c
 refine⟨λb u q n _ _=>k b u (m b n) q,λb u q n _ _=>⟨u.slots,k b u (m b n) q⟩,λb u q n _=>by rw[Zs<|l b n];exact n,λb u q _=>?_,
  λb xs q=>by rw[Zs<|f b _ q λz=>z];exact q,λb u xs q=>by rw[Zs<|f b _ q λz=>z];exact q,λb ps q=>⟨#[],by rw[Zs<|f b _ q λz=>z,q];simp⟩⟩
 by_cases a:b=e
 .subst a;exact j
 .exact⟨u,k b u a q⟩
end
def trk(h:ie)(H:Hp):À Addr:=(gz h.objs.size).filter λa=>(H a).isSome
def V1(h:ie)(H:Hp):Heap:=PySem.W.hideAll h<|trk h H
theorem lU(e:h.get? b=aA o)(n:H b=aB):(V1 h H).get? b=aA o:=
 PySem.W.hideAll_get _ e λa=>by have q:(H b).isSome=aC:=(ri.mp a).2;rw[n]at q;simp at q
theorem nT(e:(V1 h H).get? b=aA o):h.get? b=aA o/\H b=aB:=by
 have a:h.get? b=aA o:=PySem.W.of_hideAll (trk h H) e;refine⟨a,?_⟩;cases q:H b with
 |none=>rfl
 |some x=>have c:b∈trk h H:=ri.mpr ⟨lh.mpr<|cn a,by simp[q]⟩;have z:(V1 h H).get? b=aB:=PySem.W.hideAll_none (trk h H) c;rw[z]at e;cases e
structure Mod(K:ak)(mg:Str->Á am)(base:ie):Prop where
 kin:K.In base
 glob:base.Ns f6 mg
 blt:∃mb,base.Ns v5 mb/\∀x:Str,x≠"__name__"->mb x=kq x
 nolimit:base.NoLimit
structure Cx where
 p:eg
 w:gq
 K:ak
 mg:Str->Á am
 base:ie
 A:fj
 N:À Str
 s₀:au
 H₀:Hp
 e:Env
 outer:À Env
 stack:À Env
 ex:À aq
 fn:Str->Bool
 calm:Bool
 pn:À (aq×Obj)
 xe:am->au->Prop
noncomputable def Re(l:À Env):À Addr:=l.filterMap (·.frame)
abbrev Cx.fs(X:Cx):À Addr:=Re X.outer
def Vis(a:n9)(x:Str):Prop:=a.names.lookup x=aA .local\/a.names.lookup x=aA .cell\/a.names.lookup x=aA .free
def Loc(a:n9)(x:Str):Prop:=a.names.lookup x=aA .local\/a.names.lookup x=aA .cell
def QD(env:Env)(h:ie)(m:Str->Á am)(x:Str)(u:am):Prop:=
 (env.kindOf x=aA .local/\m x=aA u)\/((env.kindOf x=aA .cell\/env.kindOf x=aA .free)/\∃c,env.cells.lookup x=aA c/\h.IsCell c (aA u))
abbrev Se(X:Cx)(a:dz)(es:À dz):Prop:=jv (a::es) X.e=(aE,oz a X.e)::jv es X.e
abbrev Bk(X:Cx)(p:Pos)(es:À dz):Prop:=(qt p<|jv es X.e).any (·.1)=aE
abbrev Nd(x:Str):Prop:=(x==("__debug__":Str))=aE
structure Mc(X:Cx)(o:dz)(m:Str)(ap cp:Pos)(e:dz)(es:À dz):Prop where
 base:vz o m X.e (oz o X.e)=oz o X.e
 few:((qt cp<|jv (e::es) X.e).all (λx=>!x.1)&&(backToKw cp<|HM [] X.e).all (λx=>x.1.isSome)&&decide ((e::es).length+([]:À DS).length+(if([]:À DS).isEmpty then 0 else 1)<30))=aC
 line:(ap.endLine==cp.line)=aC
 st:Se X e es
 pl:Bk X cp es
structure Vr(X:Cx)(i:Nat)(x:Str):Prop where
 a:X.N[i]? =aA x
 b:Vis X.e.scope x
 c:Nd x
 d:(x==("__classdict__":Str))=aE
structure Cx.Ok(X:Cx):Prop where
 mod:Mod X.K X.mg X.base
 kind:X.e.scope.kind= .function
 glob:X.e.globals=f6
 blt:X.e.builtins=v5
 above:X.s₀.heap.objs.size<=X.e.locals
 inj:∀x y c,X.e.cells.lookup x=aA c->X.e.cells.lookup y=aA c->x=y
 has:∀x,(X.e.kindOf x=aA .cell\/X.e.kindOf x=aA .free)->∃c,X.e.cells.lookup x=aA c
 cab:∀x c,X.fn x=aC->X.e.cells.lookup x=aA c->X.s₀.heap.objs.size<=c
 hd:X.calm=aC->X.A.handled=aB
 frames:X.A.frames=aA X.stack
 stk:X.stack=X.outer\/(X.stack=X.e::X.outer/\X.e.frame=aA X.e.locals)
 exf:∀b∈X.ex,b≠X.e.locals/\∀x c,X.e.cells.lookup x=aA c->c≠b
 bs:∀b o,X.base.get? b=aA o->X.s₀.heap.get? b=aA o/\X.H₀ b=aB
 bsz:X.base.objs.size<=X.s₀.heap.objs.size
 noex:∀b o,X.base.get? b=aA o->b∉X.ex
 exfs:∀b∈X.ex,b∉X.fs
 funs:X.s₀.heap.FunFrames X.base X.outer
 frf:∀b∈X.fs,X.H₀ b=aB
structure dL(X:Cx)(dG:À (aq×Obj))(σ:À (Á V))(H:Hp)(s:au):Prop where
 ok:X.Ok
 os:s.os=X.s₀.os
 bare:uc s.gens
 base:Un X.fs X.ex X.H₀ H X.s₀.heap s.heap
 loc:∃m,s.heap.Ns X.e.locals m/\∀(i:Nat) (x:Str) (v:V),X.N[i]? =aA x->σ[i]? =aA (aA v)->Vis X.e.scope x->∃u,Z9 v u/\QD X.e s.heap m x u
 cell:∀x c,X.e.cells.lookup x=aA c->∃v,s.heap.IsCell c v
 free:H X.e.locals=aB
 freeC:∀x c,X.e.cells.lookup x=aA c->H c=aB
 pin:∀p∈X.pn++dG,s.heap.get? p.1=aA p.2/\H p.1=aB/\p.1≠X.e.locals/\p.1∉X.fs/\∀v,p.2.data≠.cell v
 hok:Rc X.p X.w H s.heap
 len:σ.length=X.N.length
theorem Cx.Ok.nofr{X:Cx}(ok:X.Ok)(e:X.base.get? b=aA o):b∉X.fs:=λa=>by have:=(ok.funs.mem a).1;rw[e]at this;cases this
theorem dL.bs(I:dL X dG σ H s):∀b o,X.base.get? b=aA o->s.heap.get? b=aA o/\H b=aB:=λb o e=>
 ⟨I.base.keep b o (I.ok.bs b o e).1 (I.ok.bs b o e).2 (I.ok.nofr e)<|I.ok.noex b o e,I.base.free b o (I.ok.bs b o e).1 (I.ok.bs b o e).2<|I.ok.noex b o e⟩
theorem dL.bk(I:dL X dG σ H s):∀b o,X.base.get? b=aA o->s.heap.get? b=aA o:=λb o e=>(I.bs b o e).1
theorem dL.mod(I:dL X dG σ H s):Mod X.K X.mg X.base:=I.ok.mod
theorem dL.kIn(I:dL X dG σ H s):X.K.In s.heap:=I.ok.mod.kin.keeps I.bk
theorem dL.nolimit(I:dL X dG σ H s):s.heap.NoLimit:=I.ok.mod.nolimit.keeps I.bk
theorem dL.lt(I:dL X dG σ H s):X.e.locals<s.heap.objs.size:=let⟨_,hn,_⟩:=I.loc;hn.lt
theorem dL.sz(I:dL X dG σ H s):X.s₀.heap.objs.size<=s.heap.objs.size:=fg I.ok.above<|qg I.lt
theorem dL.nofs(I:dL X dG σ H s){a:aq}(h:s.heap.objs.size<=a):a∉X.fs:=λf=>by obtain⟨_,o,c,_⟩:=I.ok.funs.mem f;exact dt (dh (cn c)<|fg I.sz h)<|g6 _
theorem dL.cne(I:dL X dG σ H s):∀x c,X.e.cells.lookup x=aA c->c≠X.e.locals:=λx c e z=>by obtain⟨v,o,h,hd⟩:=I.cell x c e;obtain⟨m,⟨o',es,ep,a,f,_⟩,_⟩:=I.loc;rw[z,a]at h;cases h;rw[f]at hd;cases hd
theorem dL.funs(I:dL X dG σ H s):s.heap.FunFrames X.base X.outer:=by
 have all:∀(l:À Env),(∀b∈Re l,b∈X.fs)->X.s₀.heap.FunFrames X.base l->s.heap.FunFrames X.base l:=by
  intro l;induction l with
  |nil=>intro _ _;trivial
  |cons env r f=>intro hs m;obtain⟨n,⟨L,o,hf,hn,j,hd⟩,h⟩:=m;have c:L∈X.fs:=hs L (by unfold Re;rw[jw,hf];exact ac);obtain⟨p,e⟩:=I.base.slot L o j (I.ok.frf L c) c λz=>I.ok.exfs L z c;exact⟨n,⟨L,_,hf,hn,e,hd⟩,f (λb a=>hs b (by unfold Re;rw[jw,hf];exact ag _ a)) h⟩
 exact all X.outer (λ_ a=>a) I.ok.funs
theorem dL.stack(I:dL X dG σ H s):s.heap.FunFrames X.base X.stack:=by
 rcases I.ok.stk with e|⟨e,hf⟩
 .rw[e];exact I.funs
 .rw[e];obtain⟨m,hn,_⟩:=I.loc;refine .cons (by rw[I.ok.kind];decide) hf hn ?_ I.funs;exact rg<|fg I.ok.bsz I.ok.above
theorem dL.stkSub(I:dL X dG σ H s):∀b∈Re X.stack,b∈X.e.locals::X.fs:=λb a=>by
 rcases I.ok.stk with e|⟨e,hf⟩
 .rw[e]at a;exact ag _ a
 .rw[e]at a;unfold Re at a;rw[jw,hf]at a;exact a
theorem dL.stkFree(I:dL X dG σ H s):∀b∈Re X.stack,H b=aB:=λb a=>by
 rcases az.mp (I.stkSub b a)with e|a
 .rw[e];exact I.free
 .obtain⟨_,o,c,_⟩:=I.ok.funs.mem a;exact I.base.free b o c (I.ok.frf b a) λz=>I.ok.exfs b z a
theorem dL.step{ch:À aq}(I:dL X dG σ H s)(h:∀b∈ch,(b∈X.ex\/X.s₀.heap.objs.size<=b)/\b≠X.e.locals/\(∀x c,X.e.cells.lookup x=aA c->c≠b)/\∀p∈X.pn++dG,p.1≠b)(keep:∀b o,b≠X.e.locals->b∉X.fs->b∉ch->s.heap.get? b=aA o->H b=aB->h'.get? b=aA o)(slot:∀b o,b≠X.e.locals->b∈X.fs->b∉ch->s.heap.get? b=aA o->H b=aB->∃G,h'.get? b=aA {o with slots:=G})(free:∀b o,b∉ch->s.heap.get? b=aA o->H b=aB->H' b=aB)(B:∀b o,b∉ch->s.heap.get? b=aA o->∃o',h'.get? b=aA o')(F:∀b xs,H b=aA (.tup xs)->H' b=aA (.tup xs))(P:∀b o u,H b=aA (.frz o u)->H' b=aA (.frz o u))(K:∀b ps,H b=aA (.tbl ps)->∃g,H' b=aA (.tbl<|ps++g))(ns:∀m,s.heap.Ns X.e.locals m->h'.Ns X.e.locals m)(Z:Rc X.p X.w H' h')(Y:uc g'):
  dL X dG σ H' {s with heap:=h',gens:=g',drawn:=d',toks:=t'}:=by
 have L:∀b o,X.s₀.heap.get? b=aA o->b≠X.e.locals:=λb o e=>eh<|dh (cn e) I.ok.above;have y:∀b o,X.s₀.heap.get? b=aA o->b∉X.ex->b∉ch:=λb o e a C=>by
  rcases(h b C).1 with z|z
  .exact a z
  .exact dt (dh (cn e) z) (g6 _)
 have j:∀x c,X.e.cells.lookup x=aA c->∀v,s.heap.IsCell c v->h'.IsCell c v:=λx c e v ⟨o,E,hd⟩=>by
  have f:c∉ch:=λz=>(h c z).2.2.1 x c e rfl;by_cases O:c∈X.fs
  .obtain⟨G,q⟩:=slot c o (I.cne x c e) O f E<|I.freeC x c e;exact⟨_,q,hd⟩
  .exact⟨o,keep c o (I.cne x c e) O f E<|I.freeC x c e,hd⟩
 refine⟨I.ok,I.os,Y,⟨λb o e n C a=>?_,λb o e n C a=>?_,λb o e n a=>?_,λb o e a=>?_,λb xs e=>F b xs<|I.base.tups b xs e,λb o xs e=>P b o xs<|I.base.frzs b o xs e,λb ps e=>?_⟩,?_,λx c e=>?_,?_,λx c e=>?_,λp N=>?_,Z,I.len⟩
 .exact keep b o (L b o e) C (y b o e a) (I.base.keep b o e n C a) (I.base.free b o e n a)
 .obtain⟨G,A⟩:=I.base.slot b o e n C a;obtain⟨T,Q⟩:=slot b _ (L b o e) C (y b o e a) A<|I.base.free b o e n a;exact⟨T,Q⟩
 .obtain⟨o',A⟩:=I.base.there b o e a;exact free b o' (y b o e a) A<|I.base.free b o e n a
 .obtain⟨o',A⟩:=I.base.there b o e a;exact B b o' (y b o e a) A
 .obtain⟨U,A⟩:=I.base.tbls b ps e;obtain⟨R,Q⟩:=K b _ A;exact⟨U++R,by rw[Q,Array.append_assoc]⟩
 .obtain⟨m,hn,W⟩:=I.loc;refine⟨m,ns m hn,λi x v A Q e3=>?_⟩;obtain⟨u,r,l⟩:=W i x v A Q e3;refine⟨u,r,?_⟩;rcases l with l|⟨k,c,e,z⟩
  .exact .inl l
  .exact .inr ⟨k,c,e,j x c e _ z⟩
 .obtain⟨v,z⟩:=I.cell x c e;exact⟨v,j x c e v z⟩
 .obtain⟨m,⟨o,_,_,E,_⟩,_⟩:=I.loc;exact free _ o (λz=>(h _ z).2.1 rfl) E I.free
 .obtain⟨v,o,E,hd⟩:=I.cell x c e;exact free c o (λz=>(h c z).2.2.1 x c e rfl) E<|I.freeC x c e
 .obtain⟨e,n,M,J,d⟩:=I.pin p N;have f:p.1∉ch:=λz=>(h p.1 z).2.2.2 p N rfl;exact⟨keep p.1 p.2 M J f e n,free p.1 p.2 f e n,M,J,d⟩
theorem dL.un(I:dL X dG σ H s)(u:Un X.fs [] H H' s.heap h')(c:Rc X.p X.w H' h'):dL X dG σ H' {s with heap:=h',toks:=t'}:=by
 obtain⟨m,⟨o,es,ep,l,r⟩,_⟩:=id I.loc;obtain⟨y,x⟩:=u.any l I.free Δ;exact I.step (g':=s.gens) (d':=s.drawn) (ch:=[]) (λ_ z=>nomatch z) (λb o _ f _ e n=>u.keep b o e n f Δ) (λb o _ f _ e n=>u.slot b o e n f Δ) (λb o _ e n=>u.free b o e n Δ) (λb o _ e=>u.there b o e Δ) u.tups u.frzs u.tbls (λA v=>by
  obtain⟨o',h,j,a,q⟩:=v;rw[l]at a;cases a;exact⟨_,h,j,x,q⟩) c I.bare
theorem dL.call(I:dL X dG σ H s)(u:Un (Re X.stack) ch H H' s.heap h')(j:Rc X.p X.w H' h')(C:uc g')(h:∀b∈ch,(b∈X.ex\/X.s₀.heap.objs.size<=b)/\b≠X.e.locals/\(∀x c,X.e.cells.lookup x=aA c->c≠b)/\∀p∈X.pn++dG,p.1≠b):
  dL X dG σ H' {s with heap:=h',gens:=g',drawn:=d',toks:=t'}:=by
 obtain⟨m,⟨o,es,ep,y,r⟩,_⟩:=id I.loc;obtain⟨F,l⟩:=u.any y I.free λz=>(h _ z).2.1 rfl;exact I.step (ch:=ch) h (λb o l E a e n=>u.keep b o e n (λz=>(az.mp<|I.stkSub b z).elim l E) a) (λb o _ _ a e n=>u.any e n a) (λb o a e n=>u.free b o e n a) (λb o a e=>u.there b o e a) u.tups u.frzs u.tbls (λK B=>by
  obtain⟨o',q,v,f,A⟩:=B;rw[y]at f;cases f;exact⟨_,q,v,l,A⟩) j C
theorem dL.turned(I:dL X dG σ H s)(k:∀b o,b≠it->s.heap.get? b=aA o->h'.get? b=aA o)(hn:H it=aB)(h:it≠X.e.locals)(h1:it∈X.ex\/X.s₀.heap.objs.size<=it)(h2:∀x c,X.e.cells.lookup x=aA c->c≠it)(y:∀p∈X.pn++dG,p.1≠it):dL X dG σ H {s with heap:=h',toks:=t'}:=by
 have f:∀b u,H b=aA u->b≠it:=λb u e z=>by rw[z,hn]at e;cases e
 refine I.step (g':=s.gens) (d':=s.drawn) (ch:=[it]) (λb w=>?_) (λb o _ _ a e _=>k b o (λz=>a ο) e) (λb o _ _ a e _=>⟨o.slots,k b o (λz=>a ο) e⟩) (λ_ _ _ _ n=>n)
  (λb o a e=>⟨o,k b o (λz=>a ο) e⟩) (λ_ _ e=>e) (λ_ _ _ e=>e) (λb ps e=>⟨#[],by rw[e];simp⟩) (λm l=>?_) (λb u e=>?_) I.bare
 .have e:b=it:=by simpa using w
  subst e;exact⟨h1,h,h2,y⟩
 .obtain⟨o,es,ep,j,r⟩:=l;exact⟨o,es,ep,k _ o (Ne.symm h) j,r⟩
 .refine(I.hok b u e).stay (λc v a q=>k c v ?_ q) (λ_ q=>q) λ_ _ q=>q;rcases a with z|z
  .rw[z];exact f b u e
  .exact f c _ z
theorem dL.tok(I:dL X dG σ H s)(t):dL X dG σ H {s with toks:=t}:=I.un (h':=s.heap) (t':=t) Un.refl I.hok
theorem dL.kept(I:dL X dG σ H s)(k:∀b u,s.heap.get? b=aA u->h'.get? b=aA u):dL X dG σ H {s with heap:=h',toks:=t'}:=I.un (Un.kept k)<|I.hok.kept k
theorem dL.laid{a:aq}(I:dL X dG σ H s)(k:∀b u,s.heap.get? b=aA u->h'.get? b=aA u)(f:s.heap.objs.size<=a)(c:Wc X.p X.w (upd H a o) h' a o):
  dL X dG σ (upd H a o) {s with heap:=h',toks:=t'}:=I.un (Un.laid k f<|I.hok.fresh f)<|I.hok.laid k f c
theorem dL.write(I:dL X dG σ H s)(f:Mut<|H x)(h:e=x\/H e=aA (.own x))(k:∀b u,b≠e->s.heap.get? b=aA u->h'.get? b=aA u)(a:∃u,h'.get? e=aA u)(c:Wc X.p X.w (upd H x o) h' x o):dL X dG σ (upd H x o) {s with heap:=h',toks:=t'}:=I.un (Un.write f h k a)<|I.hok.write f h k a c
theorem dL.pins_of(I:dL X dG σ H s)(h:∀p∈pins',s.heap.get? p.1=aA p.2/\H p.1=aB/\p.1≠X.e.locals/\p.1∉X.fs/\∀v,p.2.data≠.cell v):dL X pins' σ H s:=
 ⟨I.ok,I.os,I.bare,I.base,I.loc,I.cell,I.free,I.freeC,λp a=>(dm.mp a).elim (λz=>I.pin p<|dr _ z)<|h p,I.hok,I.len⟩
theorem T4{N:À Str}(c:N.Nodup){i:Nat}(a:N[i]? =aA x)(b:N[j]? =aA x):i=j:=by obtain⟨h1,h⟩:=ci.mp a;obtain⟨h2,f⟩:=ci.mp b;exact(EL c).mp (h.trans f.symm)
theorem Pn(I:dL X dG σ H s)(hN:X.N.Nodup)(O:X.N[i]? =aA x)(C:Loc X.e.scope x)(r:Z9 v u)(h:∀s',dL X dG (σ.set i<|aA v) H s'->(∃a,qi a s.heap s'.heap/\(a=X.e.locals\/X.e.cells.lookup x=aA a))->Q () s')(hf:‹X.fn x=aC\/X.e.scope.names.lookup x=aA .local›):de M A (ED X.e x u) Q E s:=by
 obtain⟨m,hn,hl⟩:=id I.loc;have R:(X.e.scope.kind== .class|| (X.e.scope.kind== .module&&X.e.locals !=X.e.globals))=aE:=by rw[I.ok.kind];rfl
 have P:i<σ.length:=by rw[I.len];exact(ci.mp O).1
 have cne:=I.cne;have f:∀{a:aq} {h':ie},(∃o,s.heap.get? a=aA o/\H a=aB)->qi a s.heap h'->Rc X.p X.w H h':=fun{a h'} ha hs b ob e=>by
  obtain⟨_,_,F⟩:=ha;refine(I.hok b ob e).stay (λc Y B q=>(hs.2 c ?_).trans q) (λ_ q=>q) λ_ _ q=>q;rintro rfl;rcases B with rfl|B
  .rw[F]at e;cases e
  .rw[F]at B;cases B
 rcases C with L|L
 .refine wpAny_storeName_local L hn (λh' zY hs=>?_) R;obtain⟨oL,_,_,zV,_⟩:=id hn;refine h _ ⟨I.ok,I.os,I.bare,⟨λb o e n g C=>?_,λb o e n g C=>?_,I.base.free,λb o e C=>?_,I.base.tups,I.base.frzs,I.base.tbls⟩,⟨_,zY,λj y v' l K e3=>?_⟩,λy c e=>?_,I.free,I.freeC,λp hp=>?_,f ⟨oL,zV,I.free⟩ hs,by simpa using I.len⟩ ⟨_,hs,.inl rfl⟩
  .exact(hs.2 b<|eh<|dh (cn e) I.ok.above).trans (I.base.keep b o e n g C)
  .obtain⟨sl,l⟩:=I.base.slot b o e n g C;exact⟨sl,(hs.2 b<|eh<|dh (cn e) I.ok.above).trans l⟩
  .obtain⟨o',l⟩:=I.base.there b o e C;exact⟨o',(hs.2 b<|eh<|dh (cn e) I.ok.above).trans l⟩
  .by_cases T:j=i
   .subst T;rw[O]at l;cases l;rw[gv P]at K;cases K;exact⟨u,r,.inl ⟨L,Δ⟩⟩
   .rw[gj<|Ne.symm T]at K;obtain⟨u',r',q⟩:=hl j y v' l K e3;refine⟨u',r',?_⟩;rcases q with⟨k,e⟩|⟨k,c,e,z⟩
    .refine .inl ⟨k,?_⟩;have:y≠x:=λe=>T<|T4 hN l<|e▸O;simp[this,e]
    .exact .inr ⟨k,c,e,z.sameBut hs<|cne y c e⟩
  .obtain⟨Y,z⟩:=I.cell y c e;exact⟨Y,z.sameBut hs<|cne y c e⟩
  .obtain⟨e,n,ne,nf,d⟩:=I.pin p hp;exact⟨(hs.2 p.1 ne).trans e,n,ne,nf,d⟩
 .have Z:X.fn x=aC:=by
   rcases hf with z|z
   .exact z
   .rw[z]at L;cases L
  obtain⟨c,B⟩:=I.ok.has x<|.inl L;obtain⟨Y,z⟩:=I.cell x c B;refine wpAny_storeName_cell I.ok.kind L B z<|λh' W hs=>?_;obtain⟨oc,J,G⟩:=id z;refine h {s with heap:=h'} ⟨I.ok,I.os,I.bare,⟨λb o e n g C=>?_,λb o e n g C=>?_,I.base.free,λb o e C=>?_,I.base.tups,I.base.frzs,I.base.tbls⟩,⟨m,hn.sameBut hs<|Ne.symm<|cne x c B,λj y v' l K e3=>?_⟩,λy c' e=>?_,I.free,I.freeC,λp hp=>?_,f ⟨oc,J,I.freeC x c B⟩ hs,by simpa using I.len⟩ ⟨c,hs,.inr B⟩
  .exact(hs.2 b<|eh<|dh (cn e)<|I.ok.cab x c Z B).trans (I.base.keep b o e n g C)
  .obtain⟨sl,l⟩:=I.base.slot b o e n g C;exact⟨sl,(hs.2 b<|eh<|dh (cn e)<|I.ok.cab x c Z B).trans l⟩
  .obtain⟨o',l⟩:=I.base.there b o e C;exact⟨o',(hs.2 b<|eh<|dh (cn e)<|I.ok.cab x c Z B).trans l⟩
  .by_cases T:j=i
   .subst T;rw[O]at l;cases l;rw[gv P]at K;cases K;exact⟨u,r,.inr ⟨.inl L,c,B,W⟩⟩
   .rw[gj<|Ne.symm T]at K;obtain⟨u',r',q⟩:=hl j y v' l K e3;refine⟨u',r',?_⟩;rcases q with q|⟨k,c',e,z'⟩
    .exact .inl q
    .refine .inr ⟨k,c',e,z'.sameBut hs ?_⟩;rintro rfl;exact T<|T4 hN l<|I.ok.inj _ _ _ e B▸O
  .by_cases U:c'=c
   .subst U;exact⟨_,W⟩
   .obtain⟨w2,z2⟩:=I.cell y c' e;exact⟨w2,z2.sameBut hs U⟩
  .obtain⟨e,n,ne,nf,d⟩:=I.pin p hp;refine⟨(hs.2 p.1 ?_).trans e,n,ne,nf,d⟩;intro q;rw[q,J]at e;have q':oc=p.2:=h8.inj e;exact d Y (by rw[<-q'];exact G)
theorem T5(I:dL X dG σ H s)(f:X.N.Nodup)(c:X.N[i]? =aA x)(a:Loc X.e.scope x)(r:Z9 v u)(h:∀s',dL X dG (σ.set i<|aA v) H s'->Q () s')(hf:‹X.fn x=aC\/X.e.scope.names.lookup x=aA .local›):de M A (ED X.e x u) Q E s:=
 Pn I f c a r (λs' j _=>h s' j) hf
theorem dL.call'(I:dL X dG σ H s)(h:s'.os=s.os)(u:Un (Re X.stack) ch H H' s.heap s'.heap)(a:Rc X.p X.w H' s'.heap)(j:uc s'.gens)(f:∀b∈ch,(b∈X.ex\/X.s₀.heap.objs.size<=b)/\b≠X.e.locals/\(∀x c,X.e.cells.lookup x=aA c->c≠b)/\∀p∈X.pn++dG,p.1≠b):dL X dG σ H' s':=by
 obtain⟨h',g',d',t',o'⟩:=s';have e:o'=s.os:=h;subst e;exact I.call (g':=g') (t':=t') (d':=d') u a j f
abbrev XK:=am->Á aq->Hp->Prop
noncomputable abbrev St:=List<|Option V
abbrev VK:=V->Hp->Prop
abbrev TE:=St->Hp->VK->Prop
abbrev TT:=St->Hp->(Bool->Hp->Prop)->Prop
abbrev TA:=St->Hp->(À V->Hp->Prop)->Prop
structure Ends where
 nx:St->Hp->Prop
 rt:VK
 bk:St->Hp->Prop:=λ_ _=>False
 ct:St->Hp->Prop:=λ_ _=>False
abbrev TS:=Ends->St->Hp->Prop
inductive EP(X:Cx)(dG σ) (Q:VK) (u s'):Prop where
 |mk (v H') (I:dL X dG σ H' s') (r:Z9 v u) (q:Q v H')
inductive TP(X:Cx)(dG σ) (Q:Bool->Hp->Prop) (b s'):Prop where
 |mk (H') (I:dL X dG σ H' s') (q:Q b H')
inductive AP(X:Cx)(dG σ) (Q:List V->Hp->Prop) (us s'):Prop where
 |mk (vs H') (I:dL X dG σ H' s') (r:Yg vs us) (q:Q vs H')
inductive GP(X:Cx)(dG) (Q:St->Hp->Prop) (s'):Prop where
 |mk (σ H) (I:dL X dG σ H s') (q:Q σ H)
def SP(X:Cx)(dG:List<|aq×Obj)(D:Ends)(f:Flow)(s':au):Prop:=
 match f with
 | .next=>GP X dG D.nx s'
 | .brk=>GP X dG D.bk s'
 | .cont=>GP X dG D.ct s'
 | .ret u=>∃v a H',dL X dG a H' s'/\Z9 v u/\D.rt v H'
def PE(X:Cx)(e:dz)(t:TE):Prop:=
 ∀(dG:À (aq×Obj)) (s:au) (σ:St) (H:Hp) (Q:VK),dL X dG σ H s->t σ H Q->de (dw X.p X.w) X.A (oz e X.e) (EP X dG σ Q) X.xe s
def PT(X:Cx)(e:dz)(t:TT):Prop:=
 ∀(dG:À (aq×Obj)) (s:au) (σ:St) (H:Hp) (Q:Bool->Hp->Prop),dL X dG σ H s->t σ H Q->de (dw X.p X.w) X.A (isTrue e X.e<|oz e X.e) (TP X dG σ Q) X.xe s
def PW(X:Cx)(e:dz)(t:TT):Prop:=
 ∀(a:Sem am) (dG:À (aq×Obj)) (s:au) (σ:St) (H:Hp) (Q:Bool->Hp->Prop),dL X dG σ H s->t σ H Q->de (dw X.p X.w) X.A (isTrue e X.e a) (TP X dG σ Q) X.xe s
theorem PW.pt(h:PW X e t):PT X e t:=h _
def PA(X:Cx)(es:À dz)(t:TA):Prop:=
 ∀(pos:Pos) (dG:À (aq×Obj)) (s:au) (σ:St) (H:Hp) (Q:À V->Hp->Prop),dL X dG σ H s->t σ H Q->de (dw X.p X.w) X.A (GN<|qt pos<|jv es X.e) (AP X dG σ Q) X.xe s
def PS(X:Cx)(st:lu)(t:TS):Prop:=
 ∀(dG:À (aq×Obj)) (s:au) (σ:St) (H:Hp) (D:Ends),dL X dG σ H s->t D σ H->de (dw X.p X.w) X.A (exec st X.e) (SP X dG D) X.xe s
def Ma(X:Cx)(st:À lu)(t:TS):Prop:=
 ∀(dG:À (aq×Obj)) (s:au) (σ:St) (H:Hp) (D:Ends),dL X dG σ H s->t D σ H->de (dw X.p X.w) X.A (execs st X.e) (SP X dG D) X.xe s
theorem Wy{Q:α->au->Prop}(h:de M A t Q E s)(hQ:∀a s,Q a s->Q' a s):de M A t Q' E s:=ij h hQ λ_ _ x=>x
def Bb(i:Nat):TE:=λσ H Q=>∃v,σ[i]? =aA (aA v)/\Q v H
def tC(v:V):TE:=λ_ H Q=>Q v H
theorem Jy(j:Vr X i x):PE X (.Name x pos)<|Bb i:=by
 intro dG s σ H Q I h;obtain⟨v,e,h⟩:=h;obtain⟨m,hn,p⟩:=I.loc;obtain⟨u,r,l⟩:=p i x v j.1 e j.2;have fin:EP X dG σ Q u s:=⟨v,H,I,r,h⟩
 rcases l with⟨f,o⟩|⟨f,c,n,a⟩
 .exact BY (BA I.ok.kind f hn o fin) j.3
 .rcases f with f|f
  .exact BY (BJ I.ok.kind f n a fin) j.3
  .exact BY (wpAny_loadName_free I.ok.kind f n a fin j.4) j.3
theorem V2:PE X (.Constant (.int i) j pos)<|tC<|.int i:=λ_ _ _ H _ I h=>wpAny_Constant_int ⟨.int i,H,I.tok _,⟨_,rfl⟩,h⟩
theorem w_:PE X (.Constant (.bool b) j pos)<|tC<|.bl b:=λ_ _ _ H _ I h=>Constant_bool ⟨.bl b,H,I,rfl,h⟩
theorem rE:PE X (.Constant .none j pos)<|tC .non:=λ_ _ _ H _ I h=>Constant_none ⟨.non,H,I,rfl,h⟩
theorem V3:PE X (.Constant (.str x) j pos)<|tC<|.str x:=λ_ _ _ H _ I h=>Calls.Constant_str ⟨.str x,H,I.tok _,⟨_,rfl⟩,h⟩
def Gl(X:Cx)(x:Str):Prop:=X.e.kindOf x=aA .globalImplicit
theorem T6{σ:St}(I:dL X dG σ H s)(c:Gl X x)(a:X.mg x=aA u)(h:Q u s)(hd:‹Nd x›):de (dw X.p X.w) X.A (oz (.Name x pos) X.e) Q E s:=
 yc I.ok.kind c (Calls.loadGlobal_global (by rw[I.ok.glob];exact I.mod.glob.keeps I.bk) a h) hd
theorem Rf{E}{σ:St}{pos}(I:dL X dG σ H s)(f:Gl X x)(c:X.mg x=aB)(a:kq x=aA u)(h:Q u s)(hn:‹x≠"__name__"›)(hd:‹Nd x›):de (dw X.p X.w) X.A (oz (.Name x pos) X.e) Q E s:=by
 obtain⟨j,h1,h2⟩:=I.mod.blt;exact yc I.ok.kind f (Calls.loadGlobal_builtin (by rw[I.ok.glob];exact I.mod.glob.keeps I.bk) c (by rw[I.ok.blt];exact h1.keeps I.bk) ((h2 x hn).trans a) h) hd
theorem KN(c:Gl X x)(a:X.mg x=aA u)(r:Z9 v u)(hd:‹Nd x›):PE X (.Name x pos)<|tC v:=
 λ_ _ _ H _ I h=>T6 I c a ⟨v,H,I,r,h⟩ hd
def tB(t:TE):TT:=λσ H Q=>t σ H λx H1=>∃c,x= .bl c/\Q c H1
theorem rD(h:PE X e t)(j:‹∀g,isTrue e X.e g=(do let v<-g;standAt e.pos;AA [v] (truthy v))›):PT X e<|tB t:=by intro dG s σ H Q I f;refine isTrue_plain (Wy (h dG s σ H _ I f) λv m ⟨x,H1,l,a,c⟩=>?_)<|j _;obtain⟨d,rfl,q⟩:=c;cases a;exact nv ⟨H1,l,q⟩
def gT(t u:TT):TT:=λσ H Q=>t σ H λc H1=>if c=aC then u σ H1 Q else Q aE H1
def tOr(t u:TT):TT:=λσ H Q=>t σ H λc H1=>if c=aC then Q aC H1 else u σ H1 Q
def gS(t:TT):TT:=λσ H Q=>t σ H λc H1=>Q (!c) H1
theorem rC(p:PT X a tA)(o:PW X (.BoolOp .And (b::rest) pos) tB'):PW X (.BoolOp .And (a::b::rest) pos)<|gT tA tB':=by
 intro m dG s σ H Q I h;refine ID<|Wy (p dG s σ H _ I h) λc n f=>?_;obtain⟨H1,l,j⟩:=f;cases c with
 |true=>exact o m dG n σ H1 Q l j
 |false=>exact⟨H1,l,j⟩
theorem w6(p:PT X a tA)(o:PW X (.BoolOp .Or (b::rest) pos) tB'):PW X (.BoolOp .Or (a::b::rest) pos)<|tOr tA tB':=by
 intro m dG s σ H Q I h;refine IP<|Wy (p dG s σ H _ I h) λc n f=>?_;obtain⟨H1,l,j⟩:=f;cases c with
 |true=>exact⟨H1,l,j⟩
 |false=>exact o m dG n σ H1 Q l j
theorem rB(f:PT X a tA):PT X (.UnaryOp .Not a pos)<|gS tA:=by intro dG s σ H Q I h;exact isTrue_not (Wy (f dG s σ H (λc H1=>Q (!c) H1) I h) λc l z=>by obtain⟨H1,j,q⟩:=z;exact⟨H1,j,q⟩)
def wo(a tb:TE):TE:=λσ H Q=>a σ H λx H1=>∃c,x= .bl c/\if c=aC then tb σ H1 Q else Q (.bl aE) H1
theorem rA  (h:PE X a t):PE X (.BoolOp op [a] pos) t:=λdG s σ H Q I c=>BoolOp_one<|h dG s σ H Q I c
theorem s_(p:PE X a ta)(o:PE X (.BoolOp .And (b::rest) pos) tb):PE X (.BoolOp .And (a::b::rest) pos)<|wo ta tb:=by
 intro dG s σ H Q I h;refine BoolOp_and<|Wy (p dG s σ H _ I h) λv m j=>?_;obtain⟨x,H1,l,n,f⟩:=j;obtain⟨c,rfl,f⟩:=f;cases n;refine nv ?_;cases c with
 |true=>exact o dG m σ H1 Q l f
 |false=>exact⟨.bl aE,H1,l,rfl,f⟩
def tIf(t:TT)(a tb:TE):TE:=λσ H Q=>t σ H λc H1=>if c=aC then a σ H1 Q else tb σ H1 Q
theorem lT(n:PT X c tA)(p:PE X a ta)(o:PE X b tb):PE X (.IfExp c a b pos)<|tIf tA ta tb:=by
 intro dG s σ H Q I h;refine wpAny_IfExp<|Wy (n dG s σ H _ I h) λd j f=>?_;obtain⟨H1,m,l⟩:=f;cases d with
 |true=>exact p dG j σ H1 Q m l
 |false=>exact o dG j σ H1 Q m l
def W3(K:ak)(H:Hp)(a:aq)(xs:À V):Prop:=
 Rd H a (.lst xs)\/
  ∃(o:Obj) (dI:Array am) (n:Nat),K.lookup a=aA o/\o.cls= .type "list"/\o.dict=aB/\o.data= .seq dI n/\dI.size<=sizeLine/\Yg xs dI.toList
def Eu(K:ak)(H:Hp)(a:aq)(xs:À V):Prop:=
 Rd H a (.tup xs)\/
  ∃(o:Obj) (dI:Array am) (n:Nat),K.lookup a=aA o/\o.cls= .type "tuple"/\o.data= .seq dI n/\dI.size<=sizeLine/\Yg xs dI.toList
noncomputable def gR:am->Option V
 | .none=>aA .non
 | .bool b=>aA<|.bl b
 | .int i _=>aA<|.int i
 | .str x _=>aA<|.str x
 | .bytes b _=>aA<|.byt b
 | .float b _=>aA<|.flt b
 | .ref a=>aA<|.ref a
 | .type n=>aA<|.ty n
 |_=>aB
theorem Z9.abs(r:Z9 x u):gR u=aA x:=by
 cases x with
 |non=>cases r;rfl
 |bl _=>cases r;rfl
 |int _=>obtain⟨t,rfl⟩:=r;rfl
 |str _=>obtain⟨t,rfl⟩:=r;rfl
 |byt _=>obtain⟨t,rfl⟩:=r;rfl
 |flt _=>obtain⟨t,rfl⟩:=r;rfl
 |ref _=>cases r;rfl
 |ty _=>cases r;rfl
theorem Z9.inj(r:Z9 x u)(q:Z9 y u):x=y:=h8.inj<|r.abs.symm.trans q.abs
theorem Yg.inj:∀{ys:À V} {us:À am},Yg xs us->Yg ys us->xs=ys:=by
 induction xs with
 |nil=>intro ys us h g;cases h;cases g;rfl
 |cons x xs c=>
  intro ys us h g;cases h with
  |cons r t=>
   cases g with
   |cons a t'=>rw[r.inj a,c t t']
section
variable{X:Cx}{dG:À (aq×Obj)}{σ:St}{H:Hp}{s:au}{a:aq}{xs ys:À V}
theorem dL.list(I:dL X dG σ H s)(h:W3 X.K H a xs):∃dI,A3 (Yg xs dI) (PlainL s.heap a dI.toArray)<|xs.length<=sizeLine:=by
 rcases h with h|⟨o,dI,n,c,f,hd,hs,hz,r⟩
 .obtain⟨z,dI,n,r,e⟩:=h.ok I.hok;exact⟨dI,r,⟨_,n,e,rfl,rfl,rfl⟩,z⟩
 .refine⟨dI.toList,r,⟨o,n,I.kIn a o c,f,hd,by simpa using hs⟩,?_⟩;have e:=r.length;simp only[kn]at e;lia
theorem dL.tuple(I:dL X dG σ H s)(h:Eu X.K H a xs):∃dI,A3 (Yg xs dI) (HV s.heap a dI.toArray)<|xs.length<=sizeLine:=by
 rcases h with h|⟨o,dI,n,c,f,hs,hz,r⟩
 .obtain⟨z,dI,r,p⟩:=h.ok I.hok;exact⟨dI,r,p,z⟩
 .refine⟨dI.toList,r,⟨o,I.kIn a o c,f,n,by simpa using hs⟩,?_⟩;have e:=r.length;simp only[kn]at e;lia
theorem dL.list_inj(I:dL X dG σ H s)(h:W3 X.K H a xs)(h':W3 X.K H a ys):xs=ys:=by
 obtain⟨dI,r,⟨o,n,e,_,_,d⟩,_⟩:=I.list h;obtain⟨its',f,⟨o',j,c,_,_,d'⟩,_⟩:=I.list h';rw[e]at c;cases c;rw[d]at d';injection d' with d1 _
 have:dI=its':=by simpa using congrArg AQ d1
 subst this;exact r.inj f
theorem dL.tuple_inj(I:dL X dG σ H s)(h:Eu X.K H a xs)(h':Eu X.K H a ys):xs=ys:=by
 obtain⟨dI,r,⟨o,e,_,n,d⟩,_⟩:=I.tuple h;obtain⟨its',f,⟨o',c,_,j,d'⟩,_⟩:=I.tuple h';rw[e]at c;cases c;rw[d]at d';injection d' with d1 _
 have:dI=its':=by simpa using congrArg AQ d1
 subst this;exact r.inj f
end
noncomputable abbrev Cx.wish(X:Cx)(E:am->au->Prop):Cx:={X with xe:=E}
noncomputable abbrev Cx.nox(X:Cx):Cx:=X.wish λ_ _=>False
theorem Cx.Ok.wish{X:Cx}(ok:X.Ok)(E):(X.wish E).Ok:=
 ⟨ok.mod,ok.kind,ok.glob,ok.blt,ok.above,ok.inj,ok.has,ok.cab,ok.hd,ok.frames,ok.stk,ok.exf,ok.bs,ok.bsz,ok.noex,ok.exfs,ok.funs,ok.frf⟩
theorem Cx.Ok.unwish{X:Cx}(ok:(X.wish E).Ok):X.Ok:=
 ⟨ok.mod,ok.kind,ok.glob,ok.blt,ok.above,ok.inj,ok.has,ok.cab,ok.hd,ok.frames,ok.stk,ok.exf,ok.bs,ok.bsz,ok.noex,ok.exfs,ok.funs,ok.frf⟩
section
variable{X:Cx}{dG:À (aq×Obj)}{σ:St}{H:Hp}{s:au}{E:am->au->Prop}
theorem dL.wish(I:dL X dG σ H s)(E):dL (X.wish E) dG σ H s:=⟨I.ok.wish E,I.os,I.bare,I.base,I.loc,I.cell,I.free,I.freeC,I.pin,I.hok,I.len⟩
theorem dL.unwish(I:dL (X.wish E) dG σ H s):dL X dG σ H s:=⟨I.ok.unwish,I.os,I.bare,I.base,I.loc,I.cell,I.free,I.freeC,I.pin,I.hok,I.len⟩
theorem SP.unwish(h:SP (X.wish E) dG D f s'):SP X dG D f s':=by
 cases f with
 |next=>obtain⟨a,H',I,q⟩:=h;exact⟨a,H',I.unwish,q⟩
 |brk=>obtain⟨a,H',I,q⟩:=h;exact⟨a,H',I.unwish,q⟩
 |cont=>obtain⟨a,H',I,q⟩:=h;exact⟨a,H',I.unwish,q⟩
 |ret u=>obtain⟨v,a,H',I,r,q⟩:=h;exact⟨v,a,H',I.unwish,r,q⟩
theorem Ma.nox{st}(h:Ma X.nox st t):Ma X st t:=λdG s σ H D I a=>
 ij (h dG s σ H D (I.wish _) a) (λ_ _ q=>q.unwish) λ_ _ z=>ln z
end
section
variable{X:Cx}{st:lu}{t u:TS}
def P_:TS:=λD σ H=>D.nx σ H
def gQ(t u:TS):TS:=λD σ H=>t {D with nx:=u D} σ H
theorem ov:Ma X [] P_:=λ_ _ σ H _ I h=>u2 ⟨σ,H,I,h⟩
theorem lS(h1:PS X st t)(h2:Ma X rest u):Ma X (st::rest)<|gQ t u:=by
 intro dG s σ H D I h;refine EA<|Wy (h1 dG s σ H {D with nx:=u D} I h) λf c q=>?_;cases f with
 |next=>obtain⟨a,H',j,q⟩:=q;exact h2 dG c a H' D j q
 |ret v=>exact q
 |brk=>exact q
 |cont=>exact q
theorem ot(h1:PS X st t):Ma X [st] t:=by
 intro dG s σ H D I h;refine EA<|Wy (h1 dG s σ H D I h) λf a q=>?_;cases f with
 |next=>exact u2 q
 |ret v=>exact q
 |brk=>exact q
 |cont=>exact q
theorem dL.quiet{σ:St}(I:dL X dG σ H s):HP X.e=aE:=by simp[HP,I.ok.kind]
def Ch(te:TE):TS:=λD σ H=>te σ H λ_ H1=>D.nx σ H1
theorem Q9(c:PE X e te)(hs:‹i6 e aB pos.line X.e=jh aE›):PS X (.Expr e pos)<|Ch te:=by intro dG s σ H D I h;exact wpAny_Expr_any (Wy (c dG s σ H _ I h) λv j ⟨x,H1,f,l,a⟩=>⟨σ,H1,f,a⟩) I.quiet hs
def QC(te:TE):TS:=λD σ H=>te σ H D.rt
theorem sq(f:PE X e te):PS X (.Return (aA e) pos)<|QC te:=by intro dG s σ H D I h;exact wpAny_Return_some<|Wy (f dG s σ H _ I h) λv l ⟨x,H1,j,a,c⟩=>⟨x,σ,H1,j,a,c⟩
def gP(c:TT)(t u:TS):TS:=λD σ H=>c σ H λb H1=>if b=aC then t D σ H1 else u D σ H1
theorem wl(n:PT X c tc)(p:Ma X a t)(o:Ma X b u):PS X (.If c a b pos)<|gP tc t u:=by
 intro dG s σ H D I h;refine wpAny_If<|Wy (n dG s σ H _ I h) λd j f=>?_;obtain⟨H1,m,l⟩:=f;cases d with
 |true=>exact p dG j σ H1 D m l
 |false=>exact o dG j σ H1 D m l
def sf:TS:=λ_ _ _=>False
theorem lR:PS X st sf:=λ_ _ _ _ _ _ h=>h.elim
end
abbrev TG:=V->St->Hp->(St->Hp->Prop)->Prop
abbrev TGs:=À V->St->Hp->(St->Hp->Prop)->Prop
def PG(X:Cx)(a:dz)(t:TG):Prop:=
 ∀(dG:À (aq×Obj)) (s:au) (σ:St) (H:Hp) (v:V) (u:am) (Q:St->Hp->Prop),dL X dG σ H s->Z9 v u->t v σ H Q->
  de (dw X.p X.w) X.A (AB a X.e u) (λ_ s'=>GP X dG Q s') X.xe s
def PGs(X:Cx)(a:À dz)(t:TGs):Prop:=
 ∀(dG:À (aq×Obj)) (s:au) (σ:St) (H:Hp) (vs:À V) (us:À am) (Q:St->Hp->Prop),dL X dG σ H s->Yg vs us->t vs σ H Q->
  de (dw X.p X.w) X.A (assignInOrder ((pz a X.e).map (·.2)) us) (λ_ s'=>GP X dG Q s') X.xe s
abbrev TIp:=V->V->Hp->VK->Prop
def PIp(X:Cx)(op:BF)(t:TIp):Prop:=
 ∀(dG:À (aq×Obj)) (s:au) (σ:St) (H:Hp) (x y:V) (v u:am) (Q:VK),dL X dG σ H s->Z9 x v->Z9 y u->t x y H Q->
  de (dw X.p X.w) X.A (IQ op v u) (EP X dG σ Q) X.xe s
section
variable{pos:Pos}
def Ko(i:Nat):TG:=λv σ H Q=>Q (σ.set i<|aA v) H
theorem oa(f:X.N.Nodup)(c:X.N[i]? =aA x)(a:Loc X.e.scope x)(hf:‹X.fn x=aC\/X.e.scope.names.lookup x=aA .local›):PG X (.Name x pos)<|Ko i:=by intro dG s σ H v u Q I r h;exact DG<|T5 I f c a r (λs' j=>⟨_,H,j,h⟩) hf
def R':TGs:=λvs σ H Q=>vs=[]/\Q σ H
def wH(t:TG)(u:TGs):TGs:=λvs σ H Q=>∃v r,vs=v::r/\t v σ H λa H'=>u r a H' Q
theorem oZ:PGs X [] R':=by intro dG s σ H vs us Q I r h;obtain⟨e,h⟩:=h;subst e;cases r;exact assignInOrder_nil ⟨σ,H,I,h⟩
theorem lQ(h1:PG X e t)(h2:PGs X es u)(hs:‹(pz (e::es) X.e).map (·.2)=AB e X.e::(pz es X.e).map (·.2)›):PGs X (e::es)<|wH t u:=by
 intro dG s σ H vs us Q I r h;obtain⟨v,o,m,h⟩:=h;subst m;cases r with
 |cons r j=>rw[hs];refine assignInOrder_cons<|Wy (h1 dG s σ H _ _ _ I r h) λ_ f c=>?_;obtain⟨a,H1,n,l⟩:=c;exact h2 dG f a H1 _ _ Q n j l
def gO(K:ak)(n:Nat)(t:TGs):TG:=λv σ H Q=>∃a xs,v= .ref a/\Eu K H a xs/\xs.length=n/\t xs σ H Q
theorem sd{k}(q:X.calm=aC)(h:PGs X es t)(hn:‹(pz es X.e).length=n›)(f:‹(pz es X.e).findIdx? (·.1)=aB›):PG X (.Tuple es k pos)<|gO X.K n t:=by
 intro dG s σ H v u Q I r c;obtain⟨a,xs,w,m,p,c⟩:=c;subst w;cases r;obtain⟨dI,rv,l,hz⟩:=I.tuple m;refine assign_Tuple_tuple (I.ok.hd q) l (by simp[hn,<-p,rv.length]) f λh' j=>?_;have x:dL X dG σ H {s with heap:=h'}:=I.kept (t':=s.toks) λb o e=>j b o (eh<|cn e) e;exact h dG _ σ H xs _ Q x (by simpa using rv) c
def XA(te:TE)(g:TG):TS:=λD σ H=>te σ H λx H1=>g x σ H1 D.nx
theorem T_(m:X.N.Nodup)(j:X.N[i]? =aA x)(f:Loc X.e.scope x)(l:PE X e te)(hs:‹i6 e (aA<|.Name x pos') pos.line X.e=jh aE›)(hf:‹X.fn x=aC\/X.e.scope.names.lookup x=aA .local›):
  PS X (.Assign [.Name x pos'] e pos) (XA te<|Ko i):=by
 intro dG s σ H D I h;refine wpAny_Assign_Name (Wy (l dG s σ H _ I h) λv q ⟨y,H1,o,a,c⟩=>?_) hs;exact T5 o m j f a (λp n=>⟨_,H1,n,c⟩) hf
def R_(i:Nat)(te:TE)(a:TIp):TS:=λD σ H=>∃x,σ[i]? =aA (aA x)/\te σ H λy H1=>a x y H1 λz H2=>D.nx (σ.set i<|aA z) H2
theorem sZ(M:X.N.Nodup)(C:X.N[i]? =aA x)(B:Loc X.e.scope x)(G:PE X e te)(T:PIp X op ti)(hf:‹X.fn x=aC\/X.e.scope.names.lookup x=aA .local›):
  PS X (.AugAssign (.Name x pos') op e pos) (R_ i te ti):=by
 intro dG s σ H D I h;obtain⟨v,O,h⟩:=h;obtain⟨m,hn,g⟩:=I.loc;have q:Vis X.e.scope x:=by rcases B with k|k;exact .inl k;exact .inr<|.inl k
 obtain⟨u,r,l⟩:=g i x v C O q;refine wpAny_AugAssign_Name ?_;have E:de (dw X.p X.w) X.A (oz e X.e) (λw o=>de (dw X.p X.w) X.A (IQ op u w) (λr n=>de (dw X.p X.w) X.A (ED X.e x r) (λ_=>SP X dG D .next) X.xe n) X.xe o) X.xe s:=by refine Wy (G dG s σ H _ I h) λw F f=>?_;obtain⟨y,H1,W,L,Q⟩:=f;refine Wy (T dG F σ H1 v y u w _ W r L Q) λz s2 f=>?_;obtain⟨Y,H2,U,K,P⟩:=f;exact T5 U M C B K (λs3 R=>⟨_,H2,R,P⟩) hf
 rcases l with⟨a,Z⟩|⟨a,c,J,j⟩
 .exact BA I.ok.kind a hn Z E
 .rcases a with a|a
  .exact BJ I.ok.kind a J j E
  .rcases B with k|k
   .have:X.e.scope.names.lookup x=aA .free:=a;rw[k]at this;cases this
   .have:X.e.scope.names.lookup x=aA .free:=a;rw[k]at this;cases this
def ipI(f:Int->Int->Int):TIp:=λx y H Q=>∃i j,x= .int i/\y= .int j/\Q (.int<|f i j) H
theorem sY:PIp X .Add<|ipI λi j=>i+j:=by intro dG s σ H x y v u Q I c a h;obtain⟨i,j,l,f,q⟩:=h;subst l;subst f;obtain⟨t,rfl⟩:=c;obtain⟨t',rfl⟩:=a;exact iadd_int ⟨.int _,H,I.tok _,⟨_,rfl⟩,q⟩
def N_(c:TT)(tb:TS):TS:=λD σ H=>∃W:Nat->St->Hp->Prop,(∃m,W m σ H)/\∀m σ H,W m σ H->
 c σ H λb H1=>if b=aC then∃N:St->Hp->Prop,(∀a H',N a H'->∃f,f<m/\W f a H')/\tb {D with nx:=N,ct:=N,bk:=D.nx} σ H1 else D.nx σ H1
theorem lP(C:zi (dw X.p X.w) X.A X.e X.xe)(Z:PT X c tc)(g:Ma X body tb):PS X (.While c body [] pos)<|N_ tc tb:=by
 intro dG s σ H D I h;obtain⟨W,⟨T,L⟩,turn⟩:=h;refine wpAny_While<|codeAny_whileLoop (λn s'=>∃l H',dL X dG l H' s'/\W n l H') ?_ T ⟨σ,H,I,L⟩;rintro n Q ⟨j,H1,i,K⟩;refine nc C<|Wy (Z dG Q j H1 _ i<|turn n j H1 K) λb P r=>?_;obtain⟨H2,F,q⟩:=r;cases b with
 |true=>
  obtain⟨N,E,q⟩:=q;rw[dZ rfl];refine nc C<|Wy (g dG P j H2 _ F q) λf G o=>?_;cases f with
  |next=>obtain⟨a,m,B,x⟩:=o;obtain⟨y,z,u⟩:=E a m x;exact⟨y,z,a,m,B,u⟩
  |cont=>obtain⟨a,m,B,x⟩:=o;obtain⟨y,z,u⟩:=E a m x;exact⟨y,z,a,m,B,u⟩
  |brk=>exact o
  |ret v=>exact o
 |false=>rw[dY df];exact u2 ⟨j,H2,F,q⟩
end
structure It where
 go:Nat->Hp->Prop
 yld:Nat->Hp->V->Hp->Prop
 stop:Nat->Hp->Prop
def Qy(X:Cx)(dG:À (aq×Obj))(H:Hp)(b:aq):Prop:=
 H b=aB/\b≠X.e.locals/\b∉X.fs/\(b∈X.ex\/X.s₀.heap.objs.size<=b)/\(∀x c,X.e.cells.lookup x=aA c->c≠b)/\∀p∈X.pn++dG,p.1≠b
theorem dL.fpOk{σ:St}{b:aq}(I:dL X dG σ H s)(a:s.heap.objs.size<=b)(hn:H' b=aB):Qy X dG H' b:=by
 refine⟨hn,ku<|dh I.lt a,I.nofs a,.inr<|fg I.sz a,λx c e z=>?_,λp f z=>?_⟩
 .obtain⟨v,q⟩:=I.cell x c e;exact dt (dh q.lt (by rw[z];exact a))<|g6 _
 .exact dt (dh (cn (I.pin p f).1) (by rw[z];exact a)) (g6 _)
structure Turn(P:eg)(w:gq)(K:ak)(tg:dz)(J:It)(fp:À aq)(it:aq)(tn:Nat->ie->Prop):Prop where
 mem:it∈fp
 obj:∀i h,tn i h->∀b∈fp,∃o,h.get? b=aA o/\∀v,o.data≠.cell v
 keep:∀i h h',tn i h->(∀b∈fp,∀o,h.get? b=aA o->h'.get? b=aA o)->tn i h'
 item:∀(X:Cx),X.p=P->X.w=w->X.K=K->X.calm=aC->∀(i:Nat) (dG:À (aq×Obj)) (s:au) (σ:St) (H:Hp) (E:am->au->Prop),dL X dG σ H s->(∀b∈fp,Qy X dG H b)->tn i s.heap->J.go i H->
  de (dw P w) X.A (qr<|.ref it) (λr s1=>∃u,r=aA u/\
   de (dw P w) X.A (rh tg (.ref it) u) (λ_ s2=>∃x H',dL X dG σ H' s2/\Z9 x u/\J.yld i H x H'/\tn (i+1) s2.heap/\∀b∈fp,H' b=aB) E s1) E s
 done:∀(X:Cx),X.p=P->X.w=w->X.K=K->X.calm=aC->∀(i:Nat) (dG:À (aq×Obj)) (s:au) (σ:St) (H:Hp) (E:am->au->Prop),dL X dG σ H s->(∀b∈fp,Qy X dG H b)->tn i s.heap->J.stop i H->
  de (dw P w) X.A (qr<|.ref it) (λr s1=>r=aB/\dL X dG σ H s1) E s
 self:∀(A:fj) (i:Nat) (s:au) (Q:am->au->Prop) (E:am->au->Prop),tn i s.heap->Q (.ref it) s->de (dw P w) A (CC<|.ref it) Q E s
abbrev TI:=St->Hp->(It->Hp->Prop)->Prop
def PIE(X:Cx)(dG:À (aq×Obj))(σ:St)(tg:dz)(R:It->Hp->Prop)(a:am)(f:au):Prop:=
 ∃(it:aq) (fp:À aq) (c:Nat->ie->Prop) (J:It) (H':Hp),a= .ref it/\dL X dG σ H' f/\Turn X.p X.w X.K tg J fp it c/\c 0 f.heap/\(∀b∈fp,Qy X dG H' b)/\R J H'
def PI(X:Cx)(tg iter:dz)(a:TI):Prop:=
 ∀(dG:À (aq×Obj)) (s:au) (σ:St) (H:Hp) (R:It->Hp->Prop),dL X dG σ H s->a σ H R->
  de (dw X.p X.w) X.A (oz iter X.e) (λv c=>de (dw X.p X.w) X.A (CC v) (PIE X dG σ tg R) X.xe c) X.xe s
theorem WJ(a:s.heap.get? it=aA o)(c:o.cls= .type n)(hd:o.data= .fields vs)(hn:["enumerate","zip","dict_itemiterator","dict_reverseitemiterator","odict_iterator","itertools.zip_longest","itertools.pairwise"].contains n=aE)(hQ:Q () s):de M A (rh tg (.ref it) u) Q E s:=by
  unfold rh;cases tg<;> first
    |exact ay hQ
    | (cases u<;> first
        |exact ay hQ
        | (refine af (HZ a ?_)
           rw[c,hd];show de M A (if(["enumerate","zip","dict_itemiterator","dict_reverseitemiterator","odict_iterator","itertools.zip_longest","itertools.pairwise"].contains n&&vs[0]? ==aA (j4 _))=aC then _ else _) Q E s;rw[dY (by intro h;rw[hn,vn]at h;cases h)];exact ay hQ))
noncomputable def Itl(K:ak)(a:aq):It:=
 ⟨λi H=>∃xs x,W3 K H a xs/\xs[i]? =aA x,λi H x H'=>H'=H/\∀xs,W3 K H a xs->xs[i]? =aA x,λi H=>∃xs,W3 K H a xs/\xs.length<=i⟩
noncomputable def Itt(K:ak)(a:aq):It:=
 ⟨λi H=>∃xs x,Eu K H a xs/\xs[i]? =aA x,λi H x H'=>H'=H/\∀xs,Eu K H a xs->xs[i]? =aA x,λi H=>∃xs,Eu K H a xs/\xs.length<=i⟩
noncomputable def Itr(lo:Int)(n:Nat):It:=⟨λi _=>i<n,λi H x H'=>H'=H/\x= .int (lo+i),λi _=>n<=i⟩
theorem jY{P:eg}{w:gq}{K:ak}{tg:dz}(a it:aq):Turn P w K tg (Itl K a) [it] it (λi h=>h.IsListIter it a i)where
 mem:=Δ
 obj:=λi h st b f=>by
  have e:b=it:=by simpa using f
  subst e;obtain⟨o,e,c,d⟩:=st;exact⟨o,e,λv z=>by rw[d]at z;cases z⟩
 keep:=λi h h' st k=>st.at λo e=>k it Δ o e
 item:=by intro X r n hK L i dG s σ H E I hf st q;subst r n hK;obtain⟨xs,x,l,m⟩:=q;obtain⟨dI,rv,p,hz⟩:=I.list l;obtain⟨u,g,T⟩:=rv.get m;obtain⟨F,C,G,B,A,y⟩:=hf it Δ;refine wpAny_pyNext_list_item st p.isList (x:=u) (by simpa using g) λh' j Q=>?_;have M:dL X dG σ H {s with heap:=h'}:=I.turned (t':=s.toks) (λb o f e=>(Q.2 b f).trans e) F C B A y;obtain⟨o,e,c,d⟩:=id j;exact⟨u,rfl,WJ (s:={s with heap:=h'}) e c d Γ ⟨x,H,M,T,⟨rfl,λys Z=>by rw[I.list_inj Z l];exact m⟩,j,λb f=>(hf b f).1⟩⟩
 done:=by intro X r n hK L i dG s σ H E I hf st q;subst r n hK;obtain⟨xs,l,m⟩:=q;obtain⟨dI,rv,p,hz⟩:=I.list l;obtain⟨F,C,G,B,A,y⟩:=hf it Δ;have N:=rv.length;exact wpAny_pyNext_list_end (I.ok.hd L) st p.isList Ψ λh' J=>⟨rfl,I.turned (t':=s.toks) (λb o f e=>J b o f e) F C B A y⟩
 self:=λ_ _ _ _ _ st h=>wpAny_pyIter_listiter st h
theorem iW{P:eg}{w:gq}{K:ak}{tg:dz}(a it:aq):Turn P w K tg (Itt K a) [it] it (λi h=>h.IsTupleIter it a i)where
 mem:=Δ
 obj:=λi h st b f=>by
  have e:b=it:=by simpa using f
  subst e;obtain⟨o,e,c,d⟩:=st;exact⟨o,e,λv z=>by rw[d]at z;cases z⟩
 keep:=λi h h' st k=>st.at λo e=>k it Δ o e
 item:=by intro X r n hK L i dG s σ H E I hf st q;subst r n hK;obtain⟨xs,x,l,m⟩:=q;obtain⟨dI,rv,p,hz⟩:=I.tuple l;obtain⟨u,g,T⟩:=rv.get m;obtain⟨F,C,G,B,A,y⟩:=hf it Δ;refine wpAny_pyNext_tuple_item st (show s.heap.IsTuple a dI.toArray from p) (x:=u) (by simpa using g) λh' j Q=>?_;have M:dL X dG σ H {s with heap:=h'}:=I.turned (t':=s.toks) (λb o f e=>(Q.2 b f).trans e) F C B A y;obtain⟨o,e,c,d⟩:=id j;exact⟨u,rfl,WJ (s:={s with heap:=h'}) e c d Γ ⟨x,H,M,T,⟨rfl,λys Z=>by rw[I.tuple_inj Z l];exact m⟩,j,λb f=>(hf b f).1⟩⟩
 done:=by intro X r n hK L i dG s σ H E I hf st q;subst r n hK;obtain⟨xs,l,m⟩:=q;obtain⟨dI,rv,p,hz⟩:=I.tuple l;obtain⟨F,C,G,B,A,y⟩:=hf it Δ;have N:=rv.length;exact wpAny_pyNext_tuple_end (I.ok.hd L) st (show s.heap.IsTuple a dI.toArray from p) Ψ λh' J=>⟨rfl,I.turned (t':=s.toks) (λb o f e=>J b o f e) F C B A y⟩
 self:=λ_ _ _ _ _ st h=>wpAny_pyIter_tupleiter st h
theorem iP{P:eg}{w:gq}{K:ak}{tg:dz}(it:aq)(lo:Int)(n:Nat):Turn P w K tg (Itr lo n) [it] it (λi h=>HW h it (lo+(i:Nat)*1) ((n:Int)- (i:Nat)) 1)where
 mem:=Δ
 obj:=λi h st b a=>by
  have e:b=it:=by simpa using a
  subst e;exact⟨_,st,λv z=>by
   have A:HY _=IS v:=z;cases A⟩
 keep:=λi h h' st k=>k it Δ _ st
 item:=by intro X m f hK l i dG s σ H E I hf st j;subst m f hK;obtain⟨y,x,F,u,r,q⟩:=hf it Δ;have W:=Walks.range (prog:=X.p) (w:=X.w) (I.ok.hd l) it lo 1 n;refine W.item i s _ _ j st λv h' tk C c B=>?_;obtain⟨t,rfl⟩:=C;have Q:dL X dG σ H {s with heap:=h',toks:=tk}:=I.turned (λb o a e=>B b o ν e) y x u r q;refine⟨_,rfl,WJ (s:={s with heap:=h',toks:=tk}) (n:="range_iterator") c rfl rfl Γ ⟨.int<|lo+i,H,Q,⟨t,?_⟩,⟨rfl,rfl⟩,c,λb a=>(hf b a).1⟩⟩;rw[Int.mul_one]
 done:=by intro X m f hK l i dG s σ H E I hf st j;subst m f hK;obtain⟨y,x,F,u,r,q⟩:=hf it Δ;exact wpAny_pyNext_range_end (I.ok.hd l) st (by have:n<=i:=j;lia) λh' L=>⟨rfl,I.turned (t':=s.toks) (λb o a e=>L b o a e) y x u r q⟩
 self:=λ_ _ _ _ _ st h=>wpAny_pyIter_rangeiter st h
theorem lO{σ:St}{lo:Int}(I:dL X dG σ H s)(h1:-(2^62)<=lo)(h2:lo<2^62)(h:-(2^62)<=hi)(f:hi<2^62)(q:R (Itr lo (hi- lo).toNat) H):de (dw X.p X.w) X.A (CC<|.ref s.heap.objs.size) (PIE X dG σ tg R) E {s with heap:=s.heap.push {cls:=.type "range",data:=.fields #[.int lo t,.int hi u,.int 1 v]},toks:=tk}:=by
 refine wpAny_pyIter_range (IsRange.new ..) (small_one h1 h2 h f) ?_;have a:dL X dG σ H {s with heap:=s.heap.push {cls:=.type "range",data:=.fields #[.int lo t,.int hi u,.int 1 v]},toks:=tk}:=I.kept λb o e=>aw _ e;refine⟨(s.heap.push {cls:=.type "range",data:=.fields #[.int lo t,.int hi u,.int 1 v]}).objs.size,[(s.heap.push {cls:=.type "range",data:=.fields #[.int lo t,.int hi u,.int 1 v]}).objs.size],_,_,H,rfl,
  a.kept (t':=tk) λb o e=>aw _ e,iP _ lo (hi- lo).toNat,?_,λb c=>?_,q⟩
 .have l:lo+((0:Nat):Int)*1=lo:=Δ
  have j:(((hi- lo).toNat:Nat):Int)- ((0:Nat):Int)=Builtin.Range.rangeSize lo hi 1:=by rw[rangeSize_one];split<;> lia
  show HW _ _ (lo+((0:Nat):Int)*1) ((((hi- lo).toNat:Nat):Int)- ((0:Nat):Int)) 1;rw[l,j];exact dn _ rfl
 .have e:b=(s.heap.push {cls:=.type "range",data:=.fields #[.int lo t,.int hi u,.int 1 v]}).objs.size:=by simpa using c
  subst e;exact a.fpOk (cj _)<|a.hok.fresh<|cj _
def wG(a:TA):TI:=λσ H R=>a σ H λvs H1=>∃j:Int,vs=[.int j]/\-(2^62)<=j/\j<2^62/\R (Itr 0 j.toNat) H1
theorem jX(o:Gl X "range")(n:X.mg "range"=aB)(u:PA X [a] ta)(hs:‹jv [a] X.e=[(aE,oz a X.e)]›):PI X tg (.Call (.Name "range" p) [a] [] pos)<|wG ta:=by
 intro dG s σ H R I h;refine Call_<|Rf I o n boot_range<|kt (Wy (u pos dG s σ H _ I h) λus w ⟨vs,H1,v,l,c⟩=>?_) hs rfl;obtain⟨j,e,c,m,q⟩:=c;subst e;cases l with
 |cons r f=>cases f;obtain⟨t,rfl⟩:=r;exact call_range_1 (lO v Θ Γ c m<|by simpa using q)
def RZ(h:TI)(g:TG)(tb:TS):TS:=λD σ H=>h σ H λJ H1=>∃W:Nat->Nat->St->Hp->Prop,(∃m,W 0 m σ H1)/\∀i m σ H,W i m σ H->
 (J.stop i H/\D.nx σ H)\/(J.go i H/\∃N:St->Hp->Prop,(∀a H',N a H'->∃f,f<m/\W (i+1) f a H')/\∀x H',J.yld i H x H'->g x σ H' λc H2=>tb {D with nx:=N,ct:=N,bk:=D.nx} c H2)
noncomputable def Kp(fp:À aq)(h:ie):À (aq×Obj):=fp.filterMap λb=>(h.get? b).map λo=>(b,o)
theorem C0(a:b∈fp)(e:h.get? b=aA o):(b,o)∈Kp fp h:=m9.mpr ⟨b,a,by rw[e];rfl⟩
theorem jW(a:p∈Kp fp h):p.1∈fp/\h.get? p.1=aA p.2:=by
 obtain⟨b,c,e⟩:=m9.mp a;cases q:h.get? b with
 |none=>rw[q]at e;cases e
 |some o=>rw[q]at e;have f:(b,o)=p:=h8.inj e;subst f;exact⟨c,q⟩
theorem dL.pinned{σ:St}(I:dL X dG σ H s)(hf:∀b∈fp,Qy X dG H b)(h:∀b∈fp,∃o,s.heap.get? b=aA o/\∀v,o.data≠.cell v):dL X (dG++Kp fp s.heap) σ H s:=
 I.pins_of λp f=>(dm.mp f).elim (λz=>I.pin p<|di _ z) λz=>by obtain⟨a,e⟩:=jW z;obtain⟨m,l,j,_⟩:=hf p.1 a;obtain⟨o,c,d⟩:=h p.1 a;rw[e]at c;cases c;exact⟨e,m,l,j,d⟩
theorem dL.unpinned{σ:St}(I:dL X (dG++pl) σ H s):dL X dG σ H s:=I.pins_of λp a=>I.pin p<|di _<|dr _ a
theorem sX {iter:dz}{body:À lu}{wi:TI}{g:TG}{tb:TS}{pos:Pos}(hp:zi (dw X.p X.w) X.A X.e X.xe)(hc:X.calm=aC)(hi:PI X tg iter wi)(hg:PG X tg g)(G:Ma X body tb)(hs:∀ x,md iter X.e x=jh x:=by intro _; rfl):PS X (.For tg iter body [] pos)<|RZ wi g tb:=by
  intro dG s σ H D I h;refine wpAny_For (Wy (hi dG s σ H _ I h) λv s1 h1=>Wy h1 λfO s2 h2=>?_) hs;obtain ⟨it,fp,Y,J,H2,e,I2,T,Z,f2,W,⟨m0,w0⟩,turn⟩:=h2;subst e
  have q:∀ {H':Hp},(∀ b ∈ fp,H' b=aB)->∀ b ∈ fp,Qy X dG H' b:=λhn b G=>⟨hn b G,(f2 b G).2⟩
  refine codeAny_forLoop_any (λn s'=>∃ i l H',dL X dG l H' s'/\Y i s'.heap/\(∀ b ∈ fp,H' b=aB)/\W i n l H') ?_ m0 ⟨0,σ,H2,I2,Z,λb G=>(f2 b G).1,w0⟩;rintro n s3 ⟨i,j,P,I3,F,L,w3⟩;rcases turn i n j P w3 with ⟨E,qn⟩ | ⟨go,N,hN,step⟩
  · refine nc hp (Wy (T.done X rfl rfl rfl hc i dG s3 j P X.xe I3 (q L) F E) λr s4 c=>?_)
    obtain ⟨O,I4⟩:=c;subst O;exact u2 ⟨j,P,I4,qn⟩
  · refine nc hp (Wy (T.item X rfl rfl rfl hc i dG s3 j P X.xe I3 (q L) F go) λr s4 c=>?_)
    obtain ⟨u,O,h4⟩:=c;subst O;refine nc hp<|Wy h4 λ_ s5 c=>?_;obtain ⟨x,H5,I5,r5,y5,C,R⟩:=c;have U:=I5.pinned (q R)<|T.obj _ _ C;refine nc hp<|Wy (hg _ s5 j H5 x u _ U r5<|step x H5 y5) λ_ s6 c=>?_;obtain ⟨Q,H6,I6,q6⟩:=c;refine nc hp<|Wy (G _ s6 Q H6 _ I6 q6) λf M B=>?_;have again:∀ {a:St} {z:Hp},dL X (dG ++ Kp fp s5.heap) a z M->N a z->∃ m,m < n/\∃ i l H',dL X dG l H' M/\Y i M.heap/\(∀ b ∈ fp,H' b=aB)/\W i m l H':=λ{a z} y K=>by obtain ⟨m',hm,w7⟩:=hN a z K;refine ⟨m',hm,i + 1,a,z,y.unpinned,T.keep _ _ _ C λb G o e=>(y.pin (b,o)<|di _<|di _<|C0 G e).1,λb G=>?_,w7⟩;obtain ⟨o,e,d⟩:=T.obj _ _ C b G;exact (y.pin (b,o)<|di _<|di _<|C0 G e).2.1
    cases f with
    | next=>obtain ⟨a,z,y,K⟩:=B; exact again y K
    | cont=>obtain ⟨a,z,y,K⟩:=B; exact again y K
    | brk=>obtain ⟨a,z,y,B⟩:=B; exact ⟨a,z,y.unpinned,B⟩
    | ret v=>obtain ⟨x7,a,z,y,r7,B⟩:=B; exact ⟨x7,a,z,y.unpinned,r7,B⟩
abbrev R2:=V->V->Hp->VK->Prop
def G5(X:Cx)(f:am->am->Sem am)(r:R2):Prop:=
 ∀(dG:À (aq×Obj)) (s:au) (σ:St) (H:Hp) (x y:V) (v u:am) (Q:VK),dL X dG σ H s->Z9 x v->Z9 y u->r x y H Q->
  de (dw X.p X.w) X.A (f v u) (EP X dG σ Q) X.xe s
def UnR(X:Cx)(f:am->Sem am)(r:V->Hp->VK->Prop):Prop:=
 ∀(dG:À (aq×Obj)) (s:au) (σ:St) (H:Hp) (x:V) (v:am) (Q:VK),dL X dG σ H s->Z9 x v->r x H Q->
  de (dw X.p X.w) X.A (f v) (EP X dG σ Q) X.xe s
def Ou(X:Cx)(f:am)(r:À V->Hp->VK->Prop):Prop:=
 ∀(dG:À (aq×Obj)) (s:au) (σ:St) (H:Hp) (xs:À V) (us:À am) (Q:VK),dL X dG σ H s->Yg xs us->r xs H Q->
  de (dw X.p X.w) X.A (call f us) (EP X dG σ Q) X.xe s
def tOp(r:R2)(a tb:TE):TE:=λσ H Q=>a σ H λx H1=>tb σ H1 λy H2=>r x y H2 Q
def tUn(r:V->Hp->VK->Prop)(a:TE):TE:=λσ H Q=>a σ H λx H1=>r x H1 Q
def rI(C:Int->Int->Prop)(g:Int->Int->V):R2:=λx y H Q=>∃i j,x= .int i/\y= .int j/\C i j/\Q (g i j) H
def rI0(g:Int->Int->V):R2:=λx y H Q=>∃i j,x= .int i/\y= .int j/\Q (g i j) H
def rU(g:Int->V):V->Hp->VK->Prop:=λx H Q=>∃i,x= .int i/\Q (g i) H
theorem VP(r:PE X a ta)(q:PE X b tb){σ:St}{R:V->V->Hp->Prop}(I:dL X dG σ H s)(h:ta σ H λx H1=>tb σ H1 λy H2=>R x y H2){f:am->am->Sem am}(hf:∀v u G x y H2,dL X dG σ H2 G->Z9 x v->Z9 y u->R x y H2->de (dw X.p X.w) X.A (f v u) Q X.xe G):
  de (dw X.p X.w) X.A (oz a X.e) (λv i=>de (dw X.p X.w) X.A (oz b X.e) (λu g=>de (dw X.p X.w) X.A (f v u) Q X.xe g) X.xe i) X.xe s:=by
 refine Wy (r dG s σ H _ I h) λv j c=>?_;obtain⟨x,H1,B,m,o⟩:=c;refine Wy (q dG j σ H1 _ B o) λu G c=>?_;obtain⟨y,H2,z,l,n⟩:=c;exact hf v u G x y H2 z m l n
theorem wF(l:G5 X (sj op) r)(n:PE X a ta)(m:PE X b tb):PE X (.BinOp a op b pos)<|tOp r ta tb:=by intro dG s σ H Q I h;exact wpAny_BinOp<|VP n m I h λv u c x y H2 o j f q=>l dG c σ H2 x y v u Q o j f q
theorem PZ(l:UnR X (unaryOp op) r)(m:PE X a ta):PE X (.UnaryOp op a pos)<|tUn r ta:=by intro dG s σ H Q I h;exact UnaryOp_<|Wy (m dG s σ H _ I h) λv c ⟨x,H1,n,f,j⟩=>l dG c σ H1 x v Q n f j
theorem opI{g:Int->Int->Int}(rule:∀i j t u s Q E,C i j->Q (.int (g i j) s.toks) {s with toks:=s.toks+1}->de (dw X.p X.w) X.A (f (.int i t)<|.int j u) Q E s):
  G5 X f (rI C λi j=>.int<|g i j):=by
 intro dG s σ H x y v u Q I c a h;obtain⟨i,j,rfl,rfl,l,q⟩:=h;obtain⟨t,rfl⟩:=c;obtain⟨t',rfl⟩:=a;exact rule i j t t' s _ _ l ⟨.int<|g i j,H,I.tok _,⟨_,rfl⟩,q⟩
theorem RY{g:Int->Int->Int}(rule:∀i j t u s Q E,Q (.int (g i j) s.toks) {s with toks:=s.toks+1}->de (dw X.p X.w) X.A (f (.int i t)<|.int j u) Q E s):
  G5 X f (rI0 λi j=>.int<|g i j):=by
 intro dG s σ H x y v u Q I c a h;obtain⟨i,j,rfl,rfl,q⟩:=h;obtain⟨t,rfl⟩:=c;obtain⟨t',rfl⟩:=a;exact rule i j t t' s _ _ ⟨.int<|g i j,H,I.tok _,⟨_,rfl⟩,q⟩
theorem XY{g:Int->Int->Bool}(rule:∀i j t u s Q E,Q (.bool<|g i j) s->de (dw X.p X.w) X.A (f (.int i t)<|.int j u) Q E s):
  G5 X f (rI0 λi j=>.bl<|g i j):=by
 intro dG s σ H x y v u Q I c a h;obtain⟨i,j,rfl,rfl,q⟩:=h;obtain⟨t,rfl⟩:=c;obtain⟨t',rfl⟩:=a;exact rule i j t t' s _ _ ⟨.bl<|g i j,H,I,rfl,q⟩
def RU(i j:Int):Prop:=0<j/\j<1073741824
def Y'(i j:Int):Prop:=(-(2^64)<i/\i<2^64)\/(-(2^64)<j/\j<2^64)
theorem Y'.ok(h:Y' i j):IntMulOk i j:=by
 rcases h with⟨h1,h2⟩|⟨h1,h2⟩
 .exact .of_left (FZ h1 h2)
 .exact .of_right (FZ h1 h2)
theorem sW:G5 X (sj .Add)<|rI0 λi j=>.int<|i+j:=RY λ_ _ _ _ _ _ _ q=>add_int q
theorem sV:G5 X (sj .Sub)<|rI0 λi j=>.int<|i- j:=RY λ_ _ _ _ _ _ _ q=>sub_int q
theorem sU:G5 X (sj .Mult)<|rI Y' λi j=>.int<|i*j:=opI λ_ _ _ _ _ _ _ a q=>mul_int q a.ok
theorem oY:G5 X (sj .FloorDiv)<|rI RU λi j=>.int<|i / j:=opI λi j _ _ _ _ _ a q=>by have h1:(0:Int)<j:=a.1;have h2:j<1073741824:=a.2;exact floordiv_int Θ (by rw[Int.fdiv_eq_ediv_of_nonneg i Θ];exact q)<|.inl<|PyProof.noPylong_small π
theorem sT:G5 X (sj .Mod)<|rI (λ_ j=>0<j) λi j=>.int<|i % j:=opI λi j _ _ _ _ _ a q=>by have h1:(0:Int)<j:=a;exact mod_int' Θ (by rw[Int.fmod_eq_emod_of_nonneg i Θ];exact q)
theorem unI{g:Int->Int}(rule:∀i t s Q E,Q (.int (g i) s.toks) {s with toks:=s.toks+1}->de (dw X.p X.w) X.A (f<|.int i t) Q E s):
  UnR X f (rU λi=>.int<|g i):=by
 intro dG s σ H x v Q I a h;obtain⟨i,rfl,q⟩:=h;obtain⟨t,rfl⟩:=a;exact rule i t s _ _ ⟨.int<|g i,H,I.tok _,⟨_,rfl⟩,q⟩
theorem No:UnR X (unaryOp .USub)<|rU λi=>.int<|-i:=unI λ_ _ _ _ _ q=>neg_int q
noncomputable def scal:V->V->Bool
 | .non,.non=>aC| .non,.int _=>aC| .int _,.non=>aC| .non,.bl _=>aC| .bl _,.non=>aC| .non,.str _=>aC| .str _,.non=>aC
 | .int _,.int _=>aC| .bl _,.bl _=>aC| .str _,.str _=>aC| .byt _,.byt _=>aC
 | .int _,.str _=>aC| .str _,.int _=>aC| .bl _,.str _=>aC| .str _,.bl _=>aC
 |_,_=>aE
def rEq:R2:=λx y H Q=>scal x y=aC/\Q (.bl<|decide (x=y)) H
def rNe:R2:=λx y H Q=>scal x y=aC/\Q (.bl<|!decide (x=y)) H
theorem Y0{σ:St}(I:dL X dG σ H s)(q:Q (.bl k) H)(e:k=k'):EP X dG σ Q (.bool k') s:=by subst e;exact⟨.bl k,H,I,rfl,q⟩
theorem PY:G5 X (i3 .Eq) rEq:=by
 intro dG s σ H x y v u Q I c a h;obtain⟨hs,q⟩:=h;cases x with
 |non=>
  cases c;cases y with
  |non=>cases a;exact PySem.EqNone.eq_none_none<|Y0 I q Δ
  |bl j=>cases a;exact PySem.EqNone.eq_none_bool<|Y0 I q Δ
  |int j=>obtain⟨t',rfl⟩:=a;exact PySem.EqNone.eq_none_int<|Y0 I q Δ
  |str j=>obtain⟨t',rfl⟩:=a;exact PySem.EqNone.eq_none_str<|Y0 I q Δ
  |_=>exact dt (show aE=aC from hs) df
 |bl i=>
  cases c;cases y with
  |non=>cases a;exact PySem.EqNone.eq_bool_none<|Y0 I q Δ
  |bl j=>cases a;exact eq_bool (Y0 I q (by
   rw[l8];simp))
  |str j=>obtain⟨t',rfl⟩:=a;exact PySem.EqMixed.eq_bool_str<|Y0 I q Δ
  |_=>exact dt (show aE=aC from hs) df
 |int i=>
  obtain⟨t,rfl⟩:=c;cases y with
  |non=>cases a;exact PySem.EqNone.eq_int_none<|Y0 I q Δ
  |int j=>obtain⟨t',rfl⟩:=a;exact eq_int (Y0 I q (by
   rw[l8];simp))
  |str j=>obtain⟨t',rfl⟩:=a;exact PySem.EqMixed.eq_int_str<|Y0 I q Δ
  |_=>exact dt (show aE=aC from hs) df
 |str i=>
  obtain⟨t,rfl⟩:=c;cases y with
  |non=>cases a;exact PySem.EqNone.eq_str_none<|Y0 I q Δ
  |bl j=>cases a;exact PySem.EqMixed.eq_str_bool<|Y0 I q Δ
  |int j=>obtain⟨t',rfl⟩:=a;exact PySem.EqMixed.eq_str_int<|Y0 I q Δ
  |str j=>obtain⟨t',rfl⟩:=a;exact eq_str (Y0 I q (by
   rw[l8];simp))
  |_=>exact dt (show aE=aC from hs) df
 |byt i=>
  obtain⟨t,rfl⟩:=c;cases y with
  |byt j=>obtain⟨t',rfl⟩:=a;exact PySem.W.eq_bytes (Y0 I q (by
   rw[l8];cases i;cases j;simp))
  |_=>exact dt (show aE=aC from hs) df
 |_=>cases y<;> exact dt (show aE=aC from hs) df
theorem wE:G5 X (i3 .NotEq) rNe:=by
 intro dG s σ H x y v u Q I c a h;obtain⟨hs,q⟩:=h;cases x with
 |non=>
  cases c;cases y with
  |non=>cases a;exact PySem.EqNone.ne_none_none<|Y0 I q Δ
  |bl j=>cases a;exact PySem.EqNone.ne_none_bool<|Y0 I q Δ
  |int j=>obtain⟨t',rfl⟩:=a;exact PySem.EqNone.ne_none_int<|Y0 I q Δ
  |str j=>obtain⟨t',rfl⟩:=a;exact PySem.EqNone.ne_none_str<|Y0 I q Δ
  |_=>exact dt (show aE=aC from hs) df
 |bl i=>
  cases c;cases y with
  |non=>cases a;exact PySem.EqNone.ne_bool_none<|Y0 I q Δ
  |bl j=>cases a;exact ne_bool (Y0 I q (congrArg not (by
   rw[l8];simp)))
  |str j=>obtain⟨t',rfl⟩:=a;exact PySem.EqMixed.ne_bool_str<|Y0 I q Δ
  |_=>exact dt (show aE=aC from hs) df
 |int i=>
  obtain⟨t,rfl⟩:=c;cases y with
  |non=>cases a;exact PySem.EqNone.ne_int_none<|Y0 I q Δ
  |int j=>obtain⟨t',rfl⟩:=a;exact ne_int (Y0 I q (congrArg not (by
   rw[l8];simp)))
  |str j=>obtain⟨t',rfl⟩:=a;exact PySem.EqMixed.ne_int_str<|Y0 I q Δ
  |_=>exact dt (show aE=aC from hs) df
 |str i=>
  obtain⟨t,rfl⟩:=c;cases y with
  |non=>cases a;exact PySem.EqNone.ne_str_none<|Y0 I q Δ
  |bl j=>cases a;exact PySem.EqMixed.ne_str_bool<|Y0 I q Δ
  |int j=>obtain⟨t',rfl⟩:=a;exact PySem.EqMixed.ne_str_int<|Y0 I q Δ
  |str j=>obtain⟨t',rfl⟩:=a;exact ne_str (Y0 I q (congrArg not (by
   rw[l8];simp)))
  |_=>exact dt (show aE=aC from hs) df
 |byt i=>
  obtain⟨t,rfl⟩:=c;cases y with
  |byt j=>obtain⟨t',rfl⟩:=a;exact PySem.W.ne_bytes (Y0 I q (congrArg not (by
   rw[l8];cases i;cases j;simp)))
  |_=>exact dt (show aE=aC from hs) df
 |_=>cases y<;> exact dt (show aE=aC from hs) df
theorem wD:G5 X (i3 .Lt)<|rI0 λi j=>.bl<|decide (i<j):=XY λ_ _ _ _ _ _ _ q=>lt_int q
theorem UJ:G5 X (i3 .LtE)<|rI0 λi j=>.bl<|decide (i<=j):=XY λ_ _ _ _ _ _ _ q=>le_int q
theorem wC:G5 X (i3 .Gt)<|rI0 λi j=>.bl<|decide (j<i):=XY λ_ _ _ _ _ _ _ q=>gt_int q
theorem wB:G5 X (i3 .GtE)<|rI0 λi j=>.bl<|decide (j<=i):=XY λ_ _ _ _ _ _ _ q=>ge_int q
theorem Po:G5 X (i3 .In) (λx y H Q=>∃i j,x= .str i/\y= .str j/\Q (.bl<|!(fq j i 0 j.length 1).isEmpty) H):=by intro dG s σ H x y v u Q I c a h;obtain⟨i,j,rfl,rfl,q⟩:=h;obtain⟨t,rfl⟩:=c;obtain⟨t',rfl⟩:=a;exact in_str<|Y0 I q rfl
theorem sS:G5 X (i3 .Is)<|λx y H Q=>y= .non/\Q (.bl<|decide (x= .non)) H:=by
 intro dG s σ H x y v u Q I a c h;obtain⟨rfl,q⟩:=h;cases c;refine is_none_gen<|Y0 I q ?_;cases x<;> first
  | (cases a;rfl)
  | (obtain⟨t,rfl⟩:=a;rfl)
theorem oX:G5 X (i3 .IsNot)<|λx y H Q=>y= .non/\Q (.bl<|!decide (x= .non)) H:=by
 intro dG s σ H x y v u Q I a c h;obtain⟨rfl,q⟩:=h;cases c;refine isnot_none_gen<|Y0 I q ?_;cases x<;> first
  | (cases a;rfl)
  | (obtain⟨t,rfl⟩:=a;rfl)
theorem G5.or(h:G5 X f r)(h':G5 X f r'):G5 X f<|λx y H Q=>r x y H Q\/r' x y H Q:=by
 intro dG s σ H x y v u Q I c a q;rcases q with q|q
 .exact h dG s σ H x y v u Q I c a q
 .exact h' dG s σ H x y v u Q I c a q
theorem C1(b)(h:‹op≠.In›)(h2:‹op≠.NotIn›):nh op b=aE:=by
 have c:(op==CmpOp.In)=aE:=by cases op<;> first|rfl|exact dt rfl h
 have a:(op==CmpOp.NotIn)=aE:=by cases op<;> first|rfl|exact dt rfl h2
 cases b<;> simp[nh,c,a]
theorem KM(l:G5 X (i3 op) r)(o:PE X a ta)(n:PE X b tb)(m:nh op b=aE):PE X (.Compare a [op] [b] pos)<|tOp r ta tb:=by intro dG s σ H Q I h;exact wpAny_Compare1 (VP o n I h λv u c x y H2 p j f q=>l dG c σ H2 x y v u Q p j f q) m
def PX(t:TE):TT:=λσ H Q=>t σ H λx H'=>∃k,x= .bl k/\Q k H'
theorem oW(w:G5 X (i3 op) r)(C:PE X a ta)(B:PE X b tb)(A:nh op b=aE):PT X (.Compare a [op] [b] pos)<|PX<|tOp r ta tb:=by
 intro dG s σ H Q I h;refine wpAny_isTrue_Compare1 (Wy (C dG s σ H _ I h) λv j ⟨x,H1,K,n,q⟩=>Wy (B dG j σ H1 _ K q) λu f ⟨y,H2,F,m,p⟩=>
  Wy (w dG f σ H2 x y v u _ F n m p) λc P ⟨z,L,E,l,k,e,o⟩=>?_) A
 subst e;cases l;exact nv ⟨L,E,o⟩
def sR(r j:R2)(h tb f:TE):TE:=λσ H Q=>h σ H λx H1=>tb σ H1 λy H2=>r x y H2 λz a=>∃k,z= .bl k/\
 (if k=aC then f σ a λc l=>j y c l Q else Q (.bl aE) a)
theorem lN(T:G5 X (i3 op) r)(f:G5 X (i3 op') r')(G:PE X a ta)(i:PE X b tb)(g:PE X c tc)(Z:IM [op,op'] [b,c]=aE:=by with_unfolding_all rfl):PE X (.Compare a [op,op'] [b,c] pos)<|sR r r' ta tb tc:=by
 intro dG s σ H Q I h;refine Compare_chain (Wy (G dG s σ H _ I h) λv B ⟨x,H1,N,F,P⟩=>chain_link (Wy (i dG B σ H1 _ N P) λu A ⟨y,H2,M,j,L⟩=>
  Wy (T dG A σ H2 x y v u _ M F j L) λd w ⟨z,n,m,E,k,e,l⟩=>?_)) Z
 subst e;cases E;refine nv ?_;cases k with
 |false=>exact ite_ff ⟨.bl aE,n,m,rfl,l⟩
 |true=>exact ite_tt<|chain_last<|Wy (g dG w σ n _ m l) λp q ⟨o,O,J,C,K⟩=>f dG q σ O y o u p Q J j C K
theorem Kq:(sizeLine:Nat)<2^63:=by rw[jx];decide
theorem iO:G5 X (sj .Add) (λx y H Q=>∃i j,x= .str i/\y= .str j/\i.length+j.length<=sizeLine/\Q (.str<|i++j) H):=by intro dG s σ H x y v u Q I c a h;obtain⟨i,j,rfl,rfl,hz,q⟩:=h;obtain⟨t,rfl⟩:=c;obtain⟨t',rfl⟩:=a;exact add_str (λt' tk=>⟨.str<|i++j,H,I.tok _,⟨_,rfl⟩,q⟩) hz
theorem Jw(r:Yg [x] us):∃u,us=[u]/\Z9 x u:=by
 cases r with
 |cons c a=>cases a;exact⟨_,rfl,c⟩
theorem UI(r:Yg [x,y] us):E2 λu g=>A3 (us=[u,g]) (Z9 x u)<|Z9 y g:=by
 cases r with
 |cons h f=>
  cases f with
  |cons c a=>cases a;exact⟨_,_,rfl,h,c⟩
theorem jL:Ou X (.type "int") (λxs H Q=>(∃i,xs=[.int i]/\Q (.int i) H)\/∃k,xs=[.bl k]/\Q (.int (if k then 1 else 0)) H):=by
 intro dG s σ H xs us Q I r h;rcases h with⟨i,rfl,q⟩|⟨k,rfl,q⟩
 .obtain⟨u,rfl,t,rfl⟩:=Jw r;exact call_int_int ⟨.int i,H,I,⟨_,rfl⟩,q⟩
 .obtain⟨u,rfl,a⟩:=Jw r;cases a;exact call_int_bool ⟨.int (if k then 1 else 0),H,I.tok _,⟨_,rfl⟩,q⟩
theorem Kn.some_of(r:Kn (aA v) o):∃u,o=aA u/\Z9 v u:=by
 cases o with
 |none=>exact(show False from r).elim
 |some u=>exact⟨u,rfl,r⟩
structure dU(k:Nat)(A:fj):Prop where
 hd:A.handled=aB
 dp:A.depth+3*k+5<recursionLimit
 un:A.units+16*k+200<jf
theorem dU.mono(r:dU k A)(h:j<=k):dU j A:=⟨r.hd,by have:=r.dp;lia,by have:=r.un;lia⟩
theorem dU.deeper(r:dU (k+1) A)(env):dU k<|A.deeper env:=
 ⟨r.hd,by have:=r.dp;show A.depth+1+3*k+5<_;lia,by have:=r.un;show A.units+3+16*k+200<_;lia⟩
theorem dU.in1(r:dU (k+1) A):dU k A.in1:=
 ⟨r.hd,by have:=r.dp;show A.depth+3*k+5<_;lia,by have:=r.un;show A.units+1+16*k+200<_;lia⟩
theorem dU.depth(r:dU k A):A.depth<recursionLimit:=by have:=r.dp;lia
theorem dU.units(r:dU k A):A.units+64<cLine:=by have:=r.un;lia
def T7:TA:=λ_ H Q=>Q [] H
def G1(c:TE)(a:TA):TA:=λσ H Q=>c σ H λx H1=>a σ H1 λxs H2=>Q (x::xs) H2
theorem Wu:PA X [] T7:=λ_ _ _ _ H Q I h=>ub ⟨[],H,I,.nil,h⟩
theorem Y8(o:PE X e te)(n:PA X es t)(hs:‹Se X e es›):PA X (e::es)<|G1 te t:=by intro pos dG s σ H Q I h;rw[hs];show de _ _ (GN ((aE,oz e X.e)::qt pos (jv es X.e))) _ _ s;refine p6<|Wy (o dG s σ H _ I h) λu c a=>?_;obtain⟨x,H1,q,j,m⟩:=a;exact Wy (n pos dG c σ H1 _ q m) λus r ⟨xs,H2,p,f,l⟩=>⟨x::xs,H2,p,.cons j f,l⟩
def gN(t:TA):TE:=λσ H Q=>t σ H λxs H1=>xs.length<=sizeLine/\∀p,H1 p=aB->Q (.ref p) (upd H1 p<|.tup xs)
def VO(t:TA):TE:=λσ H Q=>t σ H λxs H1=>xs.length<=sizeLine/\∀p,H1 p=aB->Q (.ref p) (upd H1 p<|.lst xs)
theorem sQ (h:PA X es t):PE X (.Tuple es x1 pos)<|gN t:=by intro dG s σ H Q I f;refine wpAny_Tuple_spliced<|Wy (h pos dG s σ H _ I f) λus a ⟨xs,H1,c,r,z,q⟩=>⟨by rw[<-r.length];exact z,?_⟩;have hf:H1 a.heap.objs.size=aB:=c.hok.fresh<|cj _;refine⟨.ref a.heap.objs.size,upd H1 a.heap.objs.size<|.tup xs,c.laid (t':=a.toks) (λb u e=>aw _ e) (cj _) ?_,rfl,q _ hf⟩;exact⟨z,us,r,⟨_,dn _ rfl,rfl,_,rfl⟩⟩
theorem Kr(h:PA X es t):PE X (.List es pos)<|VO t:=by intro dG s σ H Q I f;refine wpAny_List_spliced<|Wy (h pos dG s σ H _ I f) λus a ⟨xs,H1,c,r,z,q⟩=>⟨by rw[<-r.length];exact z,?_⟩;have hf:H1 a.heap.objs.size=aB:=c.hok.fresh<|cj _;refine⟨.ref a.heap.objs.size,upd H1 a.heap.objs.size<|.lst xs,c.laid (t':=a.toks) (λb u e=>aw _ e) (cj _) ?_,rfl,q _ hf⟩;exact⟨z,us,0,r,dn _ rfl⟩
abbrev Sp:=À V->Hp->VK->XK->Prop
abbrev CXT:=À Env->Hp->au->XK->am->au->Prop
structure Env0(P:eg)(w:gq)(K:ak)(mg:Str->Á am)(base:ie)(A:fj)(outer:À Env)(s:au)(H:Hp):Prop where
 frames:A.frames=aA outer
 mod:Mod K mg base
 bs:∀b o,base.get? b=aA o->s.heap.get? b=aA o/\H b=aB
 bsz:base.objs.size<=s.heap.objs.size
 funs:s.heap.FunFrames base outer
 frf:∀b∈Re outer,H b=aB
 hok:Rc P w H s.heap
 bare:uc s.gens
inductive CE(outer:List Env)(P w H) (s:au) (Q:VK) (u:am) (s':au):Prop where
 |mk (v H') (o:s'.os=s.os) (g:uc s'.gens) (n:Un (Re outer) [] H H' s.heap s'.heap) (k:Rc P w H' s'.heap) (r:Z9 v u) (q:Q v H')
def CR(CX:CXT)(outer:List Env)(P:eg)(w:gq)(H:Hp)(s:au)(Q:VK)(E:XK)(r:CQ)(s':au):Prop:=
 match r with
 | .ok (.ret u)=>CE outer P w H s Q u s'
 | .ok _=>False
 | .error e=>CX outer H s E e s'
structure FnOk(P:eg)(w:gq)(K:ak)(mg:Str->Á am)(base:ie)(CX:CXT)(k:Nat)(f:aq)(fd:jg)(ps:À Str)(sp:Sp):Prop where
 len:∀vs H Q E,sp vs H Q E->vs.length=ps.length
 run:∀(A:fj) (outer:À Env) (s:au) (H:Hp) (args:Args) (us:À am) (vs:À V) (Q:VK) (E:XK),dU k A->Env0 P w K mg base A outer s H->xq s fd args (ps.zip us)->Yg vs us->sp vs H Q E->
  rj (dw P w) A (.call (.ref f) args) (CR CX outer P w H s Q E) s
theorem FnOk.mono{K}(F:FnOk P w K mg base CX j f fd ps sp)(h:j<=k):
  FnOk P w K mg base CX k f fd ps sp:=⟨F.len,λA outer s H a us vs Q E c=>F.run A outer s H a us vs Q E<|c.mono h⟩
theorem FnOk.imp{K}(F:FnOk P w K mg base CX k f fd ps sp)(h:∀vs H Q E,sp' vs H Q E->sp vs H Q E):FnOk P w K mg base CX k f fd ps sp':=
 ⟨λvs H Q E q=>F.len vs H Q E<|h _ _ _ _ q,λA outer s H a us vs Q E j l m c hs=>F.run A outer s H a us vs Q E j l m c<|h _ _ _ _ hs⟩
section
variable{X:Cx}{dG:À (aq×Obj)}{σ:St}{H:Hp}{s s':au}
theorem dL.env0(I:dL X dG σ H s):Env0 X.p X.w X.K X.mg X.base X.A X.stack s H:=
 ⟨I.ok.frames,I.ok.mod,I.bs,fg I.ok.bsz I.sz,I.stack,I.stkFree,I.hok,I.bare⟩
theorem dL.after(I:dL X dG σ H s)(h:CE X.stack X.p X.w H s Q u s'):EP X dG σ Q u s':=by obtain⟨v,H',os,a,un,f,r,q⟩:=h;obtain⟨j,g,d,t,c⟩:=s';obtain rfl:c=s.os:=os;exact⟨v,H',I.call (h':=j) (g':=g) (d':=d) (t':=t) (ch:=[]) un f a<|λb z=>dt z Δ,r,q⟩
end
def Dm(sp:Sp)(ZN:À V)(E:XK)(t:TA):TE:=λσ H Q=>t σ H λvs H1=>sp (vs++ZN) H1 Q E
def T8(K:ak)(fd:jg)(ps:À Str)(ds:À am):Prop:=
 ∀(s:au) (us:À am),K.In s.heap->(us++ds).length=ps.length->xq s fd ⟨us,[]⟩ (ps.zip<|us++ds)
theorem T8.all{K}(h:∀us,us.length=ps.length->vd fd ⟨us,[]⟩=jh (ps.zip us)):T8 K fd ps []:=λs us _ a=>by rw[iq]at a⊢;exact .of_eq<|h us a
def V4(CX:CXT)(X:Cx)(E:XK):Prop:=∀(dG:À (aq×Obj)) (σ:St) (H:Hp) (s:au) (e:am) (s':au),dL X dG σ H s->CX X.stack H s E e s'->X.xe e s'
section
variable{X:Cx}{CX:CXT}{k:Nat}{f C:aq}{fd:jg}{ps:À Str}{sp:Sp}{ZN:À V}{ds:À am}{E:XK}{x m:Str}{p pos ZA:Pos}{e o:dz}{es:À dz}{t:TA}
theorem rP{σ:St}(F:FnOk X.p X.w X.K X.mg X.base CX k f fd ps sp)(l:dU k X.A)(n:T8 X.K fd ps ds)(hd:Yg ZN ds)(j:V4 CX X E)(I:dL X dG σ H s)(r:Yg vs us)(h:sp (vs++ZN) H Q E):de (dw X.p X.w) X.A (call (.ref f) us) (EP X dG σ Q) X.xe s:=by
 have c:Yg (vs++ZN)<|us++ds:=r.append hd;have m:(us++ds).length=ps.length:=by rw[<-c.length];exact F.len _ _ _ _ h
 refine BX<|wj (F.run X.A X.stack s H ⟨us,[]⟩ (us++ds) (vs++ZN) Q E l I.env0 (n s us I.kIn m) c h) λr s' a=>?_;cases r with
 |error e=>exact j dG σ H s e s' I a
 |ok fl=>
  cases fl with
  |ret u=>exact I.after a
  |next=>exact ln a
  |brk=>exact ln a
  |cont=>exact ln a
theorem T9(F:FnOk X.p X.w X.K X.mg X.base CX k f fd ps sp)(m:dU k X.A)(u:Gl X x)(n:X.mg x=aA (.ref f))(o:lg X.K (.ref f)=aC)(y:T8 X.K fd ps ds)(hd:Yg ZN ds)(l:V4 CX X E)(z:PA X (e::es) t)(c:‹Nd x›)(v:‹Se X e es›)(a:‹Bk X pos es›):
  PE X (.Call (.Name x p) (e::es) [] pos) (Dm sp ZN E t):=by
 intro dG s σ H Q I h;refine my<|T6 I u n ?_ c;refine CU (h₀:=X.base) I.ok.mod.kin o (Wy (z pos dG s σ H _ I h) λus B ⟨vs,H1,j,r,q⟩=>⟨j.kIn,?_⟩) v a;exact rP F m y hd l j r q
end
structure FnScope(N P:À Str)(sc:n9):Prop where
 kind:sc.kind= .function
 co:sc.isCoroutine=aE
 gen:sc.isGenerator=aE
 nd:N.Nodup
 pre:N.take P.length=P
 par:∀x∈P,sc.names.lookup x=aA .local\/sc.names.lookup x=aA .cell
 nofree:∀y∈sc.names,y.2≠.free
theorem Pp{kindOf}:∀{binds:À (Str×am)} {m:Str->Á am},(∀v,(x,v)∉binds)->yt kindOf binds m x=m x
  | [],_,_=>rfl
  | (n,v)::r,m,h=>by
    unfold yt;rw[Pp λw a=>h w<|ag _ a];split
    · have:x≠n:=by rintro rfl;exact h v ac
      simp[this]
    · rfl
theorem Pq{kindOf}:∀{binds:À (Str×am)} {m:Str->Á am},(∀v,(x,v)∉binds)->yu kindOf binds m x=m x
  | [],_,_=>rfl
  | (n,v)::r,m,h=>by
    unfold yu;rw[Pq λw a=>h w<|ag _ a];split
    · rfl
    · have:x≠n:=by rintro rfl;exact h v ac
      simp[this]
theorem Pr{kindOf}:∀{P:À Str} {vs:À am} {i:Nat} {m:Str->Á am},P.Nodup->P[i]? =aA x->vs[i]? =aA v->kindOf x=aA .local->
  yt kindOf (P.zip vs) m x=aA v
 | [],_,_,_,_,h,_,_=>by simp at h
 |_::_,[],_,_,_,_,h,_=>by simp at h
 |p::P,w::vs,0,m,nd,h1,h2,hk=>by simp at h1 h2;subst h1;subst h2;show yt kindOf ((p,w)::P.zip vs) m p=_;unfold yt;rw[Pp λv a=>(fm.mp nd).1 (ph a).1,dZ hk];simp
 |p::P,w::vs,i+1,m,nd,h1,h2,hk=>by show yt kindOf ((p,w)::P.zip vs) m x=_;unfold yt;exact Pr (i:=i) (fm.mp nd).2 (by simpa using h1) Γa hk
theorem Ps{kindOf}:∀{P:À Str} {vs:À am} {i:Nat} {m:Str->Á am},P.Nodup->P[i]? =aA x->vs[i]? =aA v->kindOf x≠aA .local->
  yu kindOf (P.zip vs) m x=aA v
 | [],_,_,_,_,h,_,_=>by simp at h
 |_::_,[],_,_,_,_,h,_=>by simp at h
 |p::P,w::vs,0,m,nd,h1,h2,hk=>by simp at h1 h2;subst h1;subst h2;show yu kindOf ((p,w)::P.zip vs) m p=_;unfold yu;rw[Pq λv a=>(fm.mp nd).1 (ph a).1,dY hk];simp
 |p::P,w::vs,i+1,m,nd,h1,h2,hk=>by show yu kindOf ((p,w)::P.zip vs) m x=_;unfold yu;exact Ps (i:=i) (fm.mp nd).2 (by simpa using h1) Γa hk
def Qn(N:À Str)(vs:À V):St:=vs.map aA++ir (N.length- vs.length) aB
noncomputable def Rg(CX:CXT)(P:eg)(w:gq)(K:ak)(mg:Str->Á am)(base:ie)(N:À Str)(qual:Str)(scope:n9)(f:aq)(cd:am)(A:fj)(outer:À Env)(s:au)(H:Hp)(E:XK):Cx where
 p:=P
 w:=w
 K:=K
 mg:=mg
 base:=base
 A:=A.deeper<|nn qual scope s.heap.objs.size f cd
 N:=N
 s₀:=s
 H₀:=H
 e:=nn qual scope s.heap.objs.size f cd
 outer:=outer
 stack:=nn qual scope s.heap.objs.size f cd::outer
 ex:=[]
 calm:=aC
 fn:=λ_=>aC
 pn:=[]
 xe:=λe s'=>de (dw P w) (A.deeper<|nn qual scope s.heap.objs.size f cd) (leaving (nn qual scope s.heap.objs.size f cd) e) (λ_ a=>CX outer H s E e a) (λc a=>CX outer H s E c a) s'
theorem Dn{a:n9}(h:a.names.lookup x=aA .cell):∃c,(EF n a.names []).lookup x=aA c:=by have q:=AE a.names n []<|.inl h;exact yj.mp q
theorem jK{K}(S:FnScope N ps scope)(hd:A.handled=aB)(j:Env0 P w K mg base A outer s H)(X:vs.length=ps.length)(r:Yg vs us)(x:InCallC s s.heap.objs.size (yt (nn qual scope s.heap.objs.size f cd).kindOf (ps.zip us) λ_=>aB) (EF (s.heap.objs.size+1) scope.names []) (yu (nn qual scope s.heap.objs.size f cd).kindOf (ps.zip us) λ_=>aB) s1):
  dL (Rg CX P w K mg base N qual scope f cd A outer s H E) [] (Qn N vs) H s1:=by
 have Q:ps.length<=N.length:=by have:=congrArg p9 S.pre;rw[om]at this;lia
 obtain⟨h1,tk,rfl,L⟩:=x.done;have l:∀b:aq,b∉(Rg CX P w K mg base N qual scope f cd A outer s H E).ex:=λb z=>dt (show b∈([]:À aq)from z) Δ;refine⟨⟨j.mod,S.kind,rfl,rfl,cj _,λy z c h1 h2=>?_,λy m=>?_,λy c _ h=>?_,λ_=>hd,BI j.frames,.inr ⟨rfl,rfl⟩,λb z=>dt z<|l b,j.bs,j.bsz,λb _ _=>l b,λb z=>dt z<|l b,j.funs,j.frf⟩,
  rfl,j.bare,Un.kept L,⟨_,x.toInCall.ns,λi y v h1 h2 Z=>?_⟩,λy c h=>⟨_,x.cell y c h⟩,j.hok.fresh<|cj _,λy c h=>?_,λp B=>dt (show p∈([]:À (aq×Obj))from B) Δ,j.hok.kept L,?_⟩
 .exact name_of_addr x.apart (ke h1) (ke h2)
 .have m:scope.names.lookup y=aA .cell\/scope.names.lookup y=aA .free:=m;rcases m with m|m
  .exact Dn m
  .exact dt rfl (S.nofree _<|ke m)
 .exact qg (x.above y c<|ke h)
 .have C:i<vs.length:=by
   unfold Qn at h2;by_cases C:i<vs.length
   .exact C
   .rw[jb<|by simpa using C]at h2;rw[uu]at h2;split at h2<;> cases h2
  have T:vs[i]? =aA v:=by
   unfold Qn at h2;rw[ix (by simpa using C),c8]at h2;cases e:vs[i]? with
   |none=>rw[e]at h2;cases h2
   |some a=>rw[e]at h2;cases h2;rfl
  obtain⟨u,F,rv⟩:=r.get T;have B:ps[i]? =aA y:=by rw[<-S.pre,List.getElem?_take_of_lt Θ];exact h1
  have o:ps.Nodup:=by rw[<-S.pre];exact S.nd.sublist<|List.take_sublist _ _
  refine⟨u,rv,?_⟩;rcases S.par y (gh B)with k|k
  .exact .inl ⟨k,Pr o B F k⟩
  .obtain⟨c,e⟩:=Dn (n:=s.heap.objs.size+1) k;refine .inr ⟨.inl k,c,e,?_⟩;have q:=x.cell y c e;rw[Ps o B F (by show scope.names.lookup y≠_;rw[k];decide)]at q;exact q
 .exact j.hok.fresh (qg<|x.above y c<|ke h)
 .unfold Qn;show _=N.length;rw[ax,aj,j0];lia
theorem UH{K}{dV kV ZI pm ZG ct oc}(lk:K.lookup f=aA ⟨oc,od,.func<|kr name qual params body scope dV kV ZI pm an ZG ct,ZM⟩)(B:tu K ZG qual=aC)(S:FnScope N ps scope)(j:∀vs H Q E,sp vs H Q E->vs.length=ps.length)(h:∀A outer s H vs Q E,dU k (A.deeper<|nn qual scope s.heap.objs.size f ZG)->sp vs H Q E->
   ∃t,Ma (Rg CX P w K mg base N qual scope f ZG A outer s H E) body t/\t {nx:=λ_ H'=>Q .non H',rt:=Q} (Qn N vs) H):
  FnOk P w K mg base CX (k+1) f (kr name qual params body scope dV kV ZI pm an ZG ct) ps sp:=by
 refine⟨j,λA outer s H F us vs Q E z m G r l=>?_⟩;have g:=j _ _ _ _ l;have L:K.In s.heap:=m.mod.kin.keeps λb o e=>(m.bs b o e).1;have p:s.heap.NoLimit:=m.mod.nolimit.keeps λb o e=>(m.bs b o e).1;have c:∀y∈ps.zip us,scope.names.lookup y.1=aA .local\/(scope.names.lookup y.1=aA .cell/\((EF (s.heap.objs.size+1) scope.names []).lookup y.1).isSome=aC):=λ⟨n,v⟩ T=>by
  rcases S.par n (ph T).1 with q|q
  .exact .inl q
  .exact .inr ⟨q,AE _ _ _<|.inl q⟩
 refine codeAny_call_function z.depth (L _ _ lk) rfl S.co S.gen rfl (PySem.W.codeRec_of L B) (G _ _ _ _ ?_);refine wpAny_newFunctionEnv_cells S.kind c λenv i C x=>?_;subst i;refine⟨p.keeps x.toInCall.keep,codeAny_func ?_⟩;obtain⟨t,X,Z⟩:=h A outer s H vs Q E (z.deeper _) l;have I:dL (Rg CX P w K mg base N qual scope f ZG A outer s H E) [] (Qn N vs) H C:=jK S z.hd m g r x;refine ij (X [] C (Qn N vs) H _ I Z) (λfl s' hs=>?_) λe s' hs=>hs;have fin:∀{a:St} {H':Hp} {v:V} {u:am},dL (Rg CX P w K mg base N qual scope f ZG A outer s H E) [] a H' s'->Z9 v u->Q v H'->CE outer P w H s Q u s':=
  fun{a H' v u} J rv q=>⟨v,H',J.os,J.bare,J.base,J.hok,rv,q⟩
 cases fl with
 |ret u=>obtain⟨v,a,H',J,rv,q⟩:=hs;exact fin J rv q
 |next=>obtain⟨a,H',J,q⟩:=hs;exact fin (v:=V.non) (u:=ik) J rfl q
 |brk=>obtain⟨_,_,_,q⟩:=hs;exact ln q
 |cont=>obtain⟨_,_,_,q⟩:=hs;exact ln q
section
variable{X:Cx}{x:Str}{p pos:Pos}{e:dz}{es:À dz}{t:TA}{id T:String}{r:À V->Hp->VK->Prop}
def tCB(r:À V->Hp->VK->Prop)(t:TA):TE:=λσ H Q=>t σ H λvs H1=>r vs H1 Q
theorem Ks(u:Ou X (.builtin id) r)(o:Gl X x)(n:X.mg x=aB)(m:kq x=aA (.builtin id))(v:PA X (e::es) t)(hn:‹x≠"__name__"›)(c:‹Nd x›)(q:‹Se X e es›)(a:‹Bk X pos es›):PE X (.Call (.Name x p) (e::es) [] pos)<|tCB r t:=by
 intro dG s σ H Q I h;refine my<|Rf I o n m ?_ hn c;exact PyProof.Rows.callWith_builtin1 (Wy (v pos dG s σ H _ I h) λus f ⟨vs,H1,w,j,l⟩=>u dG f σ H1 vs us Q w j l) q a
theorem Pt(u:Ou X (.type T) r)(o:Gl X x)(n:X.mg x=aB)(m:kq x=aA (.type T))(v:PA X (e::es) t)(hn:‹x≠"__name__"›)(c:‹Nd x›)(q:‹Se X e es›)(a:‹Bk X pos es›):PE X (.Call (.Name x p) (e::es) [] pos)<|tCB r t:=by
 intro dG s σ H Q I h;refine my<|Rf I o n m ?_ hn c;exact kt (Wy (v pos dG s σ H _ I h) λus f ⟨vs,H1,w,j,l⟩=>u dG f σ H1 vs us Q w j l) q a
end
end L2
namespace HT
noncomputable def sIx(n d:Nat):Option Int->Nat
 |none=>d
 |some v=>if v<0 then(v+(n:Int)).toNat else min v.toNat n
theorem sIx_nat(n d k:Nat):sIx n d (aA (k:Int))=min k n:=by show(if(k:Int)<0 then((k:Int)+(n:Int)).toNat else min (k:Int).toNat n)=min k n;rw[dY Θ,wt]
end HT
namespace L2
abbrev TO:=St->Hp->(Á Int->Hp->Prop)->Prop
def PO(X:Cx)(e:Á dz)(t:TO):Prop:=
 ∀(dG:À (aq×Obj)) (s:au) (σ:St) (H:Hp) (Q:Á Int->Hp->Prop),dL X dG σ H s->t σ H Q->
  de (dw X.p X.w) X.A (evalPart e X.e) (λu s'=>∃o H',dL X dG σ H' s'/\AM u o/\Q o H') X.xe s
def oV:TO:=λ_ H Q=>Q aB H
def wA(t:TE):TO:=λσ H Q=>t σ H λx H1=>∃i,x= .int i/\Q (aA i) H1
theorem oU:PO X aB oV:=by intro dG s σ H Q I h;rw[GA];exact ay ⟨aB,H,I,.none,h⟩
theorem oS(h:PE X e te):PO X (aA e)<|wA te:=by intro dG s σ H Q I j;rw[evalPart_some];refine Wy (h dG s σ H _ I j) λu m a=>?_;obtain⟨x,H1,l,c,f⟩:=a;obtain⟨i,rfl,q⟩:=f;obtain⟨t,rfl⟩:=c;exact⟨aA i,H1,l,.int i t,q⟩
def SlR(X:Cx)(r:V->Á Int->Á Int->Hp->VK->Prop):Prop:=
 ∀(dG:À (aq×Obj)) (s:au) (σ:St) (H:Hp) (x:V) (v c a:am) (lo h:Á Int) (f:aq) (Q:VK),dL X dG σ H s->Z9 x v->s.heap.IsSliceOf f c a .none->AM c lo->AM a h->r x lo h H Q->
  ∃T id,si (.type T) "__getitem__"=jh (aA<|.builtin id)/\s.TypeIs v T/\de (dw X.p X.w) X.A (wg v<|.ref f) (EP X dG σ Q) X.xe s
theorem SlR.or(h:SlR X r)(h':SlR X r'):SlR X<|λx lo g H Q=>r x lo g H Q\/r' x lo g H Q:=by
 intro dG s σ H x v c a lo g f Q I j hs m l q;rcases q with q|q
 .exact h dG s σ H x v c a lo g f Q I j hs m l q
 .exact h' dG s σ H x v c a lo g f Q I j hs m l q
def tSl(r:V->Á Int->Á Int->Hp->VK->Prop)(te:TE)(a c:TO):TE:=λσ H Q=>te σ H λx H1=>a σ H1 λl H2=>c σ H2 λu f=>r x l u f Q
theorem lM{lo m:Á dz}(Z:SlR X r)(G:PE X e te)(g:PO X lo tl)(L:PO X m th):PE X (.Subscript e (.Slice lo m aB p2) pos)<|tSl r te tl th:=by intro dG s σ H Q I h;refine xv<|Wy (G dG s σ H _ I h) λv y c=>?_;obtain⟨x,H1,R,z,E⟩:=c;refine HE<|Wy (g dG y σ H1 _ R E) λj o ⟨l,H2,O,K,C⟩=>Wy (L dG o σ H2 _ O C) λf a c=>?_;obtain⟨u,n,N,F,B⟩:=c;rw[GA];refine ay ?_;have M:dL X dG σ n {a with heap:=a.heap.push {cls:=.type "slice",data:=.fields #[j,f,.none]}}:=N.kept (t':=a.toks) λb U q=>aw _ q;obtain⟨T,id,J,P,i⟩:=Z dG {a with heap:=a.heap.push {cls:=.type "slice",data:=.fields #[j,f,.none]}} σ n x v j f l u a.heap.objs.size Q M z (DC ..) K F B;show de (dw X.p X.w) X.A (yi e (.Slice lo m aB p2) v<|.ref a.heap.objs.size) (EP X dG σ Q) X.xe {a with heap:=a.heap.push {cls:=.type "slice",data:=.fields #[j,f,.none]}};exact FH (ops:=[.ref a.heap.objs.size,v]) P J i (by with_unfolding_all rfl)
def Y_(xs:À V)(lo a:Á Int):À V:=(xs.drop<|HT.sIx xs.length 0 lo).take<|HT.sIx xs.length xs.length a- HT.sIx xs.length 0 lo
noncomputable def ixN(n:Nat)(i:Int):Á Nat:=if 0<=i then(if i<n then aA i.toNat else aB)else if-(n:Int)<=i then aA (i+n).toNat else aB
def atI{α:Type}(xs:À α)(i:Int):Á α:=(ixN xs.length i).bind λj=>xs[j]?
theorem oP(h:ixN n i=aA j):IL i n=aA j/\j<n/\-(n:Int)<=i/\i<n:=by
 unfold ixN at h;by_cases h0:0<=i
 .rw[dZ h0]at h;by_cases h1:i<n
  .rw[dZ h1]at h;have e:i.toNat=j:=h8.inj h;exact⟨by rw[HH h0 h1,e],e▸(wu h0).2 h1,Θ,h1⟩
  .rw[dY h1]at h;cases h
 .rw[dY h0]at h;by_cases h1:-(n:Int)<=i
  .rw[dZ h1]at h;have e:(i+n).toNat=j:=h8.inj h;exact⟨by rw[GO Θ h1,e],Θ,h1,Θ⟩
  .rw[dY h1]at h;cases h
theorem V5{v:α}(h:atI xs i=aA v):∃j,A5 (IL i xs.length=aA j) (xs[j]? =aA v) (j<xs.length) (-(xs.length:Int)<=i)<|i<xs.length:=by
 unfold atI at h;cases e:ixN xs.length i with
 |none=>rw[e]at h;cases h
 |some j=>rw[e]at h;obtain⟨h1,h2,c,a⟩:=oP e;exact⟨j,h1,h,h2,c,a⟩
theorem oO{j:Nat}{v:α}(h:xs[j]? =aA v):atI xs (j:Int)=aA v:=by
 have a:j<xs.length:=(ci.mp h).1;have e:ixN xs.length (j:Int)=aA j:=by unfold ixN;rw[dZ Θ,dZ Θ];simp
 unfold atI;rw[e];exact h
theorem lL(xs)(v:α):atI (xs++[v]) (-1)=aA v:=by
 have a:(xs++[v]).length=xs.length+1:=Δ
 have e:ixN (xs++[v]).length (-1)=aA xs.length:=by unfold ixN;rw[a,dY Γ,dZ Θ];congr 1;lia
 unfold atI;rw[e];show(xs++[v])[xs.length]? =aA v;simp
def KL(b:dz):Prop:=∀o i,xb b aE o i=GR [o,i] (wg o i)
def IxR(X:Cx)(r:R2):Prop:=
 ∀(c a:dz) (dG:À (aq×Obj)) (s:au) (σ:St) (H:Hp) (x y:V) (v u:am) (Q:VK),dL X dG σ H s->Z9 x v->Z9 y u->r x y H Q->
  xb a aE v u=GR [v,u] (wg v u)->de (dw X.p X.w) X.A (yi c a v u) (EP X dG σ Q) X.xe s
def MtR(X:Cx)(id:String)(r:V->À V->Hp->VK->Prop):Prop:=
 ∀(dG:À (aq×Obj)) (s:au) (σ:St) (H:Hp) (x:V) (xs:À V) (v:am) (us:À am) (Q:VK),dL X dG σ H s->Z9 x v->Yg xs us->r x xs H Q->
  de (dw X.p X.w) X.A (call (.builtin id) (v::us)) (EP X dG σ Q) X.xe s
section
variable{X:Cx}
theorem IxR.or(h:IxR X r)(h':IxR X r'):IxR X<|λx y H Q=>r x y H Q\/r' x y H Q:=by
 intro a c dG s σ H x y v u Q I j f q hs;rcases q with q|q
 .exact h a c dG s σ H x y v u Q I j f q hs
 .exact h' a c dG s σ H x y v u Q I j f q hs
theorem UG(l:IxR X r)(n:PE X a ta)(m:PE X b tb)(hs:KL b):PE X (.Subscript a b pos)<|tOp r ta tb:=by intro dG s σ H Q I h;exact xv<|VP n m I h λv u c x y H2 o j f q=>l a b dG c σ H2 x y v u Q o j f q<|hs _ _
def VQ(K:ak):R2:=λx y H Q=>∃p xs i v,x= .ref p/\y= .int i/\W3 K H p xs/\atI xs i=aA v/\Q v H
def RT(K:ak):R2:=λx y H Q=>∃p xs i v,x= .ref p/\y= .int i/\Eu K H p xs/\atI xs i=aA v/\Q v H
def gM:R2:=λx y H Q=>∃z i c,x= .str z/\y= .int i/\z.length<=sizeLine/\atI z.cps.toList i=aA c/\Q (.str ⟨#[c]⟩) H
theorem V6:IxR X<|VQ X.K:=by
 intro a c dG s σ H x y v u Q I A o h hs;obtain⟨p,xs,i,z,rfl,rfl,B,E,q⟩:=h;cases A;obtain⟨t,rfl⟩:=o;obtain⟨dI,r,l,hz⟩:=I.list B;obtain⟨j,h1,h2,P,L,F⟩:=V5 E;obtain⟨w,n,f⟩:=r.get h2;have C:=r.length;have hn:=Kq;have fin:EP X dG σ Q w s:=⟨z,H,I,f,q⟩
 by_cases h0:0<=i
 .have m:i.toNat=j:=by rw[HH h0 F]at h1;exact h8.inj h1
  exact item_listR l.isList h0 Θ (by rw[m];simpa using n) fin hs
 .have m:(i+(dI.toArray.size:Int)).toNat=j:=by rw[GO Θ L]at h1;rw[c9,<-C];exact h8.inj h1
  exact zy (x:=w) l.isList.typeIs wf.lookup
   (wpAny_getItem_list_neg (Q:=λr s'=>r=w/\EP X dG σ Q r s') l.isList Θ (by rw[c9]<;> lia) Θ (by rw[m];simpa using n) ⟨rfl,fin⟩) hs
theorem rO:IxR X<|RT X.K:=by
 intro a c dG s σ H x y v u Q I n m h hs;obtain⟨p,xs,i,z,rfl,rfl,o,B,q⟩:=h;cases n;obtain⟨t,rfl⟩:=m;obtain⟨dI,r,l,hz⟩:=I.tuple o;obtain⟨j,h1,h2,L,F,E⟩:=V5 B;obtain⟨w,C,f⟩:=r.get h2;have A:=r.length;have hn:=Kq;have fin:EP X dG σ Q w s:=⟨z,H,I,f,q⟩
 exact zy (x:=w) l.typeIs slot_tuple_getitem.lookup
  (getItem_tuple (j:=j) (Q:=λr s'=>r=w/\EP X dG σ Q r s') l Θ Θ (by rw[c9,<-A];exact h1) (by simpa using C) ⟨rfl,fin⟩) hs
def rIx(K:ak):R2:=λx y H Q=>VQ K x y H Q\/RT K x y H Q\/gM x y H Q
theorem rN:IxR X<|rIx X.K:=V6.or (rO.or (by
 intro a f dG s σ H x y v u Q I m l h hs;obtain⟨z,i,c,rfl,rfl,hz,o,q⟩:=h;obtain⟨t,rfl⟩:=m;obtain⟨t',rfl⟩:=l;obtain⟨j,h1,h2,B,r,p⟩:=V5 o;have n:z.cps.toList.length=z.length:=by simp[IF]
 rw[n]at h1 r p;have hn:=Kq;exact FH (qo s z t) slot_str_getitem.lookup (getItem_str (c:=c) (by
  have A:decide (i< -(2^63:Int))=aE:=d0 Θ;have w:decide (i>=2^63)=aE:=d0 Θ;rw[A,w,GI]) (by rw[h1];simpa using h2) ⟨.str ⟨#[c]⟩,H,I.tok _,⟨_,rfl⟩,q⟩) hs))
theorem V7(lo hi n):(l9 lo hi aB n).1=((HT.sIx n 0 lo:Nat):Int)/\(l9 lo hi aB n).2.1=((HT.sIx n n hi:Nat):Int)/\(l9 lo hi aB n).2.2=1:=by
 have a (i:Int) (h:i<0):max 0 (min (i+n) n)=(((i+n).toNat:Nat):Int):=Θ
 have z2 (i:Int) (h:¬i<0):max 0 (min i n)=((min i.toNat n:Nat):Int):=Θ
 refine⟨?_,?_,rfl⟩
 .cases lo with
  |none=>simp[l9,HT.sIx]
  |some i=>
   simp only[l9,HT.sIx,ul,show(1:Int) > 0 by decide,if_true];by_cases h:i<0
   .simp only[h,if_true]<;> exact a i h
   .simp only[h,if_false]<;> exact z2 i h
 .cases hi with
  |none=>simp[l9,HT.sIx]
  |some i=>
   simp only[l9,HT.sIx,ul,show(1:Int) > 0 by decide,if_true];by_cases h:i<0
   .simp only[h,if_true]<;> exact a i h
   .simp only[h,if_false]<;> exact z2 i h
theorem N6(dI:À am)(lo hi):yo dI.toArray lo hi aB=((dI.drop<|HT.sIx dI.length 0 lo).take<|HT.sIx dI.length dI.length hi- HT.sIx dI.length 0 lo).toArray:=by obtain⟨h1,h2,a⟩:=V7 lo hi dI.toArray.size;unfold yo;rw[h1,h2,a];simp only[sliceRange_one,pick_run,c9]<;> rfl
def RS(K:ak):V->Á Int->Á Int->Hp->VK->Prop:=λx lo c H Q=>∃a xs,x= .ref a/\W3 K H a xs/\∀p,H p=aB->Q (.ref p) (upd H p<|.lst<|Y_ xs lo c)
theorem oM:SlR X<|RS X.K:=by
 intro dG s σ H x v w u lo j y Q I l hs n m h;obtain⟨a,xs,rfl,p,q⟩:=h;cases l;obtain⟨dI,r,f,hz⟩:=I.list p;have c:=r.length;refine⟨"list",_,wf.lookup,f.isList.typeIs,?_⟩;refine yg f.isList hs n m .none Δ ?_ (by rw[c9]<;> lia);rw[N6,<-c];refine⟨.ref s.heap.objs.size,_,I.laid (t':=s.toks) (o:=.lst<|Y_ xs lo j) (λb z q=>aw _ q) (cj _) ?_,rfl,q _<|I.hok.fresh<|cj _⟩;exact⟨fg (by
  unfold Y_;rw[om,oo];exact fg (um _ _)<|II _ _) hz,_,0,(r.drop<|HT.sIx xs.length 0 lo).take<|HT.sIx xs.length xs.length j- HT.sIx xs.length 0 lo,dn _ rfl⟩
noncomputable def Y7:V->Bool
 | .non=>aC
 | .bl _=>aC
 | .int _=>aC
 | .str _=>aC
 |_=>aE
noncomputable def Df:V->V->Bool
 | .non,.non=>aC
 | .bl a,.bl b=>a==b
 | .bl a,.int b=>(if a then 1 else 0)==b
 | .int a,.bl b=>a==(if b then 1 else 0)
 | .int a,.int b=>a==b
 | .str a,.str b=>a==b
 |_,_=>aE
theorem TV(f:Z9 y u)(c:Z9 x v)(fy:Y7 y=aC)(fx:Y7 x=aC):n8 A s u v<|Df y x:=by
 cases y with
 |non=>
  cases f;cases x with
  |non=>cases c;exact u5 _
  |bl b=>cases c;exact SeqAt.EqAt.none_bool b
  |int b=>obtain⟨t,rfl⟩:=c;exact BO b t
  |str b=>obtain⟨t,rfl⟩:=c;exact BN b t
  |_=>exact dt (show aE=aC from fx) df
 |bl a=>
  cases f;cases x with
  |non=>cases c;exact SeqAt.EqAt.bool_none a
  |bl b=>cases c;exact SeqAt.EqAt.bool_bool a b
  |int b=>obtain⟨t,rfl⟩:=c;exact SeqAt.EqAt.bool_int a b t
  |str b=>obtain⟨t,rfl⟩:=c;exact SeqAt.EqAt.bool_str a b t
  |_=>exact dt (show aE=aC from fx) df
 |int a=>
  obtain⟨t',rfl⟩:=f;cases x with
  |non=>cases c;exact BP a t'
  |bl b=>cases c;exact SeqAt.EqAt.int_bool a t' b
  |int b=>obtain⟨t,rfl⟩:=c;exact SeqAt.EqAt.int_int a t' b t
  |str b=>obtain⟨t,rfl⟩:=c;exact CP a t' b t
  |_=>exact dt (show aE=aC from fx) df
 |str a=>
  obtain⟨t',rfl⟩:=f;cases x with
  |non=>cases c;exact BL a t'
  |bl b=>cases c;exact SeqAt.EqAt.str_bool a t' b
  |int b=>obtain⟨t,rfl⟩:=c;exact CN a t' b t
  |str b=>obtain⟨t,rfl⟩:=c;exact CM a t' b t
  |_=>exact dt (show aE=aC from fx) df
 |_=>exact dt (show aE=aC from fy) df
def V8(x:V)(u:am):Bool:=match u with
 | .none=>Df .non x
 | .bool b=>Df (.bl b) x
 | .int i _=>Df (.int i) x
 | .str z _=>Df (.str z) x
 |_=>aE
theorem V9(r:Z9 y u)(f:Y7 y=aC):V8 x u=Df y x:=by
 cases y with
 |non=>cases r;rfl
 |bl b=>cases r;rfl
 |int i=>obtain⟨t,rfl⟩:=r;rfl
 |str z=>obtain⟨t,rfl⟩:=r;rfl
 |_=>exact dt (show aE=aC from f) df
theorem Fv(h:Yg xs us)(f:xs.all Y7=aC):us.any (V8 x)=xs.any λy=>Df y x:=by
 induction h with
 |nil=>rfl
 |cons r _ a=>rw[mo,ig]at f;rw[o8,o8,V9 r f.1,a f.2]
theorem Ov(c:Z9 x v)(fx:Y7 x=aC):∀{xs:À V} {us:À am},Yg xs us->xs.all Y7=aC->∀u∈us,n8 A s u v (V8 x u)
 |_,_,.nil,_=>λu a=>by cases a
 |y::xs,u::us,.cons r t,f=>λh a=>by
  rw[mo,ig]at f;rcases az.mp a with rfl|a
  .rw[V9 r f.1];exact TV r c f.1 fx
  .exact Ov c fx t f.2 h a
def inV(x:V)(xs:À V):Bool:=xs.any λy=>Df y x
def rIn(K:ak)(a:Bool):R2:=λx y H Q=>∃p xs,y= .ref p/\(W3 K H p xs\/Eu K H p xs)/\Y7 x=aC/\xs.all Y7=aC/\Q (.bl (if a then !inV x xs else inV x xs)) H
theorem Pu:G5 X (i3 .In)<|rIn X.K aE:=by
 intro dG s σ H x y v u Q I j l h;obtain⟨p,xs,rfl,a,fx,fs,q⟩:=h;cases l;rcases a with a|a
 .obtain⟨dI,r,c,hz⟩:=I.list a;refine SeqAt.in_listAt (V8 x) c.isList (λw f=>Ov j fx r fs w<|by simpa using f) ⟨.bl _,H,I,rfl,?_⟩;rw[show dI.toArray.any (V8 x)=dI.any (V8 x) by simp,Fv r fs];exact q
 .obtain⟨dI,r,c,hz⟩:=I.tuple a;refine SeqAt.in_tupleAt (V8 x) c (λw f=>Ov j fx r fs w<|by simpa using f) ⟨.bl _,H,I,rfl,?_⟩;rw[show dI.toArray.any (V8 x)=dI.any (V8 x) by simp,Fv r fs];exact q
theorem Xa:G5 X (i3 .NotIn) (λx y H Q=>∃i j,x= .str i/\y= .str j/\Q (.bl<|!(!(fq j i 0 j.length 1).isEmpty)) H):=by intro dG s σ H x y v u Q I c a h;obtain⟨i,j,rfl,rfl,q⟩:=h;obtain⟨t,rfl⟩:=c;obtain⟨t',rfl⟩:=a;exact notIn_str ⟨.bl _,H,I,rfl,q⟩
theorem Aa:Ou X (.builtin "len") (λxs H Q=>∃p ys,xs=[.ref p]/\(W3 X.K H p ys\/Eu X.K H p ys)/\Q (.int ys.length) H):=by
 intro dG s σ H xs us Q I r h;obtain⟨p,ys,rfl,c,q⟩:=h;obtain⟨u,rfl,l⟩:=Jw r;cases l;have hn:=Kq;rcases c with c|c
 .obtain⟨dI,f,j,hz⟩:=I.list c;have a:=f.length;exact Calls.call_len_list j.isList ξ ⟨.int ys.length,H,I.tok _,⟨s.toks+1,by rw[c9,a]⟩,q⟩
 .obtain⟨dI,f,j,hz⟩:=I.tuple c;have a:=f.length;exact len_tuple j ξ ⟨.int ys.length,H,I.tok _,⟨s.toks+1,by rw[c9,a]⟩,q⟩
theorem Ou.or(h:Ou X f r)(h':Ou X f r'):Ou X f<|λxs H Q=>r xs H Q\/r' xs H Q:=by
 intro dG s σ H xs us Q I a q;rcases q with q|q
 .exact h dG s σ H xs us Q I a q
 .exact h' dG s σ H xs us Q I a q
theorem Xb:Ou X (.type "list") (λxs H Q=>∃p ys,xs=[.ref p]/\(W3 X.K H p ys\/Eu X.K H p ys)/\∀l,H l=aB->Q (.ref l) (upd H l<|.lst ys)):=by
 intro dG s σ H xs us Q I r h;obtain⟨p,ys,rfl,j,q⟩:=h;obtain⟨u,rfl,z⟩:=Jw r;cases z;have fin:∀(dI:À am),Yg ys dI->ys.length<=sizeLine->∀(h':ie) (c:Nat),(∀b o',s.heap.get? b=aA o'->h'.get? b=aA o')->
   h'.get? s.heap.objs.size=aA {cls:=.type "list",dict:=aB,data:=.seq dI.toArray c,slots:= #[]}->EP X dG σ Q (.ref s.heap.objs.size) {s with heap:=h'}:=λdI a hz h' c f e=>
  ⟨.ref s.heap.objs.size,_,I.laid (t':=s.toks) f (cj _) (show Wc X.p X.w _ h' _ (.lst ys)from⟨hz,dI,c,a,e⟩),rfl,q _<|I.hok.fresh<|cj _⟩
 rcases j with j|j
 .obtain⟨dI,a,v,hz⟩:=I.list j;have m:=a.length;obtain⟨o,x,y,n,hd⟩:=v.isList;exact GB p (.inl rfl) x y hd (λh' c f e=>fin dI a hz h' c f e) ξ
 .obtain⟨dI,a,v,hz⟩:=I.tuple j;have m:=a.length;obtain⟨o,x,y,n,hd⟩:=v;exact GB p (.inr rfl) x y hd (λh' c f e=>fin dI a hz h' c f e) ξ
theorem Mr:Ou X (.type "tuple") (λxs H Q=>∃p ys,xs=[.ref p]/\((W3 X.K H p ys/\∀l,H l=aB->Q (.ref l) (upd H l<|.tup ys))\/(Eu X.K H p ys/\Q (.ref p) H))):=by
 intro dG s σ H xs us Q I r h;obtain⟨p,ys,rfl,h⟩:=h;obtain⟨u,rfl,n⟩:=Jw r;cases n;rcases h with⟨f,q⟩|⟨f,q⟩
 .obtain⟨dI,a,c,hz⟩:=I.list f;have j:=a.length;refine call_tuple_list c.isList (λh' v=>?_) ξ;have m:dL X dG σ H {s with heap:=h'}:=I.kept (t':=s.toks) v;have x:dL X dG σ (upd H h'.objs.size<|.tup ys) {s with heap:=h'.push {cls:=.type "tuple",data:=.seq dI.toArray}}:=
   m.laid (t':=s.toks) (λb o e=>aw _ e) (cj _) (show Wc X.p X.w _ _ _ (.tup ys)from⟨hz,dI,a,IsTup.new _ _⟩)
  exact⟨.ref h'.objs.size,_,x,rfl,q _<|m.hok.fresh<|cj _⟩
 .obtain⟨dI,a,c,hz⟩:=I.tuple f;exact call_tuple_same c ⟨.ref p,H,I,rfl,q⟩
def tyV(K:ak)(T:String)(x:V)(H:Hp):Prop:=match x with
 | .str _=>T="str"
 | .int _=>T="int"
 | .ref p=>(T="list"/\∃xs,W3 K H p xs)\/(T="tuple"/\∃o,K.lookup p=aA o/\o.cls= .type "tuple"/\o.dict=aB)\/
   (T="dict"/\((∃kvs,HK H p kvs)\/∃kvs,HTt H p kvs))\/(T="set"/\∃S n,H p=aA (.set S n))
 |_=>False
theorem NZ{σ:St}(I:dL X dG σ H s)(r:Z9 x v)(ty:tyV X.K T x H):
  s.TypeIs v T/\∀a,v= .ref a->∃g,s.heap.get? a=aA g/\g.dict=aB:=by
 cases x with
 |str z=>obtain⟨t,rfl⟩:=r;cases(show T="str"from ty);exact⟨qo s z t,λ_ e=>nomatch e⟩
 |int i=>obtain⟨t,rfl⟩:=r;cases(show T="int"from ty);exact⟨typeIs_int s i t,λ_ e=>nomatch e⟩
 |ref p=>
  cases r;rcases ty with⟨rfl,xs,l⟩|⟨rfl,o,f,m,hd⟩|⟨rfl,f⟩|⟨rfl,S,n,f⟩
  .obtain⟨dI,_,j,_⟩:=I.list l;refine⟨j.isList.typeIs,λa e=>?_⟩;cases e;obtain⟨o,n,e,c,hd,_⟩:=j;exact⟨o,e,hd⟩
  .refine⟨⟨o,I.kIn p o f,m⟩,λa e=>?_⟩;cases e;exact⟨o,I.kIn _ o f,hd⟩
  .have z:∃o,s.heap.get? p=aA o/\o.ExactDict:=by
    rcases f with⟨kvs,ep,f⟩|⟨kvs,ep,bs,f⟩
    .obtain⟨_,_,_,_,o,_,e,ex,_⟩:=I.hok p _ f;exact⟨o,e,ex⟩
    .obtain⟨_,_,_,_,o,_,e,ex,_⟩:=I.hok p _ f;exact⟨o,e,ex⟩
   obtain⟨o,e,ex⟩:=z;refine⟨⟨o,e,ex.1⟩,λa h=>?_⟩;cases h;exact⟨o,e,ex.2.1⟩
  .obtain⟨o,_,_,_,e,ex,_⟩:=I.hok p _ f;refine⟨⟨o,e,ex.1⟩,λa h=>?_⟩;cases h;exact⟨o,e,ex.2.1⟩
 |_=>exact ln ty
def RQ(K:ak)(T:String)(r:V->À V->Hp->VK->Prop)(to:TE):TE:=λσ H Q=>to σ H λx H1=>tyV K T x H1/\r x [] H1 Q
def tBM(K:ak)(T:String)(r:V->À V->Hp->VK->Prop)(to:TE)(t:TA):TE:=λσ H Q=>to σ H λx H1=>tyV K T x H1/\t σ H1 λxs H2=>r x xs H2 Q
variable{o e:dz}{to:TE}{name:Str}{ZA cpos:Pos}{T id:String}{r:V->À V->Hp->VK->Prop}
theorem rM(q:IG T)(slot:Slot T name id)(j:BZ (.builtin id)=jh (.type "method_descriptor"))(w:MtR X id r)(u:PE X o to)(c:‹vz o name X.e (oz o X.e)=oz o X.e›)(a:‹(ZA.endLine==cpos.line)=aC›):PE X (.Call (.Attribute o name ZA) [] [] cpos)<|RQ X.K T r to:=by
 intro dG s σ H Q I h;refine wpAny_Call_method0_late c a<|Wy (u dG s σ H _ I h) λv n f=>?_;obtain⟨x,H1,m,l,ty,p⟩:=f;obtain⟨h1,h2⟩:=NZ m l ty;exact⟨T,id,q,slot,j,h1,h2,u0 rfl (PySem.evalArgs_none<|w dG n σ H1 x [] v [] Q m l .nil p)⟩
theorem Ow(y:IG T)(slot:Slot T name id)(f:BZ (.builtin id)=jh (.type "method_descriptor"))(A:MtR X id r)(z:PE X o to)(B:PA X (e::es) t)(a:‹Mc X o name ZA cpos e es›)
  :
  PE X (.Call (.Attribute o name ZA) (e::es) [] cpos) (tBM X.K T r to t):=by
 intro dG s σ H Q I h;refine wpAny_Call_method_late a.base a.few a.line rfl (Wy (z dG s σ H _ I h) λv p c=>?_);obtain⟨x,H1,m,j,ty,w⟩:=c;obtain⟨h1,h2⟩:=NZ m j ty;refine⟨T,id,y,slot,f,h1,h2,?_⟩;have l:=B cpos dG p σ H1 _ m w;rw[a.st]at l⊢;refine u0 (by show(aE|| (qt cpos<|jv es X.e).any (·.1))=aE;rw[a.pl]<;> rfl)<|vm ?_;exact Wy l λus n ⟨vs,H2,C,q,u⟩=>A dG n σ H2 x vs v us Q C j q u
end
def MtM(X:Cx)(id:String)(r:V->À V->Hp->VK->Prop):Prop:=
 ∀(dG:À (aq×Obj)) (s:au) (σ:St) (H:Hp) (x:V) (xs:À V) (v:am) (us:À am) (Q:VK),dL X dG σ H s->Z9 x v->Yg xs us->r x xs H Q->
  de (dw X.p X.w) X.A (call (.builtin id) (v::us)) (EP X dG σ Q) X.xe s
theorem Yg.one(h:Yg [x] us):∃u,us=[u]/\Z9 x u:=by
 cases h with
 |cons r t=>cases t;exact⟨_,rfl,r⟩
theorem Yg.zero:∀{us:À am},Yg [] us->us=[]
 |_,.nil=>rfl
theorem Yg.dropLast(h:Yg xs us):Yg xs.dropLast us.dropLast:=by
 induction h with
 |nil=>exact .nil
 |cons r t a=>
  cases t with
  |nil=>exact .nil
  |cons q t'=>exact .cons r a
section
variable{X:Cx}{dG:À (aq×Obj)}{σ:St}{H:Hp}{s:au}{l b:aq}{xs ys zs:À V}
theorem dL.lset{dI:À am}(I:dL X dG σ H s)(j:H l=aA (.lst xs))(e:s.heap.get? l=aA {cls:=.type "list",data:=.seq dI.toArray n})(hf:f dI.toArray=its'.toArray)(a:Yg ys its')(hz:ys.length<=sizeLine):
  dL X dG σ (upd H l<|.lst ys) {s with heap:=s.heap.update l<|gp f,toks:=t'}:=by
 have q:=PySem.IsL.update e f;rw[hf]at q;refine I.write (x:=l) (e:=l) (by rw[j];exact trivial) (.inl rfl) (λm u h c=>(kz s.heap (gp f)<|Ne.symm h).trans c) ⟨_,q⟩ ?_;exact⟨hz,its',_,a,q⟩
theorem dL.lnew(I:dL X dG σ H s)(a:Yg ys dI)(hz:ys.length<=sizeLine):
  dL X dG σ (upd H s.heap.objs.size<|.lst ys) {s with heap:=s.heap.push {cls:=.type "list",data:=.seq dI.toArray},toks:=t'}:=
 I.laid (λ_ _ q=>aw _ q) (cj _) ⟨hz,dI,0,a,dn _ rfl⟩
theorem dL.fresh(I:dL X dG σ H s):H s.heap.objs.size=aB:=I.hok.fresh<|cj _
theorem dL.lstM(I:dL X dG σ H s)(a:H l=aA (.lst xs)):xs.length<=sizeLine/\E2 λ dI n=>A3 (Yg xs dI) (xs.length=dI.length)<|s.heap.get? l=aA {cls:=.type "list",data:=.seq dI.toArray n}:=by obtain⟨z,dI,n,r,e⟩:=I.hok l _ a;exact⟨z,dI,n,r,r.length,e⟩
theorem Kt(h:n<=sizeLine):jp n=aE:=by unfold jp;exact d0 Θ
end
def Be:V->À V->Hp->VK->Prop:=λx vs H Q=>∃l xs y,x= .ref l/\vs=[y]/\H l=aA (.lst xs)/\xs.length<sizeLine/\Q .non (upd H l<|.lst<|xs++[y])
theorem Oo:MtM X "list.append" Be:=by intro dG s σ H x vs v us Q I c rv h;obtain⟨l,xs,y,rfl,rfl,a,hz,q⟩:=h;cases c;obtain⟨u,rfl,f⟩:=rv.one;obtain⟨z,dI,n,r,j,e⟩:=I.lstM a;refine j8 F.slot_list_append ⟨_,e,rfl⟩ F.entry_list_append (F.args_list_append_2 _ _) (PySem.list_append l dI.toArray n u ψ) ⟨e,?_⟩;refine⟨.non,_,I.lset (its':=dI++[u]) a e Δ (r.append<|.cons f .nil) ?_,rfl,q⟩;rw[ax,dv];assumption
def KJ:V->À V->Hp->VK->Prop:=λx vs H Q=>∃l b xs zs,x= .ref l/\vs=[.ref b]/\H l=aA (.lst xs)/\H b=aA (.lst zs)/\xs.length+zs.length<=sizeLine/\Q .non (upd H l<|.lst<|xs++zs)
theorem jJ:MtM X "list.extend" KJ:=by
 intro dG s σ H x vs v us Q I j rv h;obtain⟨l,b,xs,zs,rfl,rfl,f,y,hz,q⟩:=h;cases j;obtain⟨u,rfl,m⟩:=rv.one;cases m;obtain⟨z,dI,n,r,B,e⟩:=I.lstM f;obtain⟨z2,a,p,o,w,A⟩:=I.lstM y;have hsz:dI.toArray.size+a.toArray.size<=sizeLine:=by rw[c9,c9];lia
 have c:¬(!dI.toArray.isEmpty&&jp (dI.toArray.size+a.toArray.size))=aC:=by rw[Kt hsz,yd];exact df
 refine j8 F.slot_list_extend ⟨_,e,rfl⟩ F.entry_list_extend (F.args_list_extend_2 _ _)
  (AutoSeq1.list_extend_list_list_0 l dI.toArray n b a.toArray p c ψ Θ) ⟨e,A,?_⟩
 refine⟨.non,_,I.lset (its':=dI++a) f e Δ (r.append o) ?_,rfl,q⟩;rw[ax];omega
def RP:V->À V->Hp->VK->Prop:=λx vs H Q=>∃l xs y,x= .ref l/\vs=[]/\H l=aA (.lst xs)/\xs[xs.length- 1]? =aA y/\Q y (upd H l<|.lst xs.dropLast)
theorem rL:MtM X "list.pop" RP:=by
 intro dG s σ H x vs v us Q I j rv h;obtain⟨l,xs,y,rfl,rfl,f,o,q⟩:=h;cases j;have c:=rv.zero;subst c;obtain⟨z,dI,n,r,w,e⟩:=I.lstM f;obtain⟨u,p,m⟩:=r.get o;have a:dI.toArray[dI.toArray.size- 1]? =aA u:=by show dI.toArray[dI.length- 1]? =aA u;rw[<-lr,<-w];exact p
 refine j8 F.slot_list_pop ⟨_,e,rfl⟩ F.entry_list_pop (F.args_list_pop_1 _) (MeetsSeq.list_pop_last l dI.toArray n u a ψ) ⟨e,?_⟩;refine⟨y,_,I.lset (its':=dI.dropLast) f e ?_ r.dropLast ?_,m,q⟩
 .show dI.toArray.eraseIdxIfInBounds (dI.toArray.size- 1)=dI.dropLast.toArray;rw[c9,List.eraseIdxIfInBounds_toArray,List.eraseIdx_length_sub_one]
 .rw[List.length_dropLast];omega
section
variable{κ:Type}[DecidableEq κ]
noncomputable def Jz(kvs:À (κ×V))(k:κ):Á V:=(kvs.find? λa=>decide (a.1=k)).map (·.2)
noncomputable def Qi(kvs:À (κ×V))(k:κ)(v:V):À (κ×V):=
 if(kvs.any λa=>decide (a.1=k))=aC then kvs.map (λa=>if a.1=k then(a.1,v)else a)else kvs++[(k,v)]
theorem Rh{k:κ}(e:p.1=k):Jz (p::r) k=aA p.2:=by simp[Jz,l7,e]
theorem Ci{k:κ}(e:¬p.1=k):Jz (p::r) k=Jz r k:=by simp[Jz,l7,e]
theorem Ri(k):∀kvs:À (κ×V),(kvs.any λg=>decide (g.1=k))=(Jz kvs k).isSome
 | []=>rfl
 |p::r=>by
  rw[o8];by_cases e:p.1=k
  .simp only[Rh e,d_ e,Bool.true_or,Option.isSome_some]
  .rw[Ci e,d0 e,GL];exact Ri k r
theorem Bf(kvs)(k:κ)(v):(Qi kvs k v).length<=kvs.length+1:=by
 unfold Qi;split
 .rw[aj];lia
 .rw[ax,ca,pj];lia
theorem Ab{k:κ}(v)(h:Jz kvs k=aB):Qi kvs k v=kvs++[(k,v)]:=by unfold Qi;rw[Ri,h];exact dY Γ
theorem Kn.isSome_eq(r:Kn o u):o.isSome=u.isSome:=by
 cases o with
 |none=>cases u with
  |none=>rfl
  |some _=>exact(show False from r).elim
 |some _=>cases u with
  |none=>exact(show False from r).elim
  |some _=>rfl
theorem Kn.getD(r:Kn o u)(rd:Z9 d d'):Z9 (o.getD d)<|u.getD d':=by
 cases o with
 |none=>cases u with
  |none=>exact rd
  |some _=>exact(show False from r).elim
 |some _=>cases u with
  |none=>exact(show False from r).elim
  |some _=>exact r
theorem KV.val(r:KV kvs vs)(k:κ):Kn (Jz kvs k)<|vo vs k:=by
 unfold KV at r;induction r with
 |nil=>exact j9
 | @cons p q ps qs h t ih=>
  obtain⟨h1,h2⟩:=h;by_cases e:p.1=k
  .have a:q.1=k:=h1.symm.trans e;have b:vo (q::qs) k=aA q.2:=by simp[vo,l7,a]
   rw[Rh e,b];exact h2
  .have a:¬q.1=k:=λz=>e<|h1.trans z;have b:vo (q::qs) k=vo qs k:=by simp[vo,l7,a]
   rw[Ci e,b];exact ih
theorem KV.any(r:KV kvs vs)(k:κ):(kvs.any λg=>decide (g.1=k))=vs.any λg=>decide (g.1=k):=by
 unfold KV at r;induction r with
 |nil=>rfl
 |cons h t a=>rw[o8,o8,a,h.1]
theorem KV.repl(r:KV kvs vs)(k:κ)(a:Z9 y u):
  KV (kvs.map λg=>if g.1=k then(g.1,y)else g) (vs.map λg=>if g.1=k then(g.1,u)else g):=by
 unfold KV at r⊢;induction r with
 |nil=>exact .nil
 | @cons p q ps qs h t ih=>
  rw[cg,cg];refine .cons ?_ ih;obtain⟨h1,h2⟩:=h;by_cases e:p.1=k
  .rw[dZ e,dZ<|h1.symm.trans e];exact⟨h1,a⟩
  .rw[dY e,dY<|λz=>e<|h1.trans z];exact⟨h1,h2⟩
theorem KV.put(r:KV kvs vs)(k:κ)(a:Z9 y u):KV (Qi kvs k y)<|IB vs k u:=by
 unfold Qi IB;rw[r.any k];by_cases e:(vs.any λc=>decide (c.1=k))=aC
 .rw[dZ e,dZ e];exact r.repl k a
 .rw[dY e,dY e];exact BE r ⟨rfl,a⟩
theorem KV.length{vs:À (κ×am)}(r:KV kvs vs):kvs.length=vs.length:=ug r
end
theorem Ms(r:Z9 (kV k) u):(Yr P w).is k u=aC:=by
 cases k with
 |inl i=>obtain⟨t,e⟩:=(show∃t,u=yv i t from r);subst e;exact jc i t
 |inr x=>obtain⟨t,e⟩:=(show∃t,u=wv x t from r);subst e;exact jZ x t
theorem Pv:∀{ks:À Key} {us:À am},Yg (ks.map kV) us->ItemsAre (Yr P w) ks us
 | [],_,r=>by rw[mf]at r;cases r;exact .nil
 |k::ks,_,r=>by
  rw[cg]at r;cases r with
  |cons h t=>exact .cons (Ms h)<|Pv t
abbrev KT(H:Hp):À (À Key×V)->À (À Key×aq×am)->Prop:=v6 λp q=>p.1=q.1/\H q.2.1=aA (.tup<|p.1.map kV)/\Z9 p.2 q.2.2
theorem KT.val(r:KT H kvs xs)(k):Kn (Jz kvs k) ((wn xs k).map (·.2)):=by
 induction r with
 |nil=>exact j9
 | @cons p q ps qs h t ih=>
  obtain⟨h1,_,h2⟩:=h;by_cases e:p.1=k
  .have a:q.1=k:=h1.symm.trans e;have b:wn (q::qs) k=aA q.2:=by simp[wn,l7,a]
   rw[Rh e,b];exact h2
  .have a:¬q.1=k:=λz=>e<|h1.trans z;have b:wn (q::qs) k=wn qs k:=by simp[wn,l7,a]
   rw[Ci e,b];exact ih
theorem KT.repl(r:KT H kvs xs)(k)(a:Z9 y u):
  KT H (kvs.map λg=>if g.1=k then(g.1,y)else g) (xs.map<|HJ k u):=by
 induction r with
 |nil=>exact .nil
 | @cons p q ps qs h t ih=>
  rw[cg,cg];refine .cons ?_ ih;obtain⟨h1,h2,c⟩:=h;unfold HJ;by_cases e:p.1=k
  .rw[dZ e,dZ<|h1.symm.trans e];exact⟨h1,h2,a⟩
  .rw[dY e,dY<|λz=>e<|h1.trans z];exact⟨h1,h2,c⟩
theorem KT.put(r:KT H kvs xs)(k)(f:H b=aA (.tup<|k.map kV))(a:Z9 y u):
  KT H (Qi kvs k y) (DH xs k b u):=by
 have e:(kvs.any λc=>decide (c.1=k))=(wn xs k).isSome:=by rw[Ri,(r.val k).isSome_eq,t8]
 unfold Qi DH;rw[e];by_cases q:(wn xs k).isSome=aC
 .rw[dZ q,dZ q];exact r.repl k a
 .rw[dY q,dY q];exact BE r ⟨rfl,f,a⟩
theorem KT.keeps(r:KT H kvs xs)(a:∀b ys,H b=aA (.tup ys)->H' b=aA (.tup ys)):KT H' kvs xs:=
 Paired.mapP r λ_ _ z=>⟨z.1,a _ _ z.2.1,z.2.2⟩
theorem UF(ok:Rc P w H h)(e:Rd H a u):Wc P w H h a u:=e.ok ok
theorem Mt(ok:Rc P w H h)(e:RdK H a kvs):kvs.length<=sizeLine/\(a==i7)=aE/\∃vs,KV kvs vs/\h.DictOf (Yr P w) a vs:=
 let⟨ep,e⟩:=e;let⟨z,y,vs,r,d⟩:=(show Wc P w H h a (.dK kvs ep)from UF ok e);⟨z,y,vs,r,d.dictOf⟩
theorem Dp(ok:Rc P w H h)(e:HK H a kvs):kvs.length<=sizeLine/\(a==i7)=aE/\∃vs,KV kvs vs/\h.DictOf (Yr P w) a vs:=Mt ok e.rd
theorem M7(ok:Rc P w H h)(e:H a=aA (.tup<|ks.map kV)):(ro<|Yr P w).is h ks a:=by
 obtain⟨_,dI,r,o,h1,h2,n,c⟩:=(show Wc P w H h a (.tup<|ks.map kV)from ok a _ e)
 exact⟨o,dI.toArray,n,h1,h2,c,by simpa using Pv r⟩
theorem Ix(ok:Rc P w H h)(e:RdT H a kvs):kvs.length<=sizeLine/\(a==i7)=aE/\
  ∃xs,KT H kvs xs/\h.DictOfH (ro<|Yr P w) a xs:=by
 obtain⟨ep,bs,e⟩:=e;obtain⟨z,y,xs,r,o,es,h1,h2,n,j,f,_⟩:=(show Wc P w H h a (.dT kvs ep bs)from UF ok e)
 refine⟨z,y,xs,r,o,es,ep,h1,h2,n,j,λx c=>?_,f⟩;have all:∀{l:À (À Key×V)} {m:À (À Key×aq×am)},KT H l m->∀x∈m,(ro<|Yr P w).is h x.1 x.2.1:=by
  intro l m q;induction q with
  |nil=>intro x c;exact nomatch c
  | @cons p q ps qs hq t ih=>
   intro x c;rcases az.mp c with e|c
   .subst e;exact M7 ok (by rw[<-hq.1];exact hq.2.1)
   .exact ih x c
 exact all r x c
def C2(H:Hp)(a:aq)(y:V)(r:Á V):Prop:=
 (∃kvs k,RdK H a kvs/\y=kV k/\r=Jz kvs k)\/∃kvs k b,RdT H a kvs/\y= .ref b/\H b=aA (.tup<|k.map kV)/\r=Jz kvs k
def Xc(H:Hp)(a:aq)(y v:V)(R:Hp->Prop):Prop:=
 (∃kvs k,HK H a kvs/\y=kV k/\kvs.length<sizeLine/\∀ep,R<|upd H a<|.dK (Qi kvs k v) ep)\/
 ∃kvs k b,HTt H a kvs/\y= .ref b/\H b=aA (.tup<|k.map kV)/\kvs.length<sizeLine/\∀ep c bs,H a=aA (.dT kvs c bs)->R (upd H a<|.dT (Qi kvs k v) ep<|Dl kvs bs k b)
theorem C2.k{k:Key}(e:HK H a kvs):C2 H a (kV k)<|Jz kvs k:=.inl ⟨kvs,k,e.rd,rfl,rfl⟩
theorem C2.t{k}(e:HTt H a kvs)(c:H b=aA (.tup<|k.map kV)):C2 H a (.ref b)<|Jz kvs k:=.inr ⟨kvs,k,b,e.rd,rfl,c,rfl⟩
theorem Xc.k{k:Key}(e:HK H a kvs)(c:kvs.length<sizeLine)(h:∀ep,R<|upd H a<|.dK (Qi kvs k v) ep):Xc H a (kV k) v R:=.inl ⟨kvs,k,e,rfl,c,h⟩
theorem Xc.t{k}(e:HTt H a kvs)(f:H b=aA (.tup<|k.map kV))(c:kvs.length<sizeLine)(h:∀ep g bs,H a=aA (.dT kvs g bs)->R (upd H a<|.dT (Qi kvs k v) ep<|Dl kvs bs k b)):
  Xc H a (.ref b) v R:=.inr ⟨kvs,k,b,e,rfl,f,c,h⟩
section
variable{X:Cx}{dG:À (aq×Obj)}{σ:St}{H:Hp}{s:au}{a:aq}{y v:V}{u r:am}{o:Á V}{A:fj}{E:am->au->Prop}
theorem dL.big(I:dL X dG σ H s):i7<s.heap.objs.size:=by have h:f6<s.heap.objs.size:=(I.mod.glob.keeps I.bk).lt;exact AI Γ h
theorem jI(r:A.units+1<jf)(I:dL X dG σ H s)(g:C2 H a y<|aA v)(q:Z9 y u)(h:∀i s',dL X dG σ H s'->Z9 v i->Q i s'):
  de (dw X.p X.w) A (wg (.ref a) u) Q E s:=by
 rcases g with⟨kvs,k,e,n,l⟩|⟨kvs,k,b,e,n,B,l⟩
 .subst n;obtain⟨z,hd,vs,f,dd⟩:=Mt I.hok e;obtain⟨i,j,c⟩:=Kn.some_of (v:=v) (o:=vo vs k) (by rw[l];exact f.val k);exact wpAny_getItem_of (Ms q) dd.mapOf j<|h i _ (I.tok _) c
 .subst n;cases(show u=g0 b from q);obtain⟨z,hd,xs,f,dd⟩:=Ix I.hok e;obtain⟨i,j,c⟩:=Kn.some_of (v:=v) (o:=(wn xs k).map (·.2)) (by rw[l];exact f.val k);obtain⟨p,x,m⟩:=je.mp j;refine wpAny_getItem_heap (mz r) (M7 I.hok B) dd x ?_;rw[m];exact h i _ (I.tok _) c
theorem gL(m:A.units+1<jf)(I:dL X dG σ H s)(g:C2 H a y o)(j:Z9 y u)(h:∀s',dL X dG σ H s'->Q (.bool o.isSome) s'):
  de (dw X.p X.w) A (i3 .In u<|.ref a) Q E s:=by
 rcases g with⟨kvs,k,e,f,l⟩|⟨kvs,k,b,e,f,n,l⟩
 .subst f;obtain⟨z,hd,vs,c,dd⟩:=Mt I.hok e;refine HC (Ms j) hd dd.mapOf ?_;rw[<-(c.val k).isSome_eq,<-l];exact h _<|I.tok _
 .subst f;cases(show u=g0 b from j);obtain⟨z,hd,xs,c,dd⟩:=Ix I.hok e;refine wpAny_in_heap (mz m) (M7 I.hok n) hd dd ?_;have q:=(c.val k).isSome_eq;rw[t8]at q;rw[<-q,<-l];exact h _<|I.tok _
theorem oJ(m:A.units+1<jf)(I:dL X dG σ H s)(g:C2 H a y o)(j:Z9 y u)(h:∀s',dL X dG σ H s'->Q (.bool<|!o.isSome) s'):
  de (dw X.p X.w) A (i3 .NotIn u<|.ref a) Q E s:=by
 rcases g with⟨kvs,k,e,f,l⟩|⟨kvs,k,b,e,f,n,l⟩
 .subst f;obtain⟨z,hd,vs,c,dd⟩:=Mt I.hok e;refine FC (Ms j) hd dd.mapOf ?_;rw[<-(c.val k).isSome_eq,<-l];exact h _<|I.tok _
 .subst f;cases(show u=g0 b from j);obtain⟨z,hd,xs,c,dd⟩:=Ix I.hok e;refine wpAny_notIn_heap (mz m) (M7 I.hok n) hd dd ?_;have q:=(c.val k).isSome_eq;rw[t8]at q;rw[<-q,<-l];exact h _<|I.tok _
theorem Ac(I:dL X dG σ H s)(f:Mut<|H a)(hs:qi a s.heap h')(h:∃q,h'.get? a=aA q)(c:Wc X.p X.w (upd H a ob) h' a ob):
  dL X dG σ (upd H a ob) {s with heap:=h',toks:=t'}:=
 I.write (x:=a) (e:=a) f (.inl rfl) (λb q j z=>(hs.2 b j).trans z) h c
theorem Xd(z:kvs.length<=sizeLine)(hd:(a==i7)=aE)(c:KV kvs vs)(dd:h'.DictOf (Yr P w) a vs):
  ∃ep,∀H',Wc P w H' h' a<|.dK kvs ep:=let⟨ep,dd⟩:=dd.dictAt;⟨ep,λ_=>⟨z,hd,vs,c,dd⟩⟩
theorem jH(hu:A.units+1<jf)(I:dL X dG σ H s)(g:Xc H a y v R)(G:Z9 y u)(rv:Z9 v r)(h:∀H' s',R H'->dL X dG σ H' s'->Q () s'):
  de (dw X.p X.w) A (setItem (.ref a) u r) Q E s:=by
 rcases g with⟨kvs,k,e,L,l,P⟩|⟨kvs,k,b,e,L,N,l,P⟩
 .subst L;obtain⟨z,hd,vs,f,dd⟩:=Dp I.hok e;have hz:vs.length<=sizeLine:=by rw[<-f.length];exact z
  have F:(Qi kvs k v).length<=sizeLine:=by have:=Bf kvs k v;lia
  refine wpAny_setItem_pairs (hsz:=hz) (Ms G) dd λh' j hs=>?_;have he:∃q,h'.get? a=aA q:=let⟨q,_,_,B,_⟩:=j;⟨q,B⟩
  obtain⟨ep,ok⟩:=Xd F hd (f.put k rv) j;exact h _ _ (P ep)<|Ac I (by obtain⟨T,e⟩:=e;rw[e];exact j9) hs he<|ok _
 .subst L;cases(show u=g0 b from G);obtain⟨z,hd,xs,f,dd⟩:=Ix I.hok e.rd;have hz:xs.length<=sizeLine:=by rw[<-ug f];exact z
  have F:(Qi kvs k v).length<=sizeLine:=by have:=Bf kvs k v;lia
  refine wpAny_setItem_heap (hsz:=hz) (mz hu) (M7 I.hok N) dd λh' j hs=>?_;obtain⟨q,es,ep,B,h2,h3,h4,_,h5⟩:=j;obtain⟨T,bs,e⟩:=e;have J:(xs.map λx=>x.2.1)=bs:=by
   obtain⟨_,_,C,r',_,_,w1,_,Y,W,_,U⟩:=(show Wc X.p X.w H s.heap a (.dT kvs T bs)from I.hok a _ e)
   obtain⟨_,_,_,i,_,Z,O,_⟩:=dd;rw[w1]at i;cases i;rw[Y]at Z;cases Z;have:C.map (λx=>x.2.1)=xs.map λx=>x.2.1:=by
    have z:=congrArg (re yk)<|W.symm.trans O;rw[f7,f7]at z;have inj:∀{l m:À (À Key×aq×am)},l.map (yk∘CG (ro<|Yr X.p X.w))=m.map (yk∘CG (ro<|Yr X.p X.w))->(l.map λx=>x.2.1)=m.map λx=>x.2.1:=by
     intro l;induction l with
     |nil=>intro m z;cases m with
      |nil=>rfl
      |cons _ _=>cases z
     |cons x l ih=>intro m z;cases m with
      |nil=>cases z
      |cons y m=>rw[cg,cg]at z⊢;injection z with z1 z2;have n:g0 x.2.1=g0 y.2.1:=z1;injection n with n;rw[n,ih z2]
    exact inj z
   rw[<-this];exact U
  have K:((DH xs k b r).map λx=>x.2.1)=Dl kvs bs k b:=by
   have ee:(kvs.any λkv=>decide (kv.1=k))=(wn xs k).isSome:=by rw[Ri,(f.val k).isSome_eq,t8]
   unfold Dl DH;rw[ee];by_cases o:(wn xs k).isSome=aC
   .rw[dZ o,dZ o,f7,<-J];refine kj λx _=>?_;show(HJ k r x).2.1=x.2.1;unfold HJ;split<;> rfl
   .rw[dY o,dY o,cb,J];rfl
  refine h _ _ (P ep T bs e)<|Ac I (by rw[e];exact j9) hs ⟨q,B⟩ ⟨F,hd,_,(f.put k N rv).keeps λc ys M=>?_,q,es,B,h2,h3,h4,h5,K⟩;rw[Zs (by intro e;subst e;rw[M]at e;exact(λz=>nomatch z) (h8.inj e))];exact M
end
def RO(i:dz):Prop:=∀a c,xb i aE a c=GR [a,c] (wg a c)
theorem oI{id:String}(m:si (.type T) "__getitem__"=jh (aA<|.builtin id))(hs:RO slice)(h:de (dw prog w) A (oz value env) (λo G=>de (dw prog w) A (oz slice env) (λi g=>g.TypeIs o T/\de (dw prog w) A (wg o i) Q E g) E G) E s):
  de (dw prog w) A (oz (.Subscript value slice pos) env) Q E s:=by
 refine xv<|ij h (λo G j=>ij j (λi g a=>?_) λ_ _ x=>x) λ_ _ x=>x;obtain⟨l,a⟩:=a;unfold yi;refine af ?_;rw[getitemInPython_of_ne l.not_modules];refine af<|xh l m ?_;have fin:de (dw prog w) A (xb slice aE o i) (λr c=>de (dw prog w) A (letTemporaryGo value o r >>=λ_=>jh r) Q E c) E g:=by rw[hs o i];exact wpAny_operating<|ij a (λr c f=>af<|wpAny_letTemporaryGo<|ay f) λ_ _ x=>x
 first
  |exact ay<|af fin
  |exact af<|ay<|af fin
  |exact af fin
def x_(c ty:TE):TE:=λσ H Q=>c σ H λx H1=>ty σ H1 λy H2=>∃a v,x= .ref a/\C2 H2 a y (aA v)/\Q v H2
def PV(f ty c:TE):TS:=λD σ H=>c σ H λv H1=>f σ H1 λx H2=>ty σ H2 λy h=>∃a,x= .ref a/\Xc h a y v (D.nx σ)
theorem oH(r:X.A.units+1<jf)(w:PE X o td)(z:PE X i ty)(hs:RO i):PE X (.Subscript o i pos)<|x_ td ty:=by
 intro dG s σ H Q I h;refine oI PySem.F.slot_dict_getitem.lookup hs<|Wy (w dG s σ H _ I h) λu l ⟨x,H1,C,n,q⟩=>Wy (z dG l σ H1 _ C q) λP L c=>?_;obtain⟨y,H2,j,m,a,v,ex,g,p⟩:=c;subst ex;obtain rfl:u=g0 a:=n;exact⟨(by
  rcases g with⟨kvs,k,e,_,_⟩|⟨kvs,k,b,e,_,_,_⟩
  .obtain⟨_,_,vs,_,dd⟩:=Mt j.hok e;exact dd.typeIs
  .obtain⟨_,_,xs,_,dd⟩:=Ix j.hok e;exact dd.typeIs),jI r j g m λE K B f=>⟨v,H2,B,f,p⟩⟩
theorem oG(w:X.A.units+1<jf)(z:PE X o td)(B:PE X i ty)(q:PE X value tv)(hs:i6 value (aA<|.Subscript o i pos') pos.line X.e=jh aE):
  PS X (.Assign [.Subscript o i pos'] value pos) (PV td ty tv):=by
 intro dG s σ H D I h;refine wpAny_Assign_Subscript (Wy (q dG s σ H _ I h) λr f ⟨v,H1,K,rv,p⟩=>Wy (z dG f σ H1 _ K p) λu c ⟨x,H2,F,l,n⟩=>Wy (B dG c σ H2 _ F n) λT Q ⟨y,Z,E,j,a,ex,g⟩=>?_) hs;subst ex;obtain rfl:u=g0 a:=l;exact jH w E g j rv λL P m C=>⟨σ,L,C,m⟩
theorem Ku(h:ie)(c:i7<h.objs.size):Wc P w H (h.push {cls:=.type "dict",data:=.dict #[]}) h.objs.size<|.dK [] 0:=
 ⟨gr _,beq_eq_false_iff_ne.mpr<|Ne.symm<|eh c,[],.nil,_,#[],dn _ rfl,⟨rfl,rfl,rfl⟩,rfl,λ_ a=>by simp at a,Pairs.nil,gd⟩
def rK:TE:=λ_ H Q=>∀p,H p=aB->Q (.ref p) (upd H p<|.dK [] 0)
def rJ:TE:=λ_ H Q=>∀p,H p=aB->Q (.ref p) (upd H p<|.dT [] 0 [])
theorem Dq:PE X (.Dict [] [] pos) rK:=λdG s σ H Q I h=>
 EB ⟨.ref s.heap.objs.size,_,I.laid (a:=s.heap.objs.size) (o:=.dK [] 0) (t':=s.toks) (λ_ _ q=>aw _ q) (cj _)<|Ku s.heap I.big,rfl,h _<|I.hok.fresh<|cj _⟩
theorem lK:PE X (.Dict [] [] pos) rJ:=λdG s σ H Q I h=>
 EB ⟨.ref s.heap.objs.size,_,I.laid (a:=s.heap.objs.size) (o:=.dT [] 0 []) (t':=s.toks) (λ_ _ q=>aw _ q) (cj _)<|⟨gr _,beq_eq_false_iff_ne.mpr<|Ne.symm<|eh I.big,[],.nil,_,#[],dn _ rfl,⟨rfl,rfl,rfl⟩,rfl,rfl,gd,rfl⟩,rfl,h _<|I.hok.fresh<|cj _⟩
def Xe:List (TE×TE)->St->Hp->(List (V×V)->Hp->Prop)->Prop
  | [],_,H,Q=>Q [] H
  | (tk,tv)::r,σ,H,Q=>tk σ H λx H1=>tv σ H1 λy H2=>Xe r σ H2 λps a=>Q ((x,y)::ps) a
abbrev VV:À (V×V)->À (am×am)->Prop:=v6 λp q=>Z9 p.1 q.1/\Z9 p.2 q.2
def PPs(X:Cx)(pos:Pos)(keys:À (Á dz))(a:À dz)(c:À (TE×TE)):Prop:=
 ∀(dG:À (aq×Obj)) (s:au) (σ:St) (H:Hp) (Q:À (V×V)->Hp->Prop),dL X dG σ H s->Xe c σ H Q->
  de (dw X.p X.w) X.A (evalPairs<|pairTrees keys a X.e pos) (λvs s'=>∃ps H',dL X dG σ H' s'/\VV ps vs/\Q ps H') X.xe s
def Rj(kvs a:À (Key×V)):À (Key×V):=a.foldl (λacc c=>Qi acc c.1 c.2) kvs
theorem KV.merge:∀{a:À (Key×V)} {c:À (Key×am)} {kvs:À (Key×V)} {vs:À (Key×am)},KV a c->KV kvs vs->KV (Rj kvs a) (merged vs c):=by
 intro a c kvs vs r;unfold KV at r;induction r generalizing kvs vs with
 |nil=>intro q;exact q
 | @cons p q ps qs h t ih=>
  intro f;have e:KV (Qi kvs p.1 p.2)<|IB vs q.1 q.2:=by have:=f.put p.1 h.2;rw[<-h.1];exact this
  exact ih e
theorem Mu:∀g kvs,(Rj kvs g).length<=kvs.length+g.length
 | [],kvs=>by show kvs.length<=kvs.length+0;lia
 |p::r,kvs=>by have h1:=Mu r<|Qi kvs p.1 p.2;have h2:=Bf kvs p.1 p.2;show(Rj (Qi kvs p.1 p.2) r).length<=_;rw[ca];lia
theorem Kv:∀{kvs:À (Key×V)} {ws:À (am×am)},VV (kvs.map λi=>(kV i.1,i.2)) ws->∃g,Carries (Yr P w) ws g/\KV kvs g
 | [],_,r=>by rw[mf]at r;cases r;exact⟨[],j9,.nil⟩
 |p::kvs,_,r=>by
  rw[cg]at r;cases r with
  | @cons a b as bs h t=>obtain⟨g,c,q⟩:=Kv (P:=P) (w:=w) t;obtain⟨j,f⟩:=b;exact⟨(p.1,f)::g,⟨Ms h.1,rfl,c⟩,.cons ⟨rfl,h.2⟩ q⟩
structure M2(X:Cx)(o:dz)(m:Str)(ZA:Pos)(e f:dz)(cpos:Pos):Prop where
 base:vz o m X.e (oz o X.e)=oz o X.e
 few:((qt cpos<|jv [e,f] X.e).all (λx=>!x.1)&&(backToKw cpos<|HM [] X.e).all (λx=>x.1.isSome)
  &&decide (([e,f]:À dz).length+([]:À DS).length+(if([]:À DS).isEmpty then 0 else 1)<30))=aC
 line:(ZA.endLine==cpos.line)=aC
 trees:qt cpos (jv [e,f] X.e)=[(aE,oz e X.e),(aE,oz f X.e)]
def IsD(H:Hp)(a:aq):Prop:=(∃kvs,RdK H a kvs)\/∃kvs,RdT H a kvs
theorem rH{σ:St}(I:dL X dG σ H s)(d:IsD H a):
  s.TypeIs (.ref a) "dict"/\(∀b,g0 a= .ref b->∃g,s.heap.get? b=aA g/\g.dict=aB)/\(a==i7)=aE:=by
 rcases d with⟨kvs,e⟩|⟨kvs,e⟩
 .obtain⟨_,hd,vs,_,dd⟩:=Mt I.hok e;refine⟨dd.typeIs,λb q=>?_,hd⟩;cases q;obtain⟨g,_,_,h1,h2,_⟩:=dd;exact⟨g,h1,h2.2.1⟩
 .obtain⟨_,hd,xs,_,dd⟩:=Ix I.hok e;refine⟨dd.typeIs,λb q=>?_,hd⟩;cases q;obtain⟨g,_,_,h1,h2,_⟩:=dd;exact⟨g,h1,h2.2.1⟩
section
variable{X:Cx}{dG:À (aq×Obj)}{σ:St}{H:Hp}{s:au}{a:aq}{y d:V}{u r:am}{o:Á V}{A:fj}{E:am->au->Prop}
theorem sG(m:A.units+1<jf)(I:dL X dG σ H s)(g:C2 H a y o)(j:Z9 y u)(h:∀i s',dL X dG σ H s'->Z9 (o.getD .non) i->Q i s'):
  de (dw X.p X.w) A (call (.builtin "dict.get") [.ref a,u]) Q E s:=by
 rcases g with⟨kvs,k,e,f,l⟩|⟨kvs,k,b,e,f,n,l⟩
 .subst f;obtain⟨z,hd,vs,c,dd⟩:=Mt I.hok e;refine wm nq dd.typeIs qf (zg _ _) (meets_dict_get (Yr X.p X.w) a (Ms j) hd) ⟨_,dd.mapOf,h _ _ (I.tok _) ?_⟩;rw[l];exact(c.val k).getD rfl
 .subst f;cases(show u=g0 b from j);obtain⟨z,hd,xs,c,dd⟩:=Ix I.hok e;refine wm nq dd.typeIs qf (zg _ _) (meetsH_dict_get (ro<|Yr X.p X.w) a b hd) ⟨mz m,k,xs,M7 I.hok n,dd,h _ _ (I.tok _) ?_⟩;rw[l];exact(c.val k).getD rfl
theorem sE(m:A.units+1<jf)(I:dL X dG σ H s)(g:C2 H a y o)(j:Z9 y u)(rd:Z9 d r)(h:∀i s',dL X dG σ H s'->Z9 (o.getD d) i->Q i s'):
  de (dw X.p X.w) A (call (.builtin "dict.get") [.ref a,u,r]) Q E s:=by
 rcases g with⟨kvs,k,e,f,l⟩|⟨kvs,k,b,e,f,n,l⟩
 .subst f;obtain⟨z,hd,vs,c,dd⟩:=Mt I.hok e;refine wm nq dd.typeIs qf (zb _ _ _) (meets_dict_get_default (Yr X.p X.w) a (Ms j) hd r) ⟨_,dd.mapOf,h _ _ (I.tok _) ?_⟩;rw[l];exact(c.val k).getD rd
 .subst f;cases(show u=g0 b from j);obtain⟨z,hd,xs,c,dd⟩:=Ix I.hok e;refine wm nq dd.typeIs qf (zb _ _ _) (meetsH_dict_get_default (ro<|Yr X.p X.w) a b hd r) ⟨mz m,k,xs,M7 I.hok n,dd,h _ _ (I.tok _) ?_⟩;rw[l];exact(c.val k).getD rd
end
end L2
namespace Att
open PySem.W PySem.Calls
theorem Fp:∀ns vs,WellAll P h vs (ns.map WData.int)->AN vs ns:=by
 intro ns;induction ns with
 |nil=>intro vs w;rw[mf]at w;cases w;exact .nil
 |cons n ns c=>
  intro vs w;rw[cg]at w;cases w with
  |cons a b=>cases a;exact .cons _ _<|c _ b
theorem jG{l:OpenLaw}(hn:l.most=aA n)(c:l.row.toRowW.claim.pre args=aC)(p:WellAll P h vals args):
  ∃a vs ns,vals=[g0 a]/\args=[WData.list (ns.map WData.int)]/\h.get? a=aA {cls:=.type "list",data:=.seq vs.toArray}/\AN vs ns/\ns.length<=n:=by
 have s:WShape.hasAll [] args [.list .int]=aC:=(pre_splitW c).1;have u:l.pre.holds [] {args:=args}=aC:=(pre_splitW c).2;obtain⟨d,r,rfl,h1,h2⟩:=hasAllW_cons s;obtain rfl:=hasAllW_nil h2;obtain⟨xs,rfl,z⟩:=hasW_list h1;obtain⟨ns,rfl⟩:=items_int z;have f:ns.length<=n:=by
  unfold OpenLaw.pre at u;have o:(WTm.not<|.lt (.lit<|.int (n:Int))<|.len<|.arg 0).holds [] {args:=[.list (ns.map .int)]}=aC:=by have o:=(holds_andW u).1;rw[hn]at o;exact o
  have m:=condW_of o<|w_not<|w_lt w_lit<|w_len_list<|w_arg rfl;rw[aj]at m;refine EI λq=>?_;have x:(n:Int)<((ns.length:Nat):Int):=π
  first
   | (rw[d_ x]at m;exact dt m Γ)
   | (simp at m;omega)
 cases p with
 |cons w v=>
  cases v;cases w with
  |list y j=>exact⟨_,_,ns,rfl,rfl,y,Fp ns _ j,f⟩
theorem jF(l:OpenLaw)(args):l.row.toRowW.claim.post args (.bool aC) args=aC:=
 postW_of (r:=l.row.toRowW) (X:=(aC==aC))
  (show WShape.has [] (.bool aC) .bool=aC by first|rfl|decide|simp[WShape.has,WShape.arms,WShape.armsAll])
  (show(WTm.eq .res<|.lit<|.bool aC).value [] {args:=args,res:=aA<|.bool aC,after:=args}=aA (.bool<|aC==aC)from w_eq_bool (w_res rfl) w_lit) rfl
theorem attach_call{l:OpenLaw}(hn:l.most=aA n)(u:d.params.defaults=[])(call:∀w i g mg M fa o J cd I a vs ns,
   Ground q loose [] XP w i mg M g.heap->YP w g.heap->
   g.heap.get? fa=aA o->o.data= .func (docDef d.name d.params d.body d.scope J cd I)->g.heap.CodeRec cd d.name->mg d.name=aA (.ref fa)->
   g.heap.get? a=aA {cls:=.type "list",data:=.seq vs.toArray}->AN vs ns->ns.length<=n->g.gens= #[]->
   rj (dw l.prog w) vq (.call (.ref fa) ⟨[.ref a],[]⟩) (λr s'=>r= .ok (.ret<|.bool aC)/\OldK g.heap s'.heap/\s'.os=g.os/\uc s'.gens) g):
  WalkO q loose XP YP l.row.toRowW d [] (λf vs=>CS f vs):=by
 intro w i g mg M G Y fa o J cd I P kV C hd v y s H z vals as h x A p F;obtain rfl:P= .none:=Dflts.none y u;obtain rfl:kV= .none:=Dflts.noKw y;obtain⟨a,vs,ns,rfl,rfl,j,c,m⟩:=jG hn h p;refine enter_call<|wj (call w i g mg M fa o J cd I a vs ns G Y C (fd_plain hd) v s j c m H) λr s' B=>?_;obtain⟨rfl,h2,L,K⟩:=B;exact⟨.inl ⟨.bool aC,.bool aC,[],rfl,λ_=>rfl,.bool aC,jF l _,λ_=>⟨List.Pairwise.nil,λ_ E=>(nomatch E)⟩⟩,h2,L,K⟩
end Att
namespace L2
theorem jE(h:AN vs ns):Yg (ns.map V.int) vs:=by
 induction h with
 |nil=>exact .nil
 |cons n t _ a=>exact .cons ⟨t,rfl⟩ a
noncomputable def Oe(s:lu):Arguments:=match s with
 | .FunctionDef _ a _ _ _ _ _ _ _ _=>a
 |_=>{posonlyargs:=[],args:=[],vararg:=aB,kwonlyargs:=[],kw_defaults:=[],kwarg:=aB,defaults:=[]}
noncomputable def W6(s:lu):List Stmt:=match s with
 | .FunctionDef _ _ b _ _ _ _ _ _ _=>b
 |_=>[]
noncomputable def Yk(s:lu):Scope:=match s with
 | .FunctionDef _ _ _ _ _ _ sc _ _ _=>sc
 |_=>{kind:=.function,names:=[],isGenerator:=aE,isCoroutine:=aE}
abbrev M8:CXT:=λ_ _ _ _ _ _=>False
abbrev E0:XK:=λ_ _ _=>False
theorem WG:V4 M8 X E0:=λ_ _ _ _ _ _ _ h=>h.elim
structure Fun(K:ak)(x qual:Str)(st:lu)(f:aq)(fd:jg):Prop where
 ex:∃(oc:am) (od:Á aq) (kV ZI pm:am) (an:Á aq) (ZG ct:am) (ZM:Array<|Á am),
  fd=kr x qual (Oe st) (W6 st) (Yk st) .none kV ZI pm an ZG ct/\K.lookup f=aA ⟨oc,od,.func fd,ZM⟩/\tu K ZG qual=aC
 kp:lg K (.ref f)=aC
section
variable{K:ak}
theorem Fun.ok{st}(F:Fun K x qual st f fd)(S:FnScope N ps<|Yk st)(c:∀vs H Q E,sp vs H Q E->vs.length=ps.length)(a:∀g A outer s H vs Q E,dU k (A.deeper<|nn qual (Yk st) s.heap.objs.size f g)->sp vs H Q E->
   ∃t,Ma (Rg M8 P w K mg base N qual (Yk st) f g A outer s H E).nox (W6 st) t/\t {nx:=λ_ H'=>Q .non H',rt:=Q} (Qn N vs) H):FnOk P w K mg base M8 (k+1) f fd ps sp:=by
 obtain⟨r,od,kV,o,p,v,g,u,m,rfl,lk,l⟩:=F.ex;refine UH lk l S c λA outer s H vs Q E n j=>?_;obtain⟨t,h,q⟩:=a g A outer s H vs Q E n j;exact⟨t,h.nox,q⟩
theorem Fun.binds{st}(F:Fun K x qual st f fd)(h:∀kV g G J i I us,us.length=ps.length->vd (kr x qual (Oe st) (W6 st) (Yk st) .none kV g G J i I) ⟨us,[]⟩=jh (ps.zip us)):T8 K fd ps []:=by
 obtain⟨j,od,kV,g,G,J,i,I,a,rfl,lk,c⟩:=F.ex;exact .all<|h kV g G J i I
theorem eI{st}{kV ZI pm ZG ct}(l:K.lookup f=aA ⟨oc,od,.func<|kr x qual (Oe st) (W6 st) (Yk st) .none kV ZI pm an ZG ct,ZM⟩)(c:tu K ZG qual=aC)(k:lg K (.ref f)=aC):Fun K x qual st f<|kr x qual (Oe st) (W6 st) (Yk st) .none kV ZI pm an ZG ct:=⟨⟨oc,od,kV,ZI,pm,an,ZG,ct,ZM,rfl,l,c⟩,k⟩
end
theorem Pw(a:dU k A):A.units+1<cLine:=v7 (Nat.add_le_add_left (by decide:1<=64) _) a.units
def Zm(H H':Hp):Prop:=∀b o,H b=aA o->H' b=aA o
theorem Zm.refl(H):Zm H H:=λ_ _ h=>h
theorem Zm.trans(a:Zm H H1)(b:Zm H1 H2):Zm H H2:=λc o h=>b c o<|a c o h
theorem Zm.free(e:Zm H H')(h:H' l=HS):H l=Option.none:=by
 cases q:H l with
 |none=>rfl
 |some o=>rw[e l o q]at h;cases h
theorem PE.imp(h:PE X e t)(w:∀σ H Q,t' σ H Q->t σ H Q):PE X e t':=λdG s σ H Q I q=>h dG s σ H Q I<|w σ H Q q
theorem PT.imp(h:PT X e t)(w:∀σ H Q,t' σ H Q->t σ H Q):PT X e t':=λdG s σ H Q I q=>h dG s σ H Q I<|w σ H Q q
theorem PW.imp(h:PW X e t)(w:∀σ H Q,t' σ H Q->t σ H Q):PW X e t':=λa dG s σ H Q I q=>h a dG s σ H Q I<|w σ H Q q
theorem PA.imp(h:PA X e t)(w:∀σ H Q,t' σ H Q->t σ H Q):PA X e t':=λpos dG s σ H Q I q=>h pos dG s σ H Q I<|w σ H Q q
theorem PS.imp(h:PS X e t)(w:∀D σ H,t' D σ H->t D σ H):PS X e t':=λdG s σ H D I q=>h dG s σ H D I<|w D σ H q
theorem Ma.imp(h:Ma X e t)(w:∀D σ H,t' D σ H->t D σ H):Ma X e t':=λdG s σ H D I q=>h dG s σ H D I<|w D σ H q
theorem PG.imp(h:PG X e t)(w:∀v σ H Q,t' v σ H Q->t v σ H Q):PG X e t':=λdG s σ H v u Q I r q=>h dG s σ H v u Q I r<|w v σ H Q q
theorem PGs.imp(h:PGs X e t)(w:∀v σ H Q,t' v σ H Q->t v σ H Q):PGs X e t':=λdG s σ H vs us Q I r q=>h dG s σ H vs us Q I r<|w vs σ H Q q
theorem PI.imp(h:PI X tg e t)(w:∀σ H R,t' σ H R->t σ H R):PI X tg e t':=λdG s σ H R I q=>h dG s σ H R I<|w σ H R q
noncomputable def Fq(cells:List<|Str×aq):List (Str×ja)->List (Str×aq)->List (Str×aq)
 | [],cs=>cs
 | (n,k)::r,cs=>Fq cells r (if k= .free then(n,(cells.lookup n).getD 0)::cs else cs)
theorem M9:∀names cs,(∀y∈names,y.2= .free->∃c,(Env.cells env).lookup y.1=aA c)->
    (forIn names cs (λx r=>if(x.2==ia)=aC then do let a<-CI env x.1;jh (jy ((x.1,a)::r))else jh<|jy r):Sem<|À (Str×aq))=jh (Fq env.cells names cs)
  | [],cs,_=>by rw[vh];rfl
  | (n,k)::r,cs,h=>by
    rw[po];by_cases f:k= .free
    · obtain⟨c,l⟩:=h (n,k) ac f
      subst f;have o:CI env n=jh c:=by unfold CI;rw[l]
      show((if(ia==ia)=aC then(CI env n >>=λa=>jh<|jy ((n,a)::cs))else jh<|jy cs) >>=λs=>_)=_;rw[dZ (show(ia==ia)=aC by decide),o];show(forIn r ((n,c)::cs) _:Sem<|À (Str×aq))=_;rw[M9 r _ λy j=>h y<|ag _ j];show _=jh (Fq env.cells r (if ia=ia then(n,(env.cells.lookup n).getD 0)::cs else cs));rw[dZ rfl,l];rfl
    · have m:(k==ia)=aE:=by simpa using f
      show((if(k==ia)=aC then(CI env n >>=λa=>jh<|jy ((n,a)::cs))else jh<|jy cs) >>=λs=>_)=_;rw[m,dY df];show(forIn r cs _:Sem<|À (Str×aq))=_;rw[M9 r _ λy j=>h y<|ag _ j];show _=jh (Fq env.cells r (if k=ia then _ else cs));rw[dY f]
theorem Mv(h:∀y∈scope.names,y.2= .free->∃c,(Env.cells env).lookup y.1=aA c):v4 scope env=jh (Fq env.cells scope.names []):=by simp only[v4];rw[M9 scope.names [] h];rfl
theorem Dr:∀{names:À (Str×ja)} {cs:À (Str×aq)},(∀y∈names,y.2= .free->∃c,cells.lookup y.1=aA c)->
    (cs.lookup x=aA c->cells.lookup x=aA c)->(Fq cells names cs).lookup x=aA c->cells.lookup x=aA c
  | [],_,_,h0,e=>h0 e
  | (n,k)::r,cs,h,h0,e=>by
    refine Dr (names:=r) (λy o=>h y<|ag _ o) ?_ e;intro a;by_cases l:k= .free
    · rw[dZ l]at a
      obtain⟨p,m⟩:=h (n,k) ac l;rw[m]at a;by_cases j:x==n
      · simp only[mv,j]at a
        cases a;have:x=n:=by simpa using j
        rw[this];exact m
      · have f:(x==n)=aE:=by simpa using j
        simp only[mv,f]at a;exact h0 a
    · rw[dY l]at a;exact h0 a
theorem Px:∀{names:À (Str×ja)} {cs:À (Str×aq)},(∃c,cs.lookup x=aA c)->∃c,(Fq cells names cs).lookup x=aA c
  | [],_,h=>h
  | (n,k)::r,cs,⟨c,h⟩=>by
    refine Px (names:=r) ?_;by_cases j:k= .free
    · rw[dZ j]
      by_cases f:x==n
      · exact⟨(cells.lookup n).getD 0,by simp only[mv,f]⟩
      · have a:(x==n)=aE:=by simpa using f
        exact⟨c,by simp only[mv,a];exact h⟩
    · rw[dY j];exact⟨c,h⟩
theorem Ad:∀{names:À (Str×ja)} {cs:À (Str×aq)},(x,ia)∈names->∃c,(Fq cells names cs).lookup x=aA c
  | [],_,h=>nomatch h
  | (n,k)::r,cs,h=>by
    rcases az.mp h with e|e
    · cases e
      refine Px (names:=r) ⟨(cells.lookup x).getD 0,?_⟩;rw[dZ rfl];simp
    · exact Ad (names:=r) e
noncomputable def rlF(env:Env):Str×ja->Str×NameKind:=λ(n,k)=>if(k==ia&&env.scope.kind== .function&&env.kindOf n==aA .cell)then(n,NameKind.cell)else(n,k)
theorem Xf(env p):(rlF env p).1=p.1:=by obtain⟨n,k⟩:=p;unfold rlF;dsimp only;split<;> rfl
theorem Bg{f:Str×ja->Str×ja}(h:∀p,(f p).1=p.1)(x):∀names:À (Str×ja),(names.map f).lookup x=(names.lookup x).map λk=>(f (x,k)).2
  | []=>rfl
  | (n,k)::r=>by
    have a:=Bg h x r;have e:f (n,k)=(n,(f (n,k)).2):=Prod.ext (h (n,k)) rfl;rw[cg,e,mv,mv];cases c:x==n with
    |true=>
      have:x=n:=by simpa using c
      subst this;rfl
    |false=>exact a
theorem Kw:∀{names:À (Str×ja)},names.lookup x=aA k->(x,k)∈names
  | [],h=>by simp at h
  | (n,k')::r,h=>by
    rw[mv]at h;cases a:x==n with
    |true=>
      rw[a]at h;have:x=n:=by simpa using a
      subst this;cases h;exact ac
    |false=>rw[a]at h;exact ag _<|Kw h
theorem C3{names:À (Str×ja)}(hn:∀y∈names,y.2≠.cell)(c:kk= .cell\/kk= .free)(h:(names.map<|rlF env).lookup x=aA kk):(x,ia)∈names:=by
 rw[Bg<|Xf env]at h;obtain⟨k,h1,h2⟩:=je.mp h;have a:=Kw h1;have f:k≠.cell:=hn _ a;by_cases hf:k= .free
 .subst hf;exact a
 .exfalso;have j:(k==ia)=aE:=by simpa using hf
  unfold rlF at h2;simp only[j,vn,j5,if_false]at h2;rcases c with e|e
  .exact f (h2.trans e)
  .exact hf (h2.trans e)
inductive BSrc where
 |own|cap (j:Nat)|acc
def PU(σ:St)(acc:aq):BSrc->Option V
 | .own=>aB
 | .cap j=>(σ[j]?).join
 | .acc=>aA<|.ref acc
def bSt(src:À BSrc)(σ:St)(acc:aq):St:=src.map<|PU σ acc
abbrev Cx.block(X:Cx)(N':À Str)(scope:n9)(C:aq)(s₀:au)(H₀:Hp)(ex:À aq):Cx:=
 {X with N:=N',e:=compEnvC scope (Fq X.e.cells scope.names []) C X.e,s₀:=s₀,H₀:=H₀,outer:=X.stack,stack:=X.stack,ex:=ex,fn:=λ_=>aE,pn:=[],xe:=λ_ _=>False}
structure CompScope(X:Cx)(N':À Str)(scope:n9)(src:À BSrc):Prop where
 kind:scope.kind= .function
 nocell:∀y∈scope.names,y.2≠.cell
 names:∀y∈scope.names,y.2= .local->scope.names.lookup y.1=aA .local
 free:∀y∈scope.names,y.2= .free->X.e.kindOf y.1=aA .cell\/X.e.kindOf y.1=aA .free
 len:src.length=N'.length
 cap:∀(k j:Nat) (x:Str),src[k]? =aA (.cap j)->N'[k]? =aA x->X.N[j]? =aA x/\(X.e.kindOf x=aA .cell\/X.e.kindOf x=aA .free)/\scope.names.lookup x=aA .free
 acc:∀(k:Nat) (x:Str),src[k]? =aA .acc->N'[k]? =aA x->scope.names.lookup x=aB
theorem Mk{names:À (Str×ja)}(h:names.lookup x=aB):(names.map<|rlF env).lookup x=aB:=by rw[Bg<|Xf env,h];rfl
theorem Ml{names:À (Str×ja)}(h:names.lookup x=aA .free):(names.map<|rlF env).lookup x=aA .cell\/(names.map<|rlF env).lookup x=aA .free:=by
 rw[Bg<|Xf env,h];unfold rlF;dsimp only[xx];split
 .exact .inl rfl
 .exact .inr rfl
section
variable{X:Cx}{N':À Str}{scope:n9}{src:À BSrc}{dG:À (aq×Obj)}{σ:St}{H:Hp}{s:au}{C acc:aq}{fp:À aq}
theorem Ds(S:CompScope X N' scope src)(I:dL X dG σ H s)(hC:C=s.heap.objs.size)(hf:∀b∈fp,Qy X dG H b)(XI:∀b∈fp,∃o,s.heap.get? b=aA o)(W:h1.Ns C λ_=>aB)(N:∀b o,s.heap.get? b=aA o->h1.get? b=aA o):
  dL (X.block N' scope C s H fp) [] (bSt src σ acc) H {s with heap:=h1,toks:=tk}:=by
 have P:∀y∈scope.names,y.2= .free->∃c,X.e.cells.lookup y.1=aA c:=λy hy e=>I.ok.has y.1<|S.free y hy e;have sub:∀x c,(Fq X.e.cells scope.names []).lookup x=aA c->X.e.cells.lookup x=aA c:=λx c e=>Dr P (λh=>by simp at h) e;have gt:∀b,b<s.heap.objs.size->b≠C:=λb B e=>by rw[e,hC]at B;exact g6 _ B
 refine⟨⟨I.ok.mod,S.kind,I.ok.glob,I.ok.blt,by rw[hC];exact cj _,λx y c h1 h2=>I.ok.inj x y c (sub x c h1)<|sub y c h2,λx A=>?_,λx c h=>dt h df,I.ok.hd,I.ok.frames,.inl rfl,λb B=>?_,I.bs,
  fg I.ok.bsz I.sz,λb o e B=>?_,λb B hs=>?_,I.stack,I.stkFree⟩,rfl,I.bare,Un.kept N,⟨_,W,λi x v e1 e2 e3=>?_⟩,λx c e=>?_,?_,λx c e=>I.freeC x c<|sub x c e,λp hp=>?_,I.hok.kept N,?_⟩
 .rcases A with A|A
  .exact Ad (C3 S.nocell (.inl rfl) A)
  .exact Ad (C3 S.nocell (.inr rfl) A)
 .obtain⟨f0,f1,f2,f3,f4,f5⟩:=hf b B;refine⟨?_,λx c e=>f4 x c<|sub x c e⟩;show b≠C;obtain⟨o,ho⟩:=XI b B;exact gt b<|cn ho
 .obtain⟨f0,f1,f2,f3,f4,f5⟩:=hf b B;rcases f3 with z|z
  .exact I.ok.noex b o e z
  .exact dt (dh (cn e)<|fg I.ok.bsz z) (g6 _)
 .obtain⟨f0,f1,f2,f3,f4,f5⟩:=hf b B;rcases az.mp (I.stkSub b hs)with z|z
  .exact f1 z
  .exact f2 z
 .have Z:∃q,src[i]? =aA q:=by
   cases q:src[i]? with
   |some q0=>exact⟨q0,rfl⟩
   |none=>have a:(bSt src σ acc)[i]? =aA (aA v):=e2;unfold bSt at a;rw[c8,q]at a;cases a
  obtain⟨q,R⟩:=Z;have a:(bSt src σ acc)[i]? =aA (aA v):=e2;unfold bSt at a;rw[c8,R]at a;have E:PU σ acc q=aA v:=h8.inj a;cases q with
  |own=>cases E
  |acc=>
   exfalso;have Y:=Mk (env:=X.e)<|S.acc i x R e1;have n:(vp scope X.e).names.lookup x=aB:=Y;have L:Vis (vp scope X.e) x:=e3;rcases L with z|z|z
   .rw[n]at z;cases z
   .rw[n]at z;cases z
   .rw[n]at z;cases z
  |cap j=>
   obtain⟨hj,w,zo⟩:=S.cap i j x R e1;have O:σ[j]? =aA (aA v):=by
    have J:(σ[j]?).join=aA v:=E;cases r:σ[j]? with
    |none=>rw[r]at J;cases J
    |some o=>rw[r]at J;cases o with
     |none=>cases J
     |some w'=>cases J;rfl
   obtain⟨m,hn,hl⟩:=I.loc;obtain⟨u,ru,l⟩:=hl j x v hj O (by rcases w with z|z;exact .inr<|.inl z;exact .inr<|.inr z);refine⟨u,ru,?_⟩;rcases l with⟨z,_⟩|⟨_,c,hc,K⟩
   .rcases w with y|y
    .rw[y]at z;cases z
    .rw[y]at z;cases z
   .have L:Vis (vp scope X.e) x:=e3;have fin:∀M,M= .cell\/M= .free->(vp scope X.e).names.lookup x=aA M->QD (X.block N' scope C s H fp).e h1 (λ_=>aB) x u:=λM g A=>by
     obtain⟨c',G⟩:=Ad (cells:=X.e.cells) (cs:=[])<|C3 S.nocell g A;have:=sub x c' G;rw[hc]at this;cases this;obtain⟨T,F,f⟩:=K;refine .inr ⟨?_,c,G,T,N c T F,f⟩;rcases g with y|y
     .subst y;exact .inl A
     .subst y;exact .inr A
    rcases L with z|z|z
    .exfalso;have z':(vp scope X.e).names.lookup x=aA .local:=z;rcases Ml (env:=X.e) zo with y|y
     .have Q:(vp scope X.e).names.lookup x=aA .cell:=y;rw[z']at Q;cases Q
     .have Q:(vp scope X.e).names.lookup x=aA .free:=y;rw[z']at Q;cases Q
    .exact fin .cell (.inl rfl) z
    .exact fin .free (.inr rfl) z
 .obtain⟨v,T,F,f⟩:=I.cell x c<|sub x c e;exact⟨v,T,N c T F,f⟩
 .show H C=aB;rw[hC];exact I.hok.fresh<|cj _
 .have U:p∈([]:À (aq×Obj)):=by simpa using hp
  exact nomatch U
 .show(bSt src σ acc).length=N'.length;unfold bSt;rw[aj];exact S.len
def UL(src:À BSrc)(j:TI)(g:TG)(tt:TT)(te:TE):TE:=λσ H Q=>j σ H λJ H1=>∀acc,H1 acc=aB->
 ∃W:Nat->Nat->St->Hp->Prop,(∃m,W 0 m (bSt src σ acc)<|upd H1 acc<|.lst [])/\∀i m c H,W i m c H->(J.stop i H/\Q (.ref acc) H)\/
  (J.go i H/\∀x H',J.yld i H x H'->g x c H' λa H2=>tt a H2 λb h=>if b=aC then te a h λy n=>Be (.ref acc) [y] n λ_ l=>∃f,f<m/\W (i+1) f a l else∃f,f<m/\W (i+1) f a h)
def PTs(X:Cx)(a:À dz)(t:TT):Prop:=
 ∀(dG:À (aq×Obj)) (s:au) (σ:St) (H:Hp) (Q:Bool->Hp->Prop),dL X dG σ H s->t σ H Q->
  de (dw X.p X.w) X.A (forIn a aC λc r=>if r=aC then do let ok<-isTrue c X.e (oz c X.e);jh (jy ok)else jh<|jy r) (TP X dG σ Q) X.xe s
theorem jD{acc:am}(I:Nat->au->Prop)(turn:∀n s,I n s->de (dw prog w) A (qr it) (λr i=>match r with
   |none=>R (.ok .next) i
   |some v=>de (dw prog w) A (rh target it v) (λ_ N=>de (dw prog w) A (AB target env v) (λ_ M=>
     de (dw prog w) A (forIn ifs aC λc r=>if r=aC then do let ok<-isTrue c env (oz c env);jh (jy ok)else jh<|jy r) (λok g=>if ok=aC then de (dw prog w) A (oz elt env) (λx J=>
      de (dw prog w) A (call (.builtin "list.append") [acc,x]) (λ_ G=>∃m,m<n/\I m G) (λ_ _=>False) J) (λ_ _=>False) g
      else∃m,m<n/\I m g) (λ_ _=>False) M)
     (λ_ _=>False) N) (λ_ _=>False) i) (λ_ _=>False) s)(n)(h:I n s):rj (dw prog w) A (.compLoop (.ListComp elt [⟨target,iter,ifs,0⟩] scope pos) 0 it acc env) R s:=by
 refine codeAny_loop rfl I (λn s y=>?_) n h;show de _ A ((compTurn (.ListComp elt [⟨target,iter,ifs,0⟩] scope pos) 0 it acc env).onRaise (λx=>do yp x env;theTreesLotGoes x)) _ _ s;refine wpAny_noted ?_;rw[compTurn_list];refine af<|FY<|af<|ij (turn n s y) (λr i j=>?_) λ_ _ f=>f.elim;cases r with
 |none=>exact ay j
 |some v=>
  refine af<|ij j (λ_ N l=>?_) λ_ _ f=>f.elim;refine af<|ij l (λ_ M q=>?_) λ_ _ f=>f.elim;refine af<|ij q (λu g a=>?_) λ_ _ f=>f.elim;cases u with
  |false=>exact ay ⟨rfl,a⟩
  |true=>exact af<|af<|ij a (λx J p=>af<|ij p (λ_ G o=>ay<|ay ⟨rfl,o⟩) λ_ _ f=>f.elim) λ_ _ f=>f.elim
theorem Kx{Q:VK}{RR:am->aq->CQ->au->Prop}(hc:X.calm=aC)(S:CompScope X N' scope src)(hg:∀C N O ex,PG (X.block N' scope C N O ex) tg g)(ht:∀C N O ex,PTs (X.block N' scope C N O ex) ifs tt)(he:∀C N O ex,PE (X.block N' scope C N O ex) elt te)(I:dL X dG σ H s)(T:Turn X.p X.w X.K tg J fp it tn)(st:tn 0 s.heap)(hf:∀b∈fp,Qy X dG H b)(q:∀acc,H acc=aB->∃W:Nat->Nat->St->Hp->Prop,(∃m,W 0 m (bSt src σ acc)<|upd H acc<|.lst [])/\∀i m G H,W i m G H->(J.stop i H/\Q (.ref acc) H)\/
   (J.go i H/\∀x H',J.yld i H x H'->g x G H' λU H2=>tt U H2 λb H3=>if b=aC then te U H3 λy H4=>Be (.ref acc) [y] H4 λ_ H5=>∃R,R<m/\W (i+1) R U H5 else∃R,R<m/\W (i+1) R U H3))(z9:∀acc C s' H' m,dL X dG σ H' s'->Q (.ref acc) H'->s'.heap.Ns C m->H' C=aB->C≠X.e.locals->X.s₀.heap.objs.size<=C->(∀x c,X.e.cells.lookup x=aA c->c≠C)->(∀p∈X.pn++dG,p.1≠C)->
   RR (.ref acc) C (.ok .next) s'):
  de (dw X.p X.w) X.A (GT []) (λacc M=>de (dw X.p X.w) X.A (newFunctionEnv scope X.e.globals (Fq X.e.cells scope.names []) [] X.e.qual aB .none<|aA X.e) (λYI WL=>
   rj (dw X.p X.w) X.A (.compStart (.ListComp elt [⟨tg,iter,ifs,0⟩] scope pos) 0 (.ref it) acc {YI with scope:=vp scope X.e}) (RR acc YI.locals) WL) E M) E s:=by
 have XI:∀b∈fp,∃o,s.heap.get? b=aA o:=λb h=>let⟨o,e,_⟩:=T.obj 0 _ st b h;⟨o,e⟩
 refine nw<|AZ S.nocell (by intro y hy;simp at hy) (λF l j=>?_) S.kind;dsimp only at l j⊢;have W':H s.heap.objs.size=aB:=I.hok.fresh<|cj _;have I3:dL X dG σ (upd H s.heap.objs.size<|.lst []) {s with heap:=s.heap.push {cls:=.type "list",dict:=aB,data:=.seq ([]:À am).toArray}}:=I.lnew (t':=s.toks) (dI:=[]) (ys:=[]) .nil<|gr _;have P:∀b∈fp,Qy X dG (upd H s.heap.objs.size<|.lst []) b:=λb h=>by obtain⟨f0,f⟩:=hf b h;obtain⟨o,ho⟩:=XI b h;exact⟨by rw[Zs<|eh<|cn ho];exact f0,f⟩
 have Y:∀b∈fp,∃o,(s.heap.push {cls:=.type "list",dict:=aB,data:=.seq ([]:À am).toArray}).get? b=aA o:=λb h=>let⟨o,e⟩:=XI b h;⟨o,aw _ e⟩
 obtain⟨W,⟨m0,w0⟩,turn⟩:=q _ W';generalize hH2:s.heap.push {cls:=.type "list",dict:=aB,data:=.seq ([]:À am).toArray}=H2 at l j I3 Y⊢;have keep:∀b o,H2.get? b=aA o->F.get? b=aA o:=λb o e=>j.extBut b o (eh<|cn e)<|aw _ e;have J0:=Ds (N':=N') (scope:=scope) (src:=src) (acc:=s.heap.objs.size) (tk:=s.toks+([]:À (Str×am)).length) (C:=H2.objs.size) S I3 rfl P Y (show F.Ns H2.objs.size (λ_=>aB)from l) keep;have SE:tn 0 F:=T.keep 0 s.heap F st λb h o e=>keep b o (by rw[<-hH2];exact aw _ e);have cne:H2.objs.size≠X.e.locals:=ku I3.lt;have yK:X.s₀.heap.objs.size<=H2.objs.size:=I3.sz;have YJ:∀x c,X.e.cells.lookup x=aA c->c≠H2.objs.size:=λx c e z=>by obtain⟨v,oc,zU,_⟩:=I3.cell x c e;exact dt (cn zU) (by rw[z];exact g6 _)
 have VC:∀p∈X.pn++dG,p.1≠H2.objs.size:=λp hp z=>dt (cn (I3.pin p hp).1) (by rw[z];exact g6 _);have Z:∀M:au,M={s with heap:=F,toks:=s.toks+([]:À (Str×am)).length}->
   rj (dw X.p X.w) X.A (.compLoop (.ListComp elt [⟨tg,iter,ifs,0⟩] scope pos) 0 (.ref it) (.ref s.heap.objs.size)<|compEnvC scope (Fq X.e.cells scope.names []) H2.objs.size X.e) (RR (.ref s.heap.objs.size) H2.objs.size) M:=by
  rintro M rfl;refine jD (λn s'=>∃i G H',dL (X.block N' scope H2.objs.size {s with heap:=H2} (upd H s.heap.objs.size<|.lst []) fp) [] G H' s'/\tn i s'.heap/\(∀b∈fp,H' b=aB)/\W i n G H') ?_ m0 ⟨0,_,_,J0,SE,λb h=>(P b h).1,w0⟩;rintro n s4 ⟨i,L,H4,J4,st4,fr4,w4⟩;have VA:∀{H':Hp},(∀b∈fp,H' b=aB)->∀b∈fp,Qy (X.block N' scope H2.objs.size {s with heap:=H2} (upd H s.heap.objs.size<|.lst []) fp) [] H' b:=fun{H'} hn b h=>by
   obtain⟨f0,f1,f2,f3,f4,f5⟩:=P b h;refine⟨hn b h,?_,λz=>J4.ok.exfs b h z,.inl h,λx c e=>(J4.ok.exf b h).2 x c e,λp hp=>?_⟩
   .exact(J4.ok.exf b h).1
   .have zS:p∈([]:À (aq×Obj)):=by simpa using hp
    exact nomatch zS
  rcases turn i n L H4 w4 with⟨stop,qn⟩|⟨go,step⟩
  .refine Wy (T.done (X.block N' scope H2.objs.size {s with heap:=H2} (upd H s.heap.objs.size<|.lst []) fp) rfl rfl rfl hc i [] s4 L H4 _ J4 (VA fr4) st4 stop) λr s5 a=>?_;obtain⟨hr,J5⟩:=a;subst hr;obtain⟨m5,zX,_⟩:=J5.loc;have I5:dL X dG σ H4 s5:=I3.call' (ch:=fp) J5.os J5.base J5.hok J5.bare λb h=>by obtain⟨f0,f1,f2,f3,f4,f5⟩:=P b h;exact⟨f3,f1,f4,f5⟩
   exact z9 _ _ s5 H4 m5 I5 qn zX J5.free cne yK YJ VC
  .refine Wy (T.item (X.block N' scope H2.objs.size {s with heap:=H2} (upd H s.heap.objs.size<|.lst []) fp) rfl rfl rfl hc i [] s4 L H4 _ J4 (VA fr4) st4 go) λr s5 a=>?_;obtain⟨u,hr,h5⟩:=a;subst hr;refine Wy h5 λ_ s6 a=>?_;refine Wv λ_ zk=>?_;obtain⟨x,H6,J6,r6,y6,WM,yD⟩:=a;apply zk;have J6':=J6.pinned (VA yD)<|T.obj _ _ WM;have again:∀{B:St} {H7:Hp} {s7:au},dL (X.block N' scope H2.objs.size {s with heap:=H2} (upd H s.heap.objs.size<|.lst []) fp) ([]++Kp fp s6.heap) B H7 s7->(∃R,R<n/\W (i+1) R B H7)->
     ∃m,m<n/\∃i G H',dL (X.block N' scope H2.objs.size {s with heap:=H2} (upd H s.heap.objs.size<|.lst []) fp) [] G H' s7/\tn i s7.heap/\(∀b∈fp,H' b=aB)/\W i m G H':=fun{B H7 s7} J7 ⟨R,hm,w7⟩=>by
    refine⟨R,hm,i+1,B,H7,J7.unpinned,T.keep _ _ _ WM λb h o e=>(J7.pin (b,o)<|di _<|di _<|C0 h e).1,λb h=>?_,w7⟩;obtain⟨o,e,d⟩:=T.obj _ _ WM b h;exact(J7.pin (b,o)<|di _<|di _<|C0 h e).2.1
   refine Wy (hg _ _ _ _ _ s6 L H6 x u _ J6' r6<|step x H6 y6) λ_ s7 a=>?_;obtain⟨B,H7,J7,q7⟩:=a;refine Wy (ht _ _ _ _ _ s7 B H7 _ J7 q7) λb s8 a=>?_;obtain⟨H8,J8,q8⟩:=a;cases b with
   |false=>rw[dY df]at q8⊢;exact again J8 q8
   |true=>rw[dZ rfl]at q8⊢;refine Wy (he _ _ _ _ _ s8 B H8 _ J8 q8) λy s9 a=>?_;obtain⟨vy,H9,J9,r9,q9⟩:=a;refine Wy (Oo _ s9 B H9 (.ref s.heap.objs.size) [vy] (.ref s.heap.objs.size) [y] _ J9 rfl (.cons r9 .nil) q9) λ_ fK ⟨_,H10,J10,_,q10⟩=>again J10 q10
 exact codeAny_compStart_list (Z _ rfl)<|T.self X.A 0 _ _ _ SE<|Z _ rfl
theorem oF(z:X.calm=aC)(S:CompScope X N' scope src)(r:PI X tg iter wi)(u:∀C i G ex,PG (X.block N' scope C i G ex) tg g)(p:∀C i G ex,PTs (X.block N' scope C i G ex) ifs tt)(w:∀C i G ex,PE (X.block N' scope C i G ex) elt te)(hs:‹∀x,md iter X.e x=jh x›):PE X (.ListComp elt [⟨tg,iter,ifs,0⟩] scope pos)<|UL src wi g tt te:=by
 intro dG s σ H Q I h;rw[eval_ListComp];refine yh (use:=aB) rfl hs (Mv λy n e=>I.ok.has y.1<|S.free y n e) S.kind S.names (Wy (r dG s σ H _ I h) λv R h1=>Wy h1 λl O h2=>?_);refine Wv λ_ f=>?_;obtain⟨it,fp,N,J,H2,e,Z,T,a,E,q⟩:=h2;apply f;subst e;refine Kx z S u p w Z T a E q λacc C s' H' m M j hn B P L K F=>⟨m,hn,λh' c=>?_⟩
 exact⟨.ref acc,H',M.turned (t':=s'.toks) (λb o A e=>(c.2 b A).trans e) B P (.inr L) K F,rfl,j⟩
theorem Ky(hc:X.calm=aC)(S:CompScope X N' scope src)(U:PI X tg iter wi)(W:∀C G M ex,PG (X.block N' scope C G M ex) tg g)(O:∀C G M ex,PTs (X.block N' scope C G M ex) ifs tt)(Y:∀C G M ex,PE (X.block N' scope C G M ex) elt te)(hN:X.N.Nodup)(p:X.N[i]? =aA y)(B:X.e.scope.names.lookup y=aA .local)(j:i6 (.ListComp elt [⟨tg,iter,ifs,0⟩] scope pos) (aA<|.Name y py) spos.line X.e=jh aC)(hs:‹∀x,md iter X.e x=jh x›):PS X (.Assign [.Name y py] (.ListComp elt [⟨tg,iter,ifs,0⟩] scope pos) spos)<|XA (UL src wi g tt te)<|Ko i:=by
 intro dG s σ H D I h;rw[exec_Assign_Name_used _ _ _ _ j];refine af<|FY<|af ?_;show de _ X.A (do let _<-comprehension (.ListComp elt [⟨tg,iter,ifs,0⟩] scope pos) scope X.e _ (GT []) aE (oz iter X.e) (aA<|AB (.Name y py) X.e)) _ _ s;refine af (ij (yh (use:=aA<|AB (.Name y py) X.e) (Q:=λ_ s'=>SP X dG D .next s') rfl hs (Mv λy Z e=>I.ok.has y.1<|S.free y Z e) S.kind S.names
  (Wy (U dG s σ H _ I h) λv s1 h1=>Wy h1 λP s2 h2=>?_)) (λ_ s' R=>ay<|ay R) λ_ _ e=>e)
 refine Wv λ_ K=>?_;obtain⟨it,fp,tn,J,H2,e,I2,T,c,f2,q⟩:=h2;apply K;subst e;refine Kx (Q:=λx H1=>Ko i x σ H1 D.nx) hc S W O Y I2 T c f2 q λacc C s' H' m I' L hn hC F c2 E c4=>?_;refine DG<|Pn I' hN p (.inl B) (v:=.ref acc) (u:=.ref acc) rfl (λf w ⟨a,l,ha⟩=>?_) (.inr B);have r:C≠a:=by
  rcases ha with z|z
  .rw[z];exact F
  .exact Ne.symm (E _ _ z)
 refine⟨m,hn.sameBut l r,λh' n=>?_⟩;exact⟨_,H',w.turned (t':=f.toks) (λb o hb e=>(n.2 b hb).trans e) hC F (.inr c2) E c4,L⟩
end
structure Raised(h:ie)(e:aq)(cls:am)(dx tb:Á aq):Prop where
 obj:∃oe vs,h.get? e=aA oe/\oe.cls=cls/\oe.dict=dx/\oe.data= .fields vs/\vs[1]? =aA (match tb with|none=>.none|some T=>.ref T)
 tr:∀T,tb=aA T->T≠e/\∃oT ts fl,h.get? T=aA oT/\oT.data= .fields ts/\ts[3]? =aA fl
noncomputable def VL:Option aq->List aq
 |none=>[]
 |some T=>[T]
structure Noted(l:À aq)(h h':ie)(e:aq)(cls:am)(dx tb:Á aq)(T:aq):Prop where
 keep:∀b o,b≠e->b∉VL tb->b∉l->h.get? b=aA o->h'.get? b=aA o
 slot:∀b o,b∈l->h.get? b=aA o->∃sl,h'.get? b=aA {o with slots:=sl}
 new:h.get? T=aB\/aA T=tb
 r:Raised h' e cls dx<|aA T
theorem lY(o:Obj)(f):(o.mapFields f).dict=o.dict:=by obtain⟨c,d,a,h⟩:=o;cases a<;> rfl
theorem Py(hf:A.frames=aA (env::outer))(x:s.heap.FunFrames base (env::outer))(w:env.frame=aA L)(h1:s.heap.get? e=aA oe)(n:oe.data= .fields vs)(hz:1<vs.size)(v:e∉Re (env::outer))(h:∀h' T,(∀b o,b≠e->b∉Re (env::outer)->s.heap.get? b=aA o->h'.get? b=aA o)->(∀b o,b≠e->b∈Re (env::outer)->s.heap.get? b=aA o->∃i,h'.get? b=aA {o with slots:=i})->s.heap.get? T=aB->T≠e->
   h'.get? e=aA (oe.mapFields (·.setIfInBounds 1 (.ref T)))->(∃I G fl,h'.get? T=aA I/\I.data= .fields G/\G[3]? =aA fl)->Q () {s with heap:=h'}):
  de M A (do let a<-frameOf env;let g<-entryPlaceOf L hadNext;let b<-EntryCells.newEntry head a .none (j4 L) .none g;FJ (.ref e) 1 b) Q E s:=by
 refine af<|wpAny_frameOf_fun hf x w λg1 c=>af<|wpAny_entryPlaceOf λg u=>?_;have j:g1.get? e=aA oe:=(c.2.1 e v).trans h1;refine af<|nw (se (aw _ j) n hz ?_)<|u.sizeOk5 _ _ _ _ _;have l:g1.objs.size≠e:=ku<|cn j;have m:∀b o,b≠e->g1.get? b=aA o->((g1.push {cls:=.type "traceback",dict:=aB,data:=.fields ([head,.ref L,.none,j4 L,.none]++(if g.isEmpty then ir 6 ik else g)).toArray}).update e (uh (·.setIfInBounds 1 (g0 g1.objs.size)))).get? b=aA o:=λb o f q=>by rw[kz _ _<|Ne.symm f];exact aw _ q
 refine h _ g1.objs.size (λb o f r q=>m b o f<|(c.2.1 b r).trans q) (λb o f y q=>?_) (rg (by rw[c.1];exact cj _)) l ?_ ?_
 .obtain⟨i,p⟩:=c.2.2 b o q;exact⟨i,m b _ f p⟩
 .exact lq _ (aw _ j) (u8<|m6 n _)
 .refine⟨_,_,j4 L,(kz _ _<|Ne.symm l).trans<|dn g1 rfl,rfl,?_⟩;simp
theorem Dt(hf:A.frames=aA (env::outer))(C:s.heap.FunFrames base (env::outer))(B:env.frame=aA L)(r:Raised s.heap e cls dx tb)(h:∀h' T,Noted (Re (env::outer)) s.heap h' e cls dx tb T->Q () {s with heap:=h'}):de M A (yp (.ref e) env) Q E s:=by
 obtain⟨l,vs,h1,h2,hd,n,P⟩:=r.obj;have c:∀b o ws,s.heap.get? b=aA o->o.data= .fields ws->b∉Re (env::outer):=λb o ws q g N=>by obtain⟨_,o',K,i⟩:=C.mem N;rw[q]at K;cases K;exact i ws g
 have v:=c e l vs h1 n;have hz:1<vs.size:=(tz.mp P).1;have f:∀(h':ie) (T:aq),h'.get? e=aA (l.mapFields (·.setIfInBounds 1 (.ref T)))->∃l vs,h'.get? e=aA l/\l.cls=cls/\l.dict=dx/\l.data= .fields vs/\vs[1]? =aA (.ref T):=λh' T q=>
  ⟨_,_,q,(DN _ _).trans h2,(lY _ _).trans hd,m6 n _,by simp[hz]⟩
 unfold yp;simp only[B];refine af<|ny h1 n P ?_;cases tb with
 |none=>exact Py hf C B h1 n hz v λh' T k1 k2 k3 k4 k5 k6=>h h' T ⟨λb o y _ x q=>k1 b o y x q,λb o j q=>k2 b o (λz=>v<|z▸j) j q,.inl k3,f h' T k5,λR z=>by cases z;exact⟨k4,k6⟩⟩
 |some T0=>
  refine Wv λ_ X=>?_;obtain⟨Z,G,F,fl,u,p,H⟩:=r.tr T0 rfl;apply X;have O:=c T0 G F u p;refine af<|ny u p H ?_;by_cases m:(fl==j4 L)=aC
  .rw[dZ m];exact ay<|h s.heap T0 ⟨λ_ _ _ _ _ q=>q,λb o _ q=>⟨o.slots,q⟩,.inr rfl,r⟩
  .rw[dY m];have a:∀b,b≠T0->(s.heap.update T0 (uh (·.setIfInBounds 3 ik))).get? b=s.heap.get? b:=λb j=>kz _ _<|Ne.symm j;have w:=(tz.mp H).1;refine af<|se u p w<|Py (base:=base) hf (C.of_keeps λb o q I=>⟨o,(a b λz=>I F (by rw[z,u]at q;cases q;exact p)).trans q,rfl⟩) B ((a e<|Ne.symm Z).trans h1) n hz v λh' T k1 k2 k3 k4 k5 k6=>?_;refine h h' T ⟨λb o y J x q=>k1 b o y x<|(a b λz=>J Γb).trans q,λb o j q=>k2 b o (λz=>v<|z▸j) j<|(a b λz=>O<|z▸j).trans q,?_,f h' T k5,λR z=>by cases z;exact⟨k4,k6⟩⟩;by_cases z:T=T0
   .exact .inr (by rw[z])
   .exact .inl ((a T z).symm.trans k3)
theorem Ta(r:Raised s.heap e cls dx<|aA T)(hn:∀b o ws,s.heap.get? b=aA o->o.data= .fields ws->b∉l)(h:∀h',Noted l s.heap h' e cls dx (aA T) T->Q () {s with heap:=h'}):de M A (EE (.ref e) fr) Q E s:=by
 obtain⟨y,vs,h1,h2,hd,v,u⟩:=r.obj;obtain⟨p,B,w,fl,m,j,x⟩:=r.tr T rfl;have c:=(tz.mp x).1;refine af<|ny h1 v u ?_;have a:∀b,b≠T->(s.heap.update T (uh (·.setIfInBounds 3 (fr.elim .none λf=>j4 f)))).get? b=s.heap.get? b:=λb n=>kz _ _<|Ne.symm n;refine se m j c<|h _ ⟨λb o H C F q=>(a b λz=>C Γb).trans q,λb o n q=>⟨o.slots,(a b λz=>hn T B w m j<|z▸n).trans q⟩,.inr rfl,⟨y,vs,(a e<|Ne.symm p).trans h1,h2,hd,v,u⟩,λK z=>?_⟩;cases z;exact⟨p,_,_,fr.elim .none λf=>j4 f,lq _ m<|u8<|m6 j _,m6 j _,by simp[c]⟩
theorem Noted.trans(a:Noted l h h1 e cls dx tb T)(b:Noted l h1 h2 e cls dx (aA T) T')(H:T∉l)(E:∀T0,tb=aA T0->h.get? T=aB\/T=T0):Noted l h h2 e cls dx tb T':=by
 have C:∀b o,b∉VL tb->h.get? b=aA o->b≠T:=λb o n q z=>by
  rcases a.new with k|k
  .rw[z,k]at q;cases q
  .rw[<-k]at n;exact n Γb
 refine⟨λc o s p m q=>b.keep c o s (λz=>C c o p q<|ao.mp z) m<|a.keep c o s p m q,λc o x q=>?_,?_,b.r⟩
 .obtain⟨A,f⟩:=a.slot c o x q;obtain⟨j,B⟩:=b.slot c _ x f;exact⟨j,B⟩
 .rcases b.new with k|k
  .by_cases u:aA T'=tb
   .exact .inr u
   .refine .inl ?_;cases z:h.get? T' with
    |none=>rfl
    |some o=>
     exfalso;by_cases v:T'∈l
     .obtain⟨A,f⟩:=a.slot T' o v z;rw[k]at f;cases f
     .by_cases w:T'=e
      .obtain⟨F,vs,f,_⟩:=a.r.obj;rw[<-w,k]at f;cases f
      .have:=a.keep T' o w (λy=>u (by cases tb with
        |none=>cases y
        |some T0=>rw[ao.mp y])) v z
       rw[k]at this;cases this
  .cases k;rcases a.new with k|k
   .exact .inl k
   .exact .inr k
theorem Kz(hf:A.frames=aA (env::outer))(p:s.heap.FunFrames base (env::outer))(F:env.frame=aA L)(r:Raised s.heap e cls dx tb)(h:∀h' T,Noted (Re (env::outer)) s.heap h' e cls dx tb T->Q () {s with heap:=h'}):de M A (leaving env<|.ref e) Q E s:=by
 have n:∀b o ws,s.heap.get? b=aA o->o.data= .fields ws->b∉Re (env::outer):=λb o ws q l j=>by obtain⟨_,o',f,m⟩:=p.mem j;rw[q]at f;cases f;exact m ws l
 refine af<|Dt hf p F r λh1 u c=>?_;have a:∀b o ws,h1.get? b=aA o->o.data= .fields ws->b∉Re (env::outer):=λb o ws q l j=>by obtain⟨_,o',f,m⟩:=p.mem j;obtain⟨H,v⟩:=c.slot b o' j f;rw[q]at v;cases v;exact m ws l
 refine Ta (s:={s with heap:=h1}) c.r a λh2 C=>?_;obtain⟨_,B,w,fl,y,x,_⟩:=c.r.tr u rfl;exact h h2 u (c.trans C (a u B w y x) λT0 z=>by
  rcases c.new with k|k
  .exact .inl k
  .rw[z]at k;cases k;exact .inr rfl)
def Dg(P:eg)(w:gq):CXT:=λouter H s E e s'=>∃(a:aq) (c:am) (f:Á aq) (T:aq) (H':Hp),e= .ref a/\s'.os=s.os/\uc s'.gens/\Un (Re outer) [] H H' s.heap s'.heap/\Rc P w H' s'.heap/\
 Raised s'.heap a c f (aA T)/\s.heap.get? a=aB/\s.heap.get? T=aB/\H' a=aB/\H' T=aB/\E c f H'
def K0(X:Cx)(f:XK):Prop:=∀(dG:À (aq×Obj)) (σ:St) (H:Hp) (s:au) (e:aq) (a:am) (c tb:Á aq),dL X dG σ H s->Raised s.heap e a c tb->X.s₀.heap.get? e=aB->H e=aB->
 (∀T,tb=aA T->X.s₀.heap.get? T=aB/\H T=aB)->f a c H->X.xe (.ref e) s
theorem Wc.has:∀{o:HO},Wc P w H h a o->∃u,h.get? a=aA u:=by
 intro o;induction o with
 |lst xs=>intro⟨_,_,_,_,e⟩;exact⟨_,e⟩
 |tup xs=>intro⟨_,_,_,_,e,_⟩;exact⟨_,e⟩
 |dK kvs ep=>intro⟨_,_,_,_,o,_,e,_⟩;exact⟨_,e⟩
 |dT kvs ep bs=>intro⟨_,_,_,_,o,_,e,_⟩;exact⟨_,e⟩
 |set S n=>intro⟨o,_,_,_,e,_⟩;exact⟨_,e⟩
 |own y=>intro⟨_,e⟩;exact⟨_,e⟩
 |xd fs=>intro⟨_,⟨_,_,_,e,_⟩,_⟩;exact⟨_,e⟩
 |frz f u _=>intro⟨e,_⟩;exact⟨_,e⟩
 |tbl ps=>intro e;exact⟨_,(show h.get? a=aA _ from e)⟩
 |tab q=>intro⟨_,e,_⟩;exact⟨_,e⟩
 |ext c=>intro⟨_,⟨_,e⟩,_⟩;exact⟨_,e⟩
theorem Rc.gone(ok:Rc P w H h)(n:h.get? a=aB):H a=aB:=by
 cases e:H a with
 |none=>rfl
 |some o=>obtain⟨u,q⟩:=(ok a o e).has;rw[n]at q;cases q
theorem LZ(ok:Rc P w H h)(k:∀b o,H b≠aB->h.get? b=aA o->h'.get? b=aA o):Rc P w H h':=λa o e=>
 (ok a o e).stay (λb u c q=>k b u (by rcases c with c|c<;> rw[c]<;> simp[e]) q) (λ_ z=>z) λ_ _ z=>z
theorem Cj{K}:
  K0 (Rg (Dg P w) P w K mg base N qual scope f cd A outer s H E) E:=by
 intro dG σ H1 R e g dx tb I r Y p Z q;have hf:=I.ok.frames;have ff:=I.stack;have X:(Rg (Dg P w) P w K mg base N qual scope f cd A outer s H E).e.frame=aA (Rg (Dg P w) P w K mg base N qual scope f cd A outer s H E).e.locals:=by
  rcases I.ok.stk with z|z
  .have:=congrArg p9 z;exact dt this (by show outer.length+1≠outer.length;lia)
  .exact z.2
 have O:=I.stkFree;have u:s.heap.get? e=aB:=Y;have j:Un (Re outer) [] H H1 s.heap R.heap:=I.base;refine Kz hf ff X r λh' T B=>?_;obtain⟨k1,k2,k3,U⟩:=B;have v:s.heap.get? T=aB/\H1 T=aB:=by
  rcases k3 with k3|k3
  .refine⟨?_,I.hok.gone k3⟩;cases z:s.heap.get? T with
   |none=>rfl
   |some o=>obtain⟨o',i⟩:=j.there T o z Δ;rw[k3]at i;cases i
  .exact Z T k3.symm
 have m:∀b o,s.heap.get? b=aA o->b≠e/\b∉VL tb:=λb o a=>by
  refine⟨(λz=>by rw[z,u]at a;cases a),λz=>?_⟩;cases tb with
  |none=>cases z
  |some T0=>have:=(Z T0 rfl).1;rw[ao.mp z]at a;have l:s.heap.get? T0=aB:=this;rw[l]at a;cases a
 have Q:∀b o,s.heap.get? b=aA o->b∉Re outer->b∉Re ((Rg (Dg P w) P w K mg base N qual scope f cd A outer s H E).e::outer):=λb o a c G=>by
  unfold Re at G;rcases az.mp G with z|z
  .have:=I.ok.above;have h2:=cn a;rw[z]at h2;exact dt h2<|xz.mpr this
  .exact c z
 refine⟨e,g,dx,T,H1,rfl,I.os,I.bare,⟨λb o a n c h=>?_,λb o a n c h=>?_,λb o a n h=>j.free b o a n h,λb o a h=>?_,j.tups,j.frzs,j.tbls⟩,?_,U,u,v.1,p,v.2,q⟩
 .obtain⟨L,F⟩:=m b o a;exact k1 b o L F (Q b o a c)<|j.keep b o a n c h
 .obtain⟨M,y⟩:=j.slot b o a n c h;obtain⟨C,W⟩:=k2 b _ (by
   obtain⟨x,h,e⟩:=m9.mp c;exact m9.mpr ⟨x,ag _ h,e⟩) y
  exact⟨C,W⟩
 .obtain⟨o',y⟩:=j.there b o a h;obtain⟨L,F⟩:=m b o a;by_cases J:b∈Re ((Rg (Dg P w) P w K mg base N qual scope f cd A outer s H E).e::outer)
  .obtain⟨M,z⟩:=k2 b o' J y;exact⟨_,z⟩
  .exact⟨o',k1 b o' L F J y⟩
 .refine LZ I.hok λb o c a=>k1 b o (λz=>c (by rw[z];exact p)) (λz=>?_) (λz=>c<|O b z) a;cases tb with
  |none=>cases z
  |some T0=>exact c (by rw[ao.mp z];exact(Z T0 rfl).2)
abbrev VEB:À Value:=[.type "ValueError",.type "Exception",.type "BaseException",.type "object"]
def MC(a:XK)(C:aq)(t:TA):TS:=λ_ σ H=>t σ H λvs H1=>vs.length<=sizeLine/\a (.ref C) aB H1
theorem lX{np cpos pos}(E:K0 X EX)(J:X.calm=aC)(j:X.ex=[])(L:IH x C VEB "ValueError.__new__" X.mg X.base)(G:Gl X x)(O:PA X [a] t)(he:‹Se X a []›)(f:‹((qt cpos<|jv [a] X.e).any λx=>x.1)=aE›)(n:∃y g,qt cpos (jv [a] X.e)=(aE,y)::g:=by exact⟨_,_,rfl⟩)(l:∀h bm,OwnTail h VEB bm->bm.contains (.type "BaseException")=aC)(hd:‹Nd x›):PS X (.Raise (aA<|.Call (.Name x np) [a] [] cpos) aB pos)<|MC EX C t:=by
 intro dG s σ H D I h;refine Wv λ_ A=>?_;obtain⟨M,bm,N,nm,q,bs,hdct,sn,sub,ab,col,dd,k0,k1,k2,k3,k5,mN,Z,Q,P,u⟩:=L;apply A;refine wpAny_Raise_call_subU (C:=C) (Bn:="ValueError") (B:="ValueError") (nm:=nm) (q:=q) (N:=N) (bs:=bs) (bm:=bm) (hdct:=hdct) (sn:=sn) (sub:=sub) (ab:=ab) (col:=col) (dd:=dd) (k0:=k0) (k1:=k1) (k2:=k2) (k3:=k3) (k5:=k5) (mN:=mN) xw Γ xw (l _ _ u) (I.ok.hd J) f P ?_;refine T6 I G M ⟨rfl,?_⟩ hd;obtain⟨y,g,v⟩:=n;rw[v];refine vm ?_;rw[<-v];refine Wy (O cpos dG s σ H _ I h) λus r ⟨vs,H2,c,F,w,K⟩=>⟨rfl,(by rw[<-F.length];exact w),c.bk _ _ Z,Q.keeps c.bk,u.keeps c.bk,λh' e m=>?_⟩
 .obtain⟨T,i,Y,W⟩:=m.there;have U:dL X dG σ H2 {r with heap:=h'}:=c.kept (t':=r.toks) m.keeps;refine E dG σ H2 _ e (.ref C) aB aB U ⟨⟨_,_,i,rfl,rfl,rfl,rfl⟩,λR z=>nomatch z⟩ ?_ ?_ (λR z=>nomatch z) K
  .cases z:X.s₀.heap.get? e with
   |none=>rfl
   |some o=>obtain⟨o',p⟩:=c.base.there e o z (by rw[j];simp);rw[m.new]at p;cases p
  .exact Rc.gone c.hok m.new
abbrev EXT:=am->Á aq->St->Hp->Prop
def C4(X:Cx)(h:EXT):Prop:=∀(dG:À (aq×Obj)) (σ:St) (H:Hp) (s:au) (e:aq) (a:am) (f:Á aq) (T:aq),dL X dG σ H s->Raised s.heap e a f (aA T)->X.s₀.heap.get? e=aB->H e=aB->
 X.s₀.heap.get? T=aB->H T=aB->(∀p∈X.pn++dG,p.1≠e/\p.1≠T)->(e≠X.e.locals/\T≠X.e.locals)->(∀x c,X.e.cells.lookup x=aA c->c≠e/\c≠T)->h a f σ H->X.xe (.ref e) s
theorem K0.t(h:K0 X EX):C4 X λg od _ H=>EX g od H:=λdG σ H s e g f T I r h1 h2 c a _ _ _ q=>h dG σ H s e g f (aA T) I r h1 h2 (λj z=>by cases z;exact⟨c,a⟩) q
theorem oE(Q:C4 X EX)(L:X.ex=[]){σ:St}(I:dL X dG σ H s)(h:Dg X.p X.w X.stack H s (λg od H'=>EX g od σ H') e s'):X.xe e s':=by
 obtain⟨a,g,J,T,H',G,os,y,un,K,r,B,A,i,Z,q⟩:=h;subst G;have M:dL X dG σ H' s':=I.call' (ch:=[]) os un K y<|λb f=>nomatch f;have l:∀b,s.heap.get? b=aB->X.s₀.heap.get? b=aB:=λb f=>by
  cases z:X.s₀.heap.get? b with
  |none=>rfl
  |some o=>obtain⟨o',P⟩:=I.base.there b o z (by rw[L];simp);rw[f]at P;cases P
 have j:∀b,s.heap.get? b=aB->∀p∈X.pn++dG,p.1≠b:=λb f p C z=>by have:=(I.pin p C).1;rw[z,f]at this;cases this
 have n:∀b,s.heap.get? b=aB->b≠X.e.locals:=λb f z=>by obtain⟨m,⟨o,es,ep,E,_⟩,_⟩:=id I.loc;rw[z,E]at f;cases f
 have u:∀b,s.heap.get? b=aB->∀x c,X.e.cells.lookup x=aA c->c≠b:=λb f x c F z=>by obtain⟨v,o,E,_⟩:=I.cell x c F;rw[z,f]at E;cases E
 exact Q dG σ H' s' a g J T M r (l a B) i (l T A) Z (λp C=>⟨j a B p C,j T A p C⟩) ⟨n a B,n T A⟩ (λx c F=>⟨u a B x c F,u T A x c F⟩) q
def Du(X:Cx)(c:EXT):Prop:=∀(dG:À (aq×Obj)) (σ:St) (H:Hp) (s:au) (e:am) (s':au),dL X dG σ H s->Dg X.p X.w X.stack H s (λa od H'=>c a od σ H') e s'->X.xe e s'
theorem C4.pass(c:C4 X EX)(a:X.ex=[]):Du X EX:=λ_ _ _ _ _ _ I h=>oE c a I h
def sD(sp:Sp)(c:EXT)(t:TA):TE:=λσ H Q=>t σ H λvs H1=>sp vs H1 Q λa od H'=>c a od σ H'
theorem lW{p pos}(F:FnOk X.p X.w X.K X.mg X.base (Dg X.p X.w) k f fd ps sp)(y:dU k X.A)(E:Gl X x)(z:X.mg x=aA (.ref f))(C:lg X.K (.ref f)=aC)(P:T8 X.K fd ps [])(o:Du X EX)(T:PA X (e::es) t)(l:‹Nd x›)(L:‹Se X e es›)(j:‹Bk X pos es›):
  PE X (.Call (.Name x p) (e::es) [] pos) (sD sp EX t):=by
 intro dG s σ H Q I h;refine my<|T6 I E z ?_ l;refine CU (h₀:=X.base) I.ok.mod.kin C (Wy (T pos dG s σ H _ I h) λus m ⟨vs,H1,c,r,q⟩=>⟨c.kIn,?_⟩) L j;have B:(us++[]).length=ps.length:=by rw[iq,<-r.length];exact F.len _ _ _ _ q
 have n:=P m us c.kIn B;rw[iq]at n;refine BX<|wj (F.run X.A X.stack m H1 ⟨us,[]⟩ us vs Q _ y c.env0 n r q) λv s' a=>?_;cases v with
 |error e=>exact o _ _ _ _ _ _ c a
 |ok fl=>
  cases fl with
  |ret u=>exact c.after a
  |next=>exact ln a
  |brk=>exact ln a
  |cont=>exact ln a
structure Air(X:Cx)(dG:À (aq×Obj))(H:Hp)(s:au)(e:aq)(cls:am)(dx:Á aq)(T:aq):Prop where
 r:Raised s.heap e cls dx<|aA T
 e0:X.s₀.heap.get? e=aB
 eH:H e=aB
 t0:X.s₀.heap.get? T=aB
 tH:H T=aB
 pe:∀p∈X.pn++dG,p.1≠e/\p.1≠T
 le:e≠X.e.locals/\T≠X.e.locals
 ce:∀x c,X.e.cells.lookup x=aA c->c≠e/\c≠T
section
variable{σ:St}
theorem dL.air(I:dL X dG σ H s)(a:Air X dG H s e cls dx T)(P:X.ex=[])(k1:∀b o,b≠e->b≠T->b∉Re X.stack->s.heap.get? b=aA o->h'.get? b=aA o)(k2:∀b o,b∈Re X.stack->s.heap.get? b=aA o->∃g,h'.get? b=aA {o with slots:=g})(M:Raised h' e cls dx<|aA T')(f:s.heap.get? T'=aB\/T'=T):
  dL X dG σ H {s with heap:=h'}/\Air X dG H {s with heap:=h'} e cls dx T':=by
 have h:∀b o,X.s₀.heap.get? b=aA o->b≠e/\b≠T:=λb o q=>⟨(λz=>by rw[z,a.e0]at q;cases q),(λz=>by rw[z,a.t0]at q;cases q)⟩
 have N:∀b o,X.s₀.heap.get? b=aA o->b≠X.e.locals:=λb o q=>eh<|dh (cn q) I.ok.above;have F:∀b,b≠X.e.locals->b∉X.fs->b∉Re X.stack:=λb h1 h2 z=>(az.mp<|I.stkSub b z).elim h1 h2;have any:∀b o,b≠e->b≠T->s.heap.get? b=aA o->∃g,h'.get? b=aA {o with slots:=g}:=λb o R O q=>by
  by_cases w:b∈Re X.stack
  .exact k2 b o w q
  .exact⟨o.slots,k1 b o R O w q⟩
 have y:∀x c,X.e.cells.lookup x=aA c->∀v,s.heap.IsCell c v->h'.IsCell c v:=λx c j v ⟨o,A,hd⟩=>by obtain⟨g,q⟩:=any c o (a.ce x c j).1 (a.ce x c j).2 A;exact⟨_,q,hd⟩
 refine⟨⟨I.ok,I.os,I.bare,⟨λb o q n w K=>?_,λb o q n w K=>?_,I.base.free,λb o q K=>?_,I.base.tups,I.base.frzs,I.base.tbls⟩,?_,λx c j=>?_,I.free,I.freeC,λp B=>?_,?_,I.len⟩,⟨M,a.e0,a.eH,?_,?_,λp B=>⟨(a.pe p B).1,?_⟩,⟨a.le.1,?_⟩,λx c j=>⟨(a.ce x c j).1,?_⟩⟩⟩
 .exact k1 b o (h b o q).1 (h b o q).2 (F b (N b o q) w) (I.base.keep b o q n w K)
 .obtain⟨g,L⟩:=I.base.slot b o q n w K;obtain⟨C,E⟩:=any b _ (h b o q).1 (h b o q).2 L;exact⟨C,E⟩
 .obtain⟨o',L⟩:=I.base.there b o q K;obtain⟨C,E⟩:=any b _ (h b o q).1 (h b o q).2 L;exact⟨_,E⟩
 .refine Wv λ_ G=>?_;obtain⟨m,⟨o,es,ep,A,J⟩,U⟩:=I.loc;obtain⟨g,E⟩:=any _ o (Ne.symm a.le.1) (Ne.symm a.le.2) A;apply G;refine⟨m,⟨_,es,ep,E,J⟩,λi x v e1 Y W=>?_⟩;obtain⟨u,r,l⟩:=U i x v e1 Y W;refine⟨u,r,?_⟩;rcases l with l|⟨k,c,j,z⟩
  .exact .inl l
  .exact .inr ⟨k,c,j,y x c j _ z⟩
 .obtain⟨v,z⟩:=I.cell x c j;exact⟨v,y x c j v z⟩
 .obtain⟨q,n,Z,Q,d⟩:=I.pin p B;exact⟨k1 p.1 p.2 (a.pe p B).1 (a.pe p B).2 (F _ Z Q) q,n,Z,Q,d⟩
 .exact LZ I.hok λb o w q=>k1 b o (λz=>w (by rw[z];exact a.eH)) (λz=>w (by rw[z];exact a.tH)) (λz=>w<|I.stkFree b z) q
 .rcases f with f|f
  .cases z:X.s₀.heap.get? T' with
   |none=>rfl
   |some o=>obtain⟨o',q⟩:=I.base.there T' o z (by rw[P];simp);rw[f]at q;cases q
  .rw[f];exact a.t0
 .rcases f with f|f
  .exact I.hok.gone f
  .rw[f];exact a.tH
 .rcases f with f|f
  .intro z;have:=(I.pin p B).1;rw[z,f]at this;cases this
  .rw[f];exact(a.pe p B).2
 .rcases f with f|f
  .intro z;obtain⟨m,⟨o,es,ep,A,_⟩,_⟩:=I.loc;rw[<-z,f]at A;cases A
  .rw[f];exact a.le.2
 .rcases f with f|f
  .intro z;obtain⟨v,o,A,_⟩:=I.cell x c j;rw[z,f]at A;cases A
  .rw[f];exact(a.ce x c j).2
theorem dL.noted(I:dL X dG σ H s)(a:Air X dG H s e cls dx T)(c:X.ex=[])(n:Noted (Re X.stack) s.heap h' e cls dx (aA T) T'):dL X dG σ H {s with heap:=h'}/\Air X dG H {s with heap:=h'} e cls dx T':=
 I.air a c (λb o j h f q=>n.keep b o j (λz=>h<|ao.mp z) f q) n.slot n.r (by
  rcases n.new with k|k
  .exact .inl k
  .cases k;exact .inr rfl)
theorem Bz{Q:au->Prop}(I:dL X dG σ H s)(a:Air X dG H s e cls dx T)(f:X.ex=[])(y:A.frames=aA X.stack)(c:X.stack=X.e::X.outer)(l:X.e.frame=aA X.e.locals)(k:∀h' G,dL X dG σ H {s with heap:=h'}->Air X dG H {s with heap:=h'} e cls dx G->Q {s with heap:=h'}):
  de M A (yp (.ref e) X.e) (λ_ i=>de M A (EE (.ref e) aB) (λ_ g=>Q g) E i) E s/\de M A (EE (.ref e) aB) (λ_ g=>Q g) E s:=by
 have h:∀{σ:St} {H:Hp} {s:au},dL X dG σ H s->∀b o ws,s.heap.get? b=aA o->o.data= .fields ws->b∉Re X.stack:=fun{σ H s} I b o ws q qd hm=>by obtain⟨_,o',p,x⟩:=I.stack.mem hm;rw[q]at p;cases p;exact x ws qd
 constructor
 .have z:s.heap.FunFrames X.base (X.e::X.outer):=by rw[<-c];exact I.stack
  refine Dt (by rw[y,c]) z l a.r λh1 B u=>?_;rw[<-c]at u;obtain⟨w,v⟩:=I.noted a f u;refine Ta (s:={s with heap:=h1}) v.r (h w) λh2 j=>?_;obtain⟨n,m⟩:=w.noted v f j;exact k h2 B n m
 .refine Ta a.r (h I) λh2 j=>?_;obtain⟨n,m⟩:=I.noted a f j;exact k h2 T n m
end
noncomputable abbrev Cx.inTry(X:Cx)(pn:List<|aq×Obj)(xe:am->au->Prop):Cx:={X with pn:=pn,xe:=xe}
noncomputable abbrev Cx.inSuite(X:Cx)(a:aq):Cx:={X with A:=X.A.mark<|aA<|.ref a,calm:=aE,xe:=λ_ _=>False}
section
variable{X:Cx}{dG:À (aq×Obj)}{σ:St}{H:Hp}{s:au}{e T:aq}
theorem Cx.Ok.tryIn{xe:am->au->Prop}{pn}(k:X.Ok):(X.inTry pn xe).Ok:=⟨k.mod,k.kind,k.glob,k.blt,k.above,k.inj,k.has,k.cab,k.hd,k.frames,k.stk,k.exf,k.bs,k.bsz,k.noex,k.exfs,k.funs,k.frf⟩
theorem Cx.Ok.suiteIn(k:X.Ok):(X.inSuite e).Ok:=⟨k.mod,k.kind,k.glob,k.blt,k.above,k.inj,k.has,k.cab,(λh=>nomatch h),k.frames,k.stk,k.exf,k.bs,k.bsz,k.noex,k.exfs,k.funs,k.frf⟩
theorem dL.tryIn(I:dL X dG σ H s):dL (X.inTry (X.pn++dG) xe) [] σ H s:=⟨I.ok.tryIn,I.os,I.bare,I.base,I.loc,I.cell,I.free,I.freeC,(λp a=>I.pin p ν),I.hok,I.len⟩
theorem dL.tryOut(k:X.Ok)(I:dL (X.inTry (X.pn++dG) xe) pins' σ H s):dL X dG σ H s:=⟨k,I.os,I.bare,I.base,I.loc,I.cell,I.free,I.freeC,(λp a=>I.pin p<|dr _ a),I.hok,I.len⟩
theorem dL.suiteIn(I:dL X dG σ H s):dL (X.inSuite e) dG σ H s:=⟨I.ok.suiteIn,I.os,I.bare,I.base,I.loc,I.cell,I.free,I.freeC,I.pin,I.hok,I.len⟩
theorem dL.suiteOut(k:X.Ok)(I:dL (X.inSuite e) dG σ H s):dL X dG σ H s:=⟨k,I.os,I.bare,I.base,I.loc,I.cell,I.free,I.freeC,I.pin,I.hok,I.len⟩
theorem SP.out(k:X.Ok)(h:SP (X.inSuite e) dG D f s):SP X dG D f s:=by
 cases f with
 |next=>obtain⟨a,H',I,q⟩:=h;exact⟨a,H',I.suiteOut k,q⟩
 |brk=>obtain⟨a,H',I,q⟩:=h;exact⟨a,H',I.suiteOut k,q⟩
 |cont=>obtain⟨a,H',I,q⟩:=h;exact⟨a,H',I.suiteOut k,q⟩
 |ret u=>obtain⟨v,a,H',I,q⟩:=h;exact⟨v,a,H',I.suiteOut k,q⟩
theorem SP.outT(k:X.Ok)(h:SP (X.inTry (X.pn++dG) xe) [] D f s):SP X dG D f s:=by
 cases f with
 |next=>obtain⟨a,H',I,q⟩:=h;exact⟨a,H',I.tryOut k,q⟩
 |brk=>obtain⟨a,H',I,q⟩:=h;exact⟨a,H',I.tryOut k,q⟩
 |cont=>obtain⟨a,H',I,q⟩:=h;exact⟨a,H',I.tryOut k,q⟩
 |ret u=>obtain⟨v,a,H',I,q⟩:=h;exact⟨v,a,H',I.tryOut k,q⟩
def Rk(a C:aq)(c:Á aq):ie->Prop:=λh=>∃o,h.get? a=aA o/\o.cls= .ref C/\o.dict=c/\vf o=aC
theorem dL.track(I:dL X dG σ H s)(a:Air X dG H s e (.ref C) dx T):dL X dG σ (upd H e<|.ext<|Rk e C dx) s:=by
 obtain⟨f,vs,h1,h2,j,F,K⟩:=a.r.obj;have h:vf f=aC:=by unfold vf;rw[F]
 refine⟨I.ok,I.os,I.bare,⟨I.base.keep,I.base.slot,λb o q n E=>?_,I.base.there,λb xs q=>?_,λb o u q=>?_,λb ps q=>?_⟩,I.loc,I.cell,?_,λx c A=>?_,λp l=>?_,λb u q=>?_,I.len⟩
 .rw[Zs (λz=>by rw[z,a.e0]at q;cases q)];exact I.base.free b o q n E
 .have:=I.base.tups b xs q;rw[Zs (λz=>by rw[z,a.eH]at this;cases this)];exact this
 .have:=I.base.frzs b o u q;rw[Zs (λz=>by rw[z,a.eH]at this;cases this)];exact this
 .obtain⟨m,this⟩:=I.base.tbls b ps q;exact⟨m,by rw[Zs (λz=>by rw[z,a.eH]at this;cases this)];exact this⟩
 .rw[Zs<|Ne.symm a.le.1];exact I.free
 .rw[Zs (a.ce x c A).1];exact I.freeC x c A
 .obtain⟨q,n,r⟩:=I.pin p l;exact⟨q,by rw[Zs (a.pe p l).1];exact n,r⟩
 .by_cases w:b=e
  .subst w;rw[Z8]at q;cases q;exact⟨⟨f,h1,h2,j,h⟩,⟨f,h1⟩,λg1 g2 ⟨o,B,z2⟩ k=>⟨o,k o B,z2⟩⟩
  .rw[Zs w]at q;exact(I.hok b u q).stay (λc v _ z=>z) (λc z=>by rw[Zs (λy=>by rw[y,a.eH]at z;cases z)];exact z) (λc xs z=>by rw[Zs (λy=>by rw[y,a.eH]at z;cases z)];exact z) λc o z=>by rw[Zs (λy=>by rw[y,a.eH]at z;cases z)];exact z
theorem Fw(I:dL X dG σ H s)(hN:X.N.Nodup)(hi:X.N[i]? =aA n)(Y:X.e.kindOf n=aA .local)(h:∀s',dL X dG (σ.set i aB) H s'->Q () s'):de M A (do bindName X.e n .none;unbindBehindTheSuite X.e n pos) Q E s:=by
 obtain⟨m,hn,W⟩:=id I.loc;have r:(X.e.scope.kind== .class|| (X.e.scope.kind== .module&&X.e.locals !=X.e.globals))=aE:=by rw[I.ok.kind];rfl
 refine wpAny_nameGoes_keeps Y hn r λh' u x hs=>?_;obtain⟨oL,_,_,U,_⟩:=id hn;have cne:=I.cne;have w:∀b o,X.s₀.heap.get? b=aA o->b≠X.e.locals:=λb o q=>eh<|dh (cn q) I.ok.above;refine h _ ⟨I.ok,I.os,I.bare,⟨λb o q n C l=>?_,λb o q n C l=>?_,I.base.free,λb o q l=>?_,I.base.tups,I.base.frzs,I.base.tbls⟩,⟨_,x,λj y T f v e3=>?_⟩,λy c L=>?_,I.free,I.freeC,λp R=>?_,λb J q=>?_,by simpa using I.len⟩
 .exact(hs.2 b<|w b o q).trans (I.base.keep b o q n C l)
 .obtain⟨g,f⟩:=I.base.slot b o q n C l;exact⟨g,(hs.2 b<|w b o q).trans f⟩
 .obtain⟨o',f⟩:=I.base.there b o q l;exact⟨o',(hs.2 b<|w b o q).trans f⟩
 .by_cases B:j=i
  .subst B;have:j<σ.length:=by have:=(ci.mp v).1;simpa using this
   rw[gv this]at v;cases v
  .rw[gj<|Ne.symm B]at v;obtain⟨Z,G,q⟩:=W j y T f v e3;refine⟨Z,G,?_⟩;rcases q with⟨k,z⟩|⟨k,c,z,P⟩
   .refine .inl ⟨k,?_⟩;have:y≠n:=λz=>B<|T4 hN f<|z▸hi;simp[this,z]
   .exact .inr ⟨k,c,z,P.sameBut hs<|cne y c z⟩
 .obtain⟨F,z⟩:=I.cell y c L;exact⟨F,z.sameBut hs<|cne y c L⟩
 .obtain⟨q,n,K,O,d⟩:=I.pin p R;exact⟨(hs.2 p.1 K).trans q,n,K,O,d⟩
 .refine(I.hok b J q).stay (λc F a z=>(hs.2 c ?_).trans z) (λ_ z=>z) λ_ _ z=>z;rintro rfl;rcases a with a|a
  .rw[<-a,I.free]at q;cases q
  .rw[I.free]at a;cases a
end
theorem Pz{K}(X:K.In s.heap)(v:Rk e C dx s.heap)(f:tm K (.ref B)=aA (.type "type"))(a:pg K B=aC)(w:jd K B (.type "BaseException")=aA aC)(u:jd K C (.ref B)=aA b)(h:Q b s):de M A (excMatches (.ref e)<|.ref B) Q E s:=by
 obtain⟨c,g,d,tk,os⟩:=s;obtain⟨o,h1,h2,_⟩:=v;have lt:qv M c (BZ<|.ref B)<|.type "type":=PySem.W.looks_typeIn X f;have m:qv M c (isType<|.ref B) aC:=by
  unfold pg PySem.W.clsIn at a;split at a
  .rename_i r;intro z x y s' k q;exact af<|wpAny_loadPart (k _ _<|X _ _ r)<|ay q
  .cases a
 have n:=BQ (M:=M) X w;have l:=BQ (M:=M) X u;have le:qv M c (BZ<|.ref e)<|.ref C:=h2▸(PySem.W.Looks.ld h1).andThen .now;have j:qv M c (isExcClass<|.ref B) aC:=by exact m.andThen n
 have p:qv M c (isInstance (.ref B)<|.type "tuple") aE:=by exact lt.andThen<|.of_pure tc_notTuple
 refine af<|p.at ?_;refine af<|ay ?_;refine af ?_;rw[po];refine af<|af<|j.at ?_;refine ay ?_;dsimp only;rw[vh];refine ay ?_;refine af<|le.at ?_;refine af ?_;rw[po];refine af<|af<|l.at ?_;cases b with
 |true=>rw[dZ rfl];exact ay<|ay<|ay h
 |false=>rw[dY df];refine ay ?_;dsimp only;rw[vh];exact ay<|ay h
structure Hd where
 x:Str
 np:Pos
 nm:Á (Str×Nat)
 b0:lu
 suite:À lu
 pos:Pos
 B:aq
 t:TS
noncomputable def Hd.ast(h:Hd):ExceptHandler:=.ExceptHandler (aA<|.Name h.x h.np) (h.nm.map (·.1)) (h.b0::h.suite) h.pos
noncomputable def Ends.but(D:Ends)(i:Nat):Ends:={nx:=λσ H=>D.nx (σ.set i aB) H,bk:=λσ H=>D.bk (σ.set i aB) H,ct:=λσ H=>D.ct (σ.set i aB) H,rt:=D.rt}
def Hd.run(h:Hd)(C:aq)(c:Option aq)(D:Ends)(σ:St)(H:Hp):Prop:=match h.nm with
 |none=>h.t D σ H
 |some (_,i)=>∀a,H a=aB->h.t (D.but i) (σ.set i<|aA<|.ref a) (upd H a<|.ext<|Rk a C c)
noncomputable def P0(K:ak)(C:aq):List Hd->Option Hd
 | []=>aB
 |h::r=>match jd K C (.ref h.B)with
  |some aC=>aA h
  |some aE=>P0 K C r
  |none=>aB
structure Hd.Ok(X:Cx)(h:Hd):Prop where
 gl:Gl X h.x
 mg:X.mg h.x=aA (.ref h.B)
 ty:tm X.K (.ref h.B)=aA (.type "type")
 cl:pg X.K h.B=aC
 bs:jd X.K h.B (.type "BaseException")=aA aC
 db:(h.x==("__debug__":Str))=aE
 nm:∀n i,h.nm=aA (n,i)->X.N.Nodup/\X.N[i]? =aA n/\Loc X.e.scope n/\X.e.kindOf n=aA .local/\X.e.scope.names.lookup n=aA .local
 su:∀a,Ma (X.inSuite a) (h.b0::h.suite) h.t
theorem Air.at'(a:Air X dG H s e (.ref C) dx T):Rk e C dx s.heap:=by obtain⟨c,vs,h1,h2,h,f,_⟩:=a.r.obj;exact⟨c,h1,h2,h,by unfold vf;rw[f]⟩
theorem P3{σ:St}(o:X.ex=[])(l:X.stack=X.e::X.outer)(m:X.e.frame=aA X.e.locals)(I:dL X dG σ H s)(a:Air X dG H s e (.ref C) dx T)(q:h.run C dx D σ H):
  ∀{hs:À Hd},(∀h∈hs,h.Ok X)->P0 X.K C hs=aA h->de (dw X.p X.w) X.A (handleBy (.ref e) X.e<|hs.map Hd.ast) (SP X dG D) X.xe s
 | [],_,p=>nomatch p
 |g::r,ok,p=>by
  have c:=ok g ac;have Y:dL (X.inSuite e) dG σ H s:=I.suiteIn;refine wpAny_handleBy_cons (codeAny_handlers_test<|T6 (X:=X.inSuite e) Y c.gl c.mg ?_ c.db) (by intro z;cases z);unfold P0 at p;split at p
  .rename_i P;cases p;refine Pz I.kIn a.at' c.ty c.cl c.bs P ?_;show rj _ _ _ _ s;unfold Hd.run at q;split at q
   .rename_i hn;rw[hn];refine codeAny_handlers_suite ?_;refine(Bz (M:=dw X.p X.w) (A:=X.A.mark<|aA<|.ref e) I a o I.ok.frames l m λh' W Q Z=>?_).2;refine ij (c.su e dG _ σ H D Q.suiteIn q) (λf N z=>?_) λ_ _ z=>z.elim;exact SP.out I.ok z
   .rename_i n i hn;rw[hn];refine Wv λ_ G=>?_;obtain⟨E,B,R,F,O⟩:=c.nm n i hn;apply G;refine codeAny_handlers_suite_as ?_;refine(Bz (M:=dw X.p X.w) (A:=X.A.mark<|aA<|.ref e) I a o I.ok.frames l m λh' W Q Z=>?_).2;refine T5 (X:=X.inSuite e) (v:=.ref e) (i:=i) (Q.track Z).suiteIn E B R rfl (λN I2=>?_) (.inr O);refine ij (c.su e dG _ _ _ (D.but i) I2<|q e a.eH) (λf J z=>?_) λ_ _ z=>z.elim;show de _ X.A _ _ _ J;cases f with
    |next=>obtain⟨j,H',y,z⟩:=z;exact Fw (y.suiteOut I.ok) E B F λL x=>⟨_,H',x,z⟩
    |brk=>obtain⟨j,H',y,z⟩:=z;exact Fw (y.suiteOut I.ok) E B F λL x=>⟨_,H',x,z⟩
    |cont=>obtain⟨j,H',y,z⟩:=z;exact Fw (y.suiteOut I.ok) E B F λL x=>⟨_,H',x,z⟩
    |ret u=>obtain⟨v,j,H',y,z⟩:=z;exact Fw (y.suiteOut I.ok) E B F λL x=>⟨v,_,H',x,z⟩
  .rename_i P;refine Pz I.kIn a.at' c.ty c.cl c.bs P ?_;exact P3 o l m I a q (λh U=>ok h<|ag _ U) p
  .cases p
def RN(K:ak)(tb:EXT->TS)(hs:À Hd):TS:=λD σ H=>tb (λc f a H'=>∃C h,c= .ref C/\P0 K C hs=aA h/\h.run C f D a H') D σ H
theorem sC(B:∀i xe G,C4 (X.inTry i xe) G->Ma (X.inTry i xe) body (tb G))(ok:∀h∈h0::hs,h.Ok X)(l:X.ex=[])(c:X.stack=X.e::X.outer)(j:X.e.frame=aA X.e.locals):PS X (.Try body ((h0::hs).map Hd.ast) [] [] pos)<|RN X.K tb (h0::hs):=by
 intro dG s σ H D I h;refine wpAny_Try_except (h₀:=h0.ast) (hs:=hs.map Hd.ast) ?_;refine ij (B (X.pn++dG) _ _ ?_ [] s σ H D I.tryIn h) (λf U z=>?_) λ_ _ z=>z
 .intro pins' n H' s' e Q P T R r L F x v y le Z ⟨C,g,E,o,q⟩;subst E;have O:dL X dG n H' s':=R.tryOut I.ok;have a:Air X dG H' s' e (.ref C) P T:=⟨r,L,F,x,v,λp o=>y p<|dr _ o,le,Z⟩
  exact(Bz (M:=dw X.p X.w) (A:=X.A) O a l I.ok.frames c j λh' W N J=>P3 l c j N J q ok o).1
 .have m:=SP.outT I.ok z;cases f with
  |next=>exact PySem.wpAny_execs_nil m
  |brk=>exact m
  |cont=>exact m
  |ret u=>exact m
section
variable{K:ak}
set_option genInjectivity true in
inductive D where
 |non|bl (b:Bool)|int (i:Int)|str (x:Str)
 |tup (xs:List D)|lst (xs:List D)
 |dK (ks:List Key) (vs:List D)|dT (ks:List<|List Key) (vs:List D)
 |exc (c:Str) (ks:List Str) (vs:List D)
def Bh(K:ak)(c:Str)(C:aq):Prop:=gu K f6 c=aA (aA<|.ref C)
def KB(F:Hp)(kvs:À (À Key×V))(bs:À aq):Prop:=v6 (λ(p:À Key×V) (b:aq)=>F b=aA (.tup<|p.1.map kV)) kvs bs
mutual
inductive dS(K:ak)(F:Hp):D->V->Prop where
 |non:dS K F .non .non
 |bl (b:Bool):dS K F (.bl b)<|.bl b
 |int (i:Int):dS K F (.int i)<|.int i
 |str (x:Str):dS K F (.str x)<|.str x
 |tup {a:aq} {xs:List D} {vs:List V} (h:F a=aA (.tup vs)) (r:dJ K F xs vs):dS K F (.tup xs)<|.ref a
 |lst {a:aq} {xs:List D} {vs:List V} (h:W3 K F a vs) (o:F a=aA (.lst vs)\/∀d∈xs,∃i,d= .int i) (r:dJ K F xs vs):dS K F (.lst xs)<|.ref a
 |dK {a:aq} {ks:List Key} {ds:List D} {kvs:List (Key×V)} {ep:Nat} (h:F a=aA (.dK kvs ep)) (e:kvs.map (·.1)=ks) (r:dJ K F ds (kvs.map (·.2))):dS K F (.dK ks ds)<|.ref a
 |dT {a:aq} {ks:List (List Key)} {ds:List D} {kvs:List (List Key×V)} {ep:Nat} {bs:List aq} (h:F a=aA (.dT kvs ep bs)) (kb:KB F kvs bs) (e:kvs.map (·.1)=ks) (r:dJ K F ds (kvs.map (·.2))):dS K F (.dT ks ds)<|.ref a
 |exc {a C:aq} {c:Str} (cl:Bh K c C) (h:F a=aA (.ext<|Rk a C aB)):dS K F (.exc c [] [])<|.ref a
 |exd {a C dx:aq} {c:Str} {ks:List Str} {ds:List D} {fs:List (Str×V)} (cl:Bh K c C) (h:F a=aA (.ext<|Rk a C<|aA dx)) (hx:F dx=aA (.xd fs)) (e:fs.map (·.1)=ks) (r:dJ K F ds (fs.map (·.2))):dS K F (.exc c ks ds)<|.ref a
inductive dJ(K:ak)(F:Hp):List D->List V->Prop where
 |nil:dJ K F [] []
 |cons {d:D} {v:V} {ds:List D} {vs:List V} (h:dS K F d v) (t:dJ K F ds vs):dJ K F (d::ds) (v::vs)
end
theorem KB.mono(s:Zm F F')(h:KB F kvs bs):KB F' kvs bs:=Paired.mapP h λ_ _ z=>s _ _ z
theorem MB(s:Zm F F')(h:Rd F a u):Rd F' a u:=by
 rcases h with h|⟨o,h⟩
 .exact .inl (s _ _ h)
 .exact .inr ⟨o,s _ _ h⟩
theorem Yt(s:Zm F F')(h:W3 K F a xs):W3 K F' a xs:=by
 rcases h with h|h
 .exact .inl (MB s h)
 .exact .inr h
theorem Ut(s:Zm F F')(h:Eu K F a xs):Eu K F' a xs:=by
 rcases h with h|h
 .exact .inl (MB s h)
 .exact .inr h
theorem Iy(h:F a=aA (.tup vs)):Eu K F a vs:=.inl<|.inl h
theorem dS.mono(s:Zm F F')(h:dS K F d v):dS K F' d v:=
 dS.rec (motive_1:=λd v _=>dS K F' d v) (motive_2:=λds vs _=>dJ K F' ds vs) .non .bl .int .str (λh _ r=>.tup (s _ _ h) r) (λh o _ r=>.lst (Yt s h) (o.imp (λz=>s _ _ z) id) r) (λh e _ r=>.dK (s _ _ h) e r) (λh kb e _ r=>.dT (s _ _ h) (kb.mono s) e r) (λa h=>.exc a<|s _ _ h) (λa h c e _ r=>.exd a (s _ _ h) (s _ _ c) e r) .nil (λ_ _ h t=>.cons h t) h
theorem dJ.mono(s:Zm F F')(h:dJ K F ds vs):dJ K F' ds vs:=by
 induction ds generalizing vs with
 |nil=>cases h;exact .nil
 |cons d ds c=>
  cases h with
  |cons a t=>exact .cons (dS.mono s a)<|c t
theorem dJ.consI(h:dJ K F (d::ds) vs):∃v ws,vs=v::ws/\dS K F d v/\dJ K F ds ws:=by
 cases h with
 |cons a t=>exact⟨_,_,rfl,a,t⟩
theorem dJ.one(h:dJ K F [d] vs):∃v,vs=[v]/\dS K F d v:=by obtain⟨_,_,rfl,a,t⟩:=h.consI;cases t;exact⟨_,rfl,a⟩
theorem dS.tupI(h:dS K F (.tup ds) v):∃a vs,v= .ref a/\F a=aA (.tup vs)/\dJ K F ds vs:=by
 cases h with
 |tup h t=>exact⟨_,_,rfl,h,t⟩
theorem dS.lstI(h:dS K F (.lst ds) v):∃a vs,v= .ref a/\W3 K F a vs/\(F a=aA (.lst vs)\/∀d∈ds,∃i,d= .int i)/\dJ K F ds vs:=by
 cases h with
 |lst h o t=>exact⟨_,_,rfl,h,o,t⟩
theorem dJ.length:∀{vs:À V},dJ K F ds vs->ds.length=vs.length:=by
 induction ds with
 |nil=>intro vs h;cases h;rfl
 |cons d ds a=>
  intro vs h;cases h with
  |cons _ t=>rw[ca,ca,a t]
theorem dJ.append(h:dJ K F ds vs)(q:dJ K F es us):dJ K F (ds++es)<|vs++us:=by
 induction ds generalizing vs with
 |nil=>cases h;exact q
 |cons d ds a=>
  cases h with
  |cons h t=>exact .cons h<|a t
theorem dJ.snoc(r:dJ K F ds vs)(h:dS K F d v):dJ K F (ds++[d])<|vs++[v]:=r.append<|.cons h .nil
theorem dJ.get{i:Nat}(r:dJ K F ds vs)(e:ds[i]? =aA d):∃v,vs[i]? =aA v/\dS K F d v:=by
 induction ds generalizing vs i with
 |nil=>cases e
 |cons x ds a=>cases r with
  |cons h t=>cases i with
   |zero=>cases e;exact⟨_,rfl,h⟩
   |succ i=>have z:=a (i:=i) t e;exact z
theorem dJ.take(n)(r:dJ K F ds vs):dJ K F (ds.take n)<|vs.take n:=by
 induction ds generalizing vs n with
 |nil=>cases r;cases n<;> exact .nil
 |cons d ds a=>cases r with
  |cons h t=>cases n with
   |zero=>exact .nil
   |succ n=>exact .cons h<|a n t
theorem dJ.drop(n)(r:dJ K F ds vs):dJ K F (ds.drop n)<|vs.drop n:=by
 induction ds generalizing vs n with
 |nil=>cases r;cases n<;> exact .nil
 |cons d ds a=>cases r with
  |cons h t=>cases n with
   |zero=>exact .cons h t
   |succ n=>exact a n t
set_option genInjectivity true in
inductive SV where
 |fz (d:D)|ol (xs:List D)|oK (ks:List Key) (vs:List D)|oT (ks:List<|List Key) (vs:List D)|oN (ks:List Key) (xss:List<|List D)|oL (pin:Option aq) (xss:List<|List D)|oQ (pin:aq) (ks:List Key) (vs:List D)|oR (pin:aq) (ks:List Key) (xss:List<|List D)
@[simp]noncomputable def SV.toD:SV->D
 | .fz d=>d
 | .ol xs=>.lst xs
 | .oK ks vs=>.dK ks vs
 | .oT ks vs=>.dT ks vs
 | .oN ks xss=>.dK ks<|xss.map D.lst
 | .oL _ xss=>.lst<|xss.map D.lst
 | .oQ _ ks vs=>.dK ks vs
 | .oR _ ks xss=>.dK ks<|xss.map D.lst
noncomputable abbrev Zy:=List<|aq×HO
inductive dR(K:ak)(F:Hp):List (List D)->List V->Zy->Prop where
 |nil:dR K F [] [] []
 |cons {xs:List D} {xss:List (List D)} {b:aq} {vs:List V} {ws:List V} {ns:Zy} (r:dJ K F xs vs) (t:dR K F xss ws ns):dR K F (xs::xss) (.ref b::ws) ((b,.lst vs)::ns)
inductive dQ(K:ak)(F:Hp):SV->V->Zy->Prop where
 |fz {d:D} {v:V} (h:dS K F d v):dQ K F (.fz d) v []
 |ol {a:aq} {xs:List D} {vs:List V} (r:dJ K F xs vs):dQ K F (.ol xs) (.ref a) [(a,.lst vs)]
 |oK {a:aq} {ks:List Key} {ds:List D} {kvs:List (Key×V)} {ep:Nat} (e:kvs.map (·.1)=ks) (r:dJ K F ds (kvs.map (·.2))):dQ K F (.oK ks ds) (.ref a) [(a,.dK kvs ep)]
 |oT {a:aq} {ks:List (List Key)} {ds:List D} {kvs:List (List Key×V)} {ep:Nat} {bs:List aq} (kb:KB F kvs bs) (e:kvs.map (·.1)=ks) (r:dJ K F ds (kvs.map (·.2))):dQ K F (.oT ks ds) (.ref a) [(a,.dT kvs ep bs)]
 |oN {a:aq} {ks:List Key} {xss:List (List D)} {kvs:List (Key×V)} {ns:Zy} {ep:Nat} (e:kvs.map (·.1)=ks) (r:dR K F xss (kvs.map (·.2)) ns):dQ K F (.oN ks xss) (.ref a) ((a,.dK kvs ep)::ns)
 |oR {a:aq} {ks:List Key} {xss:List (List D)} {kvs:List (Key×V)} {ns:Zy} {ep:Nat} (e:kvs.map (·.1)=ks) (r:dR K F xss (kvs.map (·.2)) ns):dQ K F (.oR a ks xss) (.ref a) ((a,.dK kvs ep)::ns)
 |oL {pin:Option aq} {a:aq} {xss:List (List D)} {ws:List V} {ns:Zy} (hp:∀b,pin=aA b->b=a) (r:dR K F xss ws ns):dQ K F (.oL pin xss) (.ref a) ((a,.lst ws)::ns)
 |oQ {a:aq} {ks:List Key} {ds:List D} {kvs:List (Key×V)} {ep:Nat} (e:kvs.map (·.1)=ks) (r:dJ K F ds (kvs.map (·.2))):dQ K F (.oQ a ks ds) (.ref a) [(a,.dK kvs ep)]
theorem dR.mono(s:Zm F F')(h:dR K F xss ws ns):dR K F' xss ws ns:=by
 induction h with
 |nil=>exact .nil
 |cons r _ a=>exact .cons (r.mono s) a
theorem dQ.mono(s:Zm F F')(h:dQ K F sv v ns):dQ K F' sv v ns:=by
 cases h with
 |fz h=>exact .fz<|h.mono s
 |ol r=>exact .ol<|r.mono s
 |oK e r=>exact .oK e<|r.mono s
 |oT kb e r=>exact .oT (kb.mono s) e<|r.mono s
 |oN e r=>exact .oN e<|r.mono s
 |oR e r=>exact .oR e<|r.mono s
 |oL a r=>exact .oL a<|r.mono s
 |oQ e r=>exact .oQ e<|r.mono s
def J1(F:Hp):Zy->Hp
 | []=>F
 |p::r=>upd (J1 F r) p.1 p.2
abbrev Jj(ns:Zy):À Addr:=ns.map (·.1)
theorem Uu:∀{ns:Zy},b∉Jj ns->J1 F ns b=F b
 | [],_=>rfl
 |p::r,h=>by have h1:b≠p.1:=λe=>h (by rw[e];exact ac);have h2:b∉Jj r:=λe=>h<|ag _ e;show upd (J1 F r) p.1 p.2 b=F b;rw[Zs h1,Uu h2]
theorem Rl:∀{ns:Zy},(Jj ns).Nodup->p∈ns->J1 F ns p.1=aA p.2
 | [],_,h=>nomatch h
 |q::r,nd,h=>by
  obtain⟨c,a⟩:=fm.mp nd;show upd (J1 F r) q.1 q.2 p.1=aA p.2;rcases az.mp h with e|e
  .subst e;exact Z8
  .rw[Zs λz=>c<|av.mpr ⟨p,e,z⟩];exact Rl a e
theorem Qf(h:∀p∈ns,F p.1=aB):Zm F<|J1 F ns:=λb o e=>by
 by_cases a:b∈Jj ns
 .obtain⟨p,c,ep⟩:=av.mp a;subst ep;rw[h p c]at e;cases e
 .rw[Uu a];exact e
theorem LY(f:(Jj ns).Nodup)(le:Zm F H)(h:∀p∈ns,H p.1=aA p.2):Zm (J1 F ns) H:=λb o e=>by
 by_cases c:b∈Jj ns
 .obtain⟨p,a,ep⟩:=av.mp c;subst ep;rw[Rl f a]at e;cases e;exact h p a
 .rw[Uu c]at e;exact le b o e
theorem Dv{Z:Hp×Hp}(h:(Jj ns).Nodup)(a:∀b o,F b=aA o->Z.2 b=aA o\/Z.1 b=aB)(hz:∀p∈ns,Z.1 p.1=aB):∀b o,J1 F ns b=aA o->Z.2 b=aA o\/Z.1 b=aB:=λb o e=>by
 by_cases c:b∈Jj ns
 .obtain⟨p,f,ep⟩:=av.mp c;subst ep;exact .inr<|hz p f
 .rw[Uu c]at e;exact a b o e
theorem dR.rep(s:Zm F F')(k:dR K F xss ws ns)(h:∀p∈ns,F' p.1=aA p.2):dJ K F' (xss.map D.lst) ws:=by
 induction k with
 |nil=>exact .nil
 |cons r _ a=>exact .cons (.lst (.inl<|.inl<|h _ ac) (.inl<|h _ ac)<|r.mono s)<|a λp c=>h p<|ag _ c
theorem dQ.rep(h:dQ K F sv v ns)(f:(Jj ns).Nodup)(hn:∀p∈ns,F p.1=aB):dS K (J1 F ns) sv.toD v:=by
 have s:=Qf hn;have a:∀p∈ns,J1 F ns p.1=aA p.2:=λp c=>Rl f c;cases h with
 |fz h=>exact h
 |ol r=>exact .lst (.inl<|.inl<|a (_,_) ac) (.inl<|a (_,_) ac)<|r.mono s
 |oK e r=>exact .dK (a (_,_) ac) e<|r.mono s
 |oT kb e r=>exact .dT (a (_,_) ac) (kb.mono s) e<|r.mono s
 |oN e r=>exact .dK (a (_,_) ac) e<|r.rep s λp c=>a p<|ag _ c
 |oR e r=>exact .dK (a (_,_) ac) e<|r.rep s λp c=>a p<|ag _ c
 |oL _ r=>exact .lst (.inl<|.inl<|a (_,_) ac) (.inl<|a (_,_) ac)<|r.rep s λp c=>a p<|ag _ c
 |oQ e r=>exact .dK (a (_,_) ac) e<|r.mono s
noncomputable abbrev Y5:=List<|Option SV
structure dP(K:ak)where
 h:Hp
 f:Hp
 x:EXT
abbrev ent(H F:Hp):dP K:=⟨H,F,λ_ _ _ _=>False⟩
structure Exn where
 c:Str
 ks:À Str:=[]
 vs:À D:=[]
def TU(K:ak)(F:Hp)(e:Exn)(a:am)(od:Option aq):Prop:=∃C,Bh K e.c C/\a= .ref C/\match od with
 |none=>e.ks=[]/\e.vs=[]
 |some f=>∃fs:List<|Str×V,F f=aA (.xd fs)/\fs.map (·.1)=e.ks/\dJ K F e.vs (fs.map (·.2))
structure SR(Z:dP K)(F H:Hp)(σ:St)(δ:Y5)(own:Nat->Zy):Prop where
 le:Zm F H
 fro:∀(b:aq) (o:HO),F b=aA o->Z.f b=aA o\/Z.h b=aB
 old:Zm Z.h H
 len:σ.length=δ.length
 at':∀(i:Nat) (sv:SV),δ[i]? =aA (aA sv)->∃v,σ[i]? =aA (aA v)/\dQ K F sv v (own i)
 nod:∀i:Nat,(Jj<|own i).Nodup
 ok:∀(i:Nat) (p:aq×HO),p∈own i->F p.1=aB/\Z.h p.1=aB/\H p.1=aA p.2
 sep:∀(i j:Nat) (p q:aq×HO),i≠j->p∈own i->q∈own j->p.1≠q.1
set_option genInjectivity true in
inductive RV where
 |tmp (sv:SV)|bw (i:Nat)
structure dW(Z:dP K)(F H:Hp)(own:Nat->Zy)(sv:SV)(v:V)(ns:Zy):Prop where
 sh:dQ K F sv v ns
 nd:(Jj ns).Nodup
 ok:∀p∈ns,F p.1=aB/\Z.h p.1=aB/\H p.1=aA p.2
 sep:∀(i:Nat) (p q:aq×HO),p∈ns->q∈own i->p.1≠q.1
def P4(Z:dP K)(F H:Hp)(σ:St)(own:Nat->Zy):RV->V->Prop
 | .tmp sv,v=>∃ns,dW Z F H own sv v ns
 | .bw i,v=>σ[i]? =aA (aA v)
theorem dW.fz{Z:dP K}(h:dS K F d v):dW Z F H own (.fz d) v []:=
 ⟨.fz h,gd,λ_ h=>(nomatch h),λ_ _ _ h=>(nomatch h)⟩
theorem Wz(h:H p=aB):Zm H<|upd H p o:=λb u e=>by rw[Zs λz=>by rw[z,h]at e;cases e];exact e
theorem SR.grow{Z:dP K}(s:SR Z F H σ δ own)(h:Zm H H'):SR Z F H' σ δ own:=
 ⟨s.le.trans h,s.fro,s.old.trans h,s.len,s.at',s.nod,λi p f=>let⟨a,b,c⟩:=s.ok i p f;⟨a,b,h _ _ c⟩,s.sep⟩
theorem SR.addF{Z:dP K}(s:SR Z F H σ δ own)(j:(Jj ns).Nodup)(hn:∀p∈ns,F p.1=aB)(r:∀p∈ns,H p.1=aA p.2)(hz:∀p∈ns,Z.h p.1=aB)(hs:∀i p q,p∈ns->q∈own i->p.1≠q.1):SR Z (J1 F ns) H σ δ own:=by
 have m:=Qf hn;refine⟨LY j s.le r,Dv (Z:=(Z.h,Z.f)) j s.fro hz,s.old,s.len,λi sv e=>?_,s.nod,λi p l=>?_,s.sep⟩
 .obtain⟨v,h1,h2⟩:=s.at' i sv e;exact⟨v,h1,h2.mono m⟩
 .obtain⟨a,b,c⟩:=s.ok i p l;refine⟨?_,b,c⟩;rw[Uu λo=>?_]
  .exact a
  .obtain⟨q,n,e⟩:=av.mp o;exact hs i q p n l e
theorem SR.settle{Z:dP K}(s:SR Z F H σ δ own)(t:dW Z F H own sv v ns):
  ∃g,A3 (Zm F g) (SR Z g H σ δ own)<|dS K g sv.toD v:=
 ⟨J1 F ns,Qf λp a=>(t.ok p a).1,s.addF t.nd (λp a=>(t.ok p a).1) (λp a=>(t.ok p a).2.2) (λp a=>(t.ok p a).2.1) t.sep,t.sh.rep t.nd λp a=>(t.ok p a).1⟩
def put(own:Nat->Zy)(i:Nat)(ns:Zy):Nat->Zy:=λj=>if j=i then ns else own j
theorem Yi:put own i ns i=ns:=dZ rfl
theorem Yp(h:j≠i):put own i ns j=own j:=dY h
theorem SR.freeze{Z:dP K}(s:SR Z F H σ δ own)(e:δ[i]? =aA (aA sv)):
  E2 λg v=>A4 (Zm F g) (σ[i]? =aA (aA v)) (dS K g sv.toD v)<|SR Z g H σ (δ.set i<|aA<|.fz sv.toD)<|put own i []:=by
 obtain⟨v,h1,h2⟩:=s.at' i sv e;have hn:∀p∈own i,F p.1=aB:=λp l=>(s.ok i p l).1;have u:=Qf hn;have y:i<δ.length:=(ci.mp e).1;refine⟨J1 F<|own i,v,u,h1,h2.rep (s.nod i) hn,⟨LY (s.nod i) s.le λp l=>(s.ok i p l).2.2,Dv (Z:=(Z.h,Z.f)) (s.nod i) s.fro λp l=>(s.ok i p l).2.1,s.old,by rw[io];exact s.len,λj sw o=>?_,λj=>?_,λj p l=>?_,λj k p q r l n=>?_⟩⟩
 .by_cases m:j=i
  .subst m;rw[gv y]at o;cases o;rw[Yi];exact⟨v,h1,.fz<|h2.rep (s.nod j) hn⟩
  .rw[gj<|Ne.symm m]at o;obtain⟨w,g1,g2⟩:=s.at' j sw o;rw[Yp m];exact⟨w,g1,g2.mono u⟩
 .by_cases m:j=i
  .subst m;rw[Yi];exact gd
  .rw[Yp m];exact s.nod j
 .by_cases m:j=i
  .subst m;rw[Yi]at l;exact nomatch l
  .rw[Yp m]at l;obtain⟨a,b,c⟩:=s.ok j p l;refine⟨?_,b,c⟩;rw[Uu λA=>?_]
   .exact a
   .obtain⟨q,n,z⟩:=av.mp A;exact s.sep i j q p (Ne.symm m) n l z
 .by_cases m:j=i
  .subst m;rw[Yi]at l;exact nomatch l
  .by_cases x:k=i
   .subst x;rw[Yi]at n;exact nomatch n
   .rw[Yp m]at l;rw[Yp x]at n;exact s.sep j k p q r l n
theorem SR.store{Z:dP K}(s:SR Z F H σ δ own)(t:dW Z F H own sv v ns)(n:i<σ.length):
  SR Z F H (σ.set i<|aA v) (δ.set i<|aA sv) (put own i ns):=by
 refine⟨s.le,s.fro,s.old,by rw[io,io];exact s.len,λj sw l=>?_,λj=>?_,λj p c=>?_,λj k p q h c f=>?_⟩
 .by_cases a:j=i
  .subst a;have hd:j<δ.length:=by have:=(ci.mp l).1;simpa using this
   rw[gv hd]at l;cases l;rw[Yi,gv n];exact⟨v,rfl,t.sh⟩
  .rw[gj<|Ne.symm a]at l;rw[Yp a,gj<|Ne.symm a];exact s.at' j sw l
 .by_cases a:j=i
  .subst a;rw[Yi];exact t.nd
  .rw[Yp a];exact s.nod j
 .by_cases a:j=i
  .subst a;rw[Yi]at c;exact t.ok p c
  .rw[Yp a]at c;exact s.ok j p c
 .by_cases a:j=i
  .subst a;rw[Yi]at c;rw[Yp<|Ne.symm h]at f;exact t.sep k p q c f
  .by_cases m:k=i
   .subst m;rw[Yi]at f;rw[Yp a]at c;exact Ne.symm<|t.sep j q p f c
   .rw[Yp a]at c;rw[Yp m]at f;exact s.sep j k p q h c f
theorem SR.change{Z:dP K}(s:SR Z F H σ δ own)(e:δ[i]? =aA (aA sv))(G:σ[i]? =aA (aA v))(P:(a,o)∈own i)(hs:dQ K F sv' v ns')(C:∀p∈ns',p=(a,o')\/(p∈own i/\p.1≠a))(g:(Jj ns').Nodup):SR Z F (upd H a o') σ (δ.set i<|aA sv')<|put own i ns':=by
 obtain⟨fa,E,M⟩:=s.ok i (a,o) P;have J:i<δ.length:=(ci.mp e).1;refine⟨λb u l=>?_,s.fro,λb u l=>?_,by rw[io];exact s.len,λj sw L=>?_,λj=>?_,λj p f=>?_,λj k p q h f A=>?_⟩
 .rw[Zs λz=>by rw[z]at l;rw[fa]at l;cases l];exact s.le b u l
 .rw[Zs λz=>by rw[z]at l;rw[E]at l;cases l];exact s.old b u l
 .by_cases c:j=i
  .subst c;rw[gv J]at L;cases L;rw[Yi];exact⟨v,G,hs⟩
  .rw[gj<|Ne.symm c]at L;rw[Yp c];exact s.at' j sw L
 .by_cases c:j=i
  .subst c;rw[Yi];exact g
  .rw[Yp c];exact s.nod j
 .by_cases c:j=i
  .subst c;rw[Yi]at f;rcases C p f with z|⟨z,X⟩
   .subst z;exact⟨fa,E,Z8⟩
   .obtain⟨x,y,w⟩:=s.ok j p z;exact⟨x,y,by rw[Zs X];exact w⟩
  .rw[Yp c]at f;obtain⟨x,y,w⟩:=s.ok j p f;exact⟨x,y,by rw[Zs<|s.sep j i p (a,o) c f P];exact w⟩
 .have m:∀r∈ns',∃B∈own i,r.1=B.1:=λr I=>by
   rcases C r I with z|⟨z,_⟩
   .subst z;exact⟨(a,o),P,rfl⟩
   .exact⟨r,z,rfl⟩
  by_cases c:j=i
  .subst c;rw[Yi]at f;rw[Yp<|Ne.symm h]at A;obtain⟨B,n,Q⟩:=m p f;rw[Q];exact s.sep j k B q h n A
  .by_cases T:k=i
   .subst T;rw[Yi]at A;rw[Yp c]at f;obtain⟨B,n,Q⟩:=m q A;rw[Q];exact s.sep j k p B h f n
   .rw[Yp c]at f;rw[Yp T]at A;exact s.sep j k p q h f A
end
section
variable{K:ak}
abbrev FE:=Y5->Á (RV×Y5)
abbrev FT:=Y5->Á (Bool×Y5)
abbrev FA:=Y5->Á (À RV×Y5)
abbrev FD:=Y5->Á (À D×Y5)
@[simp]noncomputable def SV.nested:SV->Bool
 | .oN _ _=>aC
 | .oR _ _ _=>aC
 | .oL _ _=>aC
 |_=>aE
@[simp]def rdv:RV->Y5->Option D
 | .tmp sv,_=>aA sv.toD
 | .bw i,δ=>(δ[i]?.join).bind λsv=>match sv.nested with|true=>aB|false=>aA sv.toD
@[simp]def frz:RV->Y5->Option (D×Y5)
 | .tmp sv,δ=>aA (sv.toD,δ)
 | .bw i,δ=>(δ[i]?.join).bind λsv=>aA (sv.toD,δ.set i<|aA<|.fz sv.toD)
theorem Op{δ:Y5}{i:Nat}(h:δ[i]?.join=aA sv):δ[i]? =aA (aA sv):=by
 cases e:δ[i]? with
 |none=>rw[e]at h;cases h
 |some o=>rw[e]at h;cases o with
  |none=>cases h
  |some s=>cases h;rfl
inductive liftE(Z:dP K)(f:FE)(σ H) (Q:VK):Prop where
 |mk (F δ own rv δ') (s:SR Z F H σ δ own) (e:f δ=aA (rv,δ')) (k:∀v H' F' ZD,Zm H H'->Zm F F'->SR Z F' H' σ δ' ZD->P4 Z F' H' σ ZD rv v->Q v H')
inductive liftT(Z:dP K)(f:FT)(σ H) (Q:Bool->Hp->Prop):Prop where
 |mk (F δ own b δ') (s:SR Z F H σ δ own) (e:f δ=aA (b,δ')) (k:∀H' F' ZD,Zm H H'->Zm F F'->SR Z F' H' σ δ' ZD->Q b H')
def RVS(K:ak)(F:Hp)(σ:St):RV->V->Prop
 | .tmp sv,v=>dS K F sv.toD v
 | .bw i,v=>σ[i]? =aA (aA v)
inductive RVSs(K:ak)(F:Hp)(σ:St):List RV->List V->Prop where
 |nil:RVSs K F σ [] []
 |cons {rv:RV} {v:V} {ZH:List RV} {vs:List V} (h:RVS K F σ rv v) (t:RVSs K F σ ZH vs):RVSs K F σ (rv::ZH) (v::vs)
inductive liftA(Z:dP K)(f:FA)(σ H) (Q:List V->Hp->Prop):Prop where
 |mk (F δ own ZH δ') (s:SR Z F H σ δ own) (e:f δ=aA (ZH,δ')) (k:∀vs H' F' ZD,Zm H H'->Zm F F'->SR Z F' H' σ δ' ZD->RVSs K F' σ ZH vs->Q vs H')
inductive liftD(Z:dP K)(f:FD)(σ H) (Q:List V->Hp->Prop):Prop where
 |mk (F δ own ds δ') (s:SR Z F H σ δ own) (e:f δ=aA (ds,δ')) (k:∀vs H' F' ZD,Zm H H'->Zm F F'->SR Z F' H' σ δ' ZD->dJ K F' ds vs->Q vs H')
section
variable{Z:dP K}{F H F' H':Hp}{σ:St}{δ δ':Y5}{own:Nat->Zy}{rv:RV}{v:V}{d:D}
theorem RVS.mono(s:Zm F F')(h:RVS K F σ rv v):RVS K F' σ rv v:=by
 cases rv with
 |tmp sv=>exact dS.mono s h
 |bw i=>exact h
theorem SR.settleR(s:SR Z F H σ δ own)(h:P4 Z F H σ own rv v):∃g,A3 (Zm F g) (SR Z g H σ δ own)<|RVS K g σ rv v:=by
 cases rv with
 |tmp sv=>obtain⟨ns,t⟩:=h;exact s.settle t
 |bw i=>exact⟨F,Zm.refl F,s,h⟩
theorem SR.frzR(s:SR Z F H σ δ own)(h:RVS K F σ rv v)(e:frz rv δ=aA (d,δ')):E2 λG g=>A3 (Zm F G) (SR Z G H σ δ' g)<|dS K G d v:=by
 cases rv with
 |tmp sv=>cases e;exact⟨F,own,Zm.refl F,s,h⟩
 |bw i=>refine L2.dN e λsv j f=>?_;cases f;obtain⟨G,w,h1,h2,c,a⟩:=s.freeze<|Op j;have h':σ[i]? =aA (aA v):=h;rw[h']at h2;cases h2;exact⟨G,_,h1,a,c⟩
def Yz(K:ak)(F H:Hp)(d:D)(v:V):Prop:=∃sv ns,sv.toD=d/\sv.nested=aE/\dQ K F sv v ns/\∀p∈ns,H p.1=aA p.2
theorem Yz.of(h:dS K F d v):Yz K F H d v:=⟨.fz d,[],rfl,rfl,.fz h,λ_ h=>nomatch h⟩
theorem SR.rd(s:SR Z F H σ δ own)(h:RVS K F σ rv v)(e:rdv rv δ=aA d):Yz K F H d v:=by
 cases rv with
 |tmp sv=>cases e;exact Yz.of h
 |bw i=>
  refine L2.dN e λsv f a=>?_;cases hn:sv.nested with
  |true=>rw[hn]at a;cases a
  |false=>rw[hn]at a;cases a;obtain⟨w,h1,h2⟩:=s.at' i sv<|Op f;have h':σ[i]? =aA (aA v):=h;rw[h']at h1;cases h1;exact⟨sv,own i,rfl,hn,h2,λp c=>(s.ok i p c).2.2⟩
inductive RepNs(K:ak)(F H:Hp):List D->List V->Prop where
 |nil:RepNs K F H [] []
 |cons {d:D} {v:V} {ds:List D} {vs:List V} (h:Yz K F H d v) (t:RepNs K F H ds vs):RepNs K F H (d::ds) (v::vs)
theorem RepNs.consI(h:RepNs K F H (d::ds) vs):∃v ws,vs=v::ws/\Yz K F H d v/\RepNs K F H ds ws:=by
 cases h with
 |cons a t=>exact⟨_,_,rfl,a,t⟩
theorem RepNs.one(h:RepNs K F H [d] vs):∃v,vs=[v]/\Yz K F H d v:=by obtain⟨_,_,rfl,a,t⟩:=h.consI;cases t;exact⟨_,rfl,a⟩
theorem Yz.non(h:Yz K F H .non v):v= .non:=by
 obtain⟨sv,ns,e,n,c,f⟩:=h;cases c with
 |fz r=>cases e;cases r;rfl
 |ol r=>cases e
 |oK a r=>cases e
 |oT kb a r=>cases e
 |oN a r=>cases n
 |oR a r=>cases n
 |oL _ r=>cases n
 |oQ a r=>cases e
theorem Yz.bl(h:Yz K F H (.bl b) v):v= .bl b:=by
 obtain⟨sv,ns,e,n,c,f⟩:=h;cases c with
 |fz r=>cases e;cases r;rfl
 |ol r=>cases e
 |oK a r=>cases e
 |oT kb a r=>cases e
 |oN a r=>cases n
 |oR a r=>cases n
 |oL _ r=>cases n
 |oQ a r=>cases e
theorem Yz.int(h:Yz K F H (.int i) v):v= .int i:=by
 obtain⟨sv,ns,e,n,c,f⟩:=h;cases c with
 |fz r=>cases e;cases r;rfl
 |ol r=>cases e
 |oK a r=>cases e
 |oT kb a r=>cases e
 |oN a r=>cases n
 |oR a r=>cases n
 |oL _ r=>cases n
 |oQ a r=>cases e
theorem Yz.str(h:Yz K F H (.str x) v):v= .str x:=by
 obtain⟨sv,ns,e,n,c,f⟩:=h;cases c with
 |fz r=>cases e;cases r;rfl
 |ol r=>cases e
 |oK a r=>cases e
 |oT kb a r=>cases e
 |oN a r=>cases n
 |oR a r=>cases n
 |oL _ r=>cases n
 |oQ a r=>cases e
theorem Yz.tup(le:Zm F H)(h:Yz K F H (.tup xs) v):E2 λa vs=>A3 (v= .ref a) (Eu K H a vs)<|dJ K F xs vs:=by
 obtain⟨sv,ns,e,n,f,j⟩:=h;cases f with
 |fz r=>cases e;cases r with|tup h r=>exact⟨_,_,rfl,Ut le<|Iy h,r⟩
 |ol r=>cases e
 |oK c r=>cases e
 |oT kb c r=>cases e
 |oN c r=>cases n
 |oR c r=>cases n
 |oL _ r=>cases n
 |oQ c r=>cases e
theorem Yz.lst(le:Zm F H)(h:Yz K F H (.lst xs) v):E2 λa vs=>A3 (v= .ref a) (W3 K H a vs)<|dJ K F xs vs:=by
 obtain⟨sv,ns,e,n,f,j⟩:=h;cases f with
 |fz r=>cases e;cases r with|lst h _ r=>exact⟨_,_,rfl,Yt le h,r⟩
 |ol r=>cases e;exact⟨_,_,rfl,.inl<|.inl<|j _ ac,r⟩
 |oK c r=>cases e
 |oT kb c r=>cases e
 |oN c r=>cases n
 |oR c r=>cases n
 |oL _ r=>cases n
 |oQ c r=>cases e
theorem Yz.dK(le:Zm F H)(h:Yz K F H (.dK ks ds) v):E2 λa kvs=>A4 (v= .ref a) (HK H a kvs) (kvs.map (·.1)=ks) (dJ K F ds (kvs.map (·.2))):=by
 obtain⟨sv,ns,e,n,j,f⟩:=h;cases j with
 |fz r=>cases e;cases r with|dK h e r=>exact⟨_,_,rfl,⟨_,le _ _ h⟩,e,r⟩
 |ol r=>cases e
 |oK c r=>cases e;exact⟨_,_,rfl,⟨_,f _ ac⟩,c,r⟩
 |oT kb c r=>cases e
 |oN c r=>cases n
 |oR c r=>cases n
 |oL _ r=>cases n
 |oQ c r=>cases e;exact⟨_,_,rfl,⟨_,f _ ac⟩,c,r⟩
theorem Yz.dT(le:Zm F H)(h:Yz K F H (.dT ks ds) v):E2 λa kvs=>A4 (v= .ref a) (HTt H a kvs) (kvs.map (·.1)=ks) (dJ K F ds (kvs.map (·.2))):=by
 obtain⟨sv,ns,e,n,f,j⟩:=h;cases f with
 |fz r=>cases e;cases r with|dT h kb e r=>exact⟨_,_,rfl,⟨_,_,le _ _ h⟩,e,r⟩
 |ol r=>cases e
 |oK c r=>cases e
 |oT kb c r=>cases e;exact⟨_,_,rfl,⟨_,_,j _ ac⟩,c,r⟩
 |oN c r=>cases n
 |oR c r=>cases n
 |oL _ r=>cases n
 |oQ c r=>cases e
end
theorem Fs:([a]:À aq).Nodup:=fm.mpr ⟨λh=>(nomatch h),gd⟩
def B2(Z:dP K)(F H:Hp)(σ:St)(δ:Y5)(own:Nat->Zy)(sv:SV)(Q:VK):Prop:=
 ∀v H' F' ns,Zm H H'->Zm F F'->SR Z F' H' σ δ own->dW Z F' H' own sv v ns->Q v H'
section
variable{Z:dP K}{F H:Hp}{σ:St}{δ:Y5}{own:Nat->Zy}{Q:VK}
theorem B2.fz(f:B2 Z F H σ δ own (.fz d) Q)(s:SR Z F H σ δ own)(h:dS K F d v):Q v H:=f v H F [] (Zm.refl H) (Zm.refl F) s<|.fz h
theorem B2.one(f:B2 Z F H σ δ own sv Q)(s:SR Z F H σ δ own)(j:dQ K F sv (.ref p) [(p,o)])(a:H p=aB):Q (.ref p)<|upd H p o:=by
 have h:=Wz (o:=o) a;refine f (.ref p) (upd H p o) F [(p,o)] h (Zm.refl F) (s.grow h) ⟨j,Fs,λq c=>?_,λi q r c l=>?_⟩
 .obtain rfl:=ao.mp c;exact⟨s.le.free a,s.old.free a,Z8⟩
 .obtain rfl:=ao.mp c;intro e;have m:p=r.1:=e;have z:=(s.ok i r l).2.2;rw[<-m,a]at z;cases z
theorem B2.lst(f:B2 Z F H σ δ own (.ol xs) Q)(s:SR Z F H σ δ own)(r:dJ K F xs vs)(a:H p=aB):Q (.ref p)<|upd H p<|.lst vs:=f.one s (.ol r) a
theorem B2.tup(f:B2 Z F H σ δ own (.fz<|.tup xs) Q)(s:SR Z F H σ δ own)(r:dJ K F xs vs)(c:H p=aB):Q (.ref p)<|upd H p<|.tup vs:=by
 have h:=Wz (o:=.tup vs) c;have j:Zm F<|J1 F [(p,.tup vs)]:=Qf λq a=>by obtain rfl:=ao.mp a;exact s.le.free c
 refine f (.ref p) (upd H p<|.tup vs) (J1 F [(p,.tup vs)]) [] h j ?_<|.fz<|.tup Z8<|r.mono j;refine(s.grow h).addF (Fs) (λq a=>?_) (λq a=>?_) (λq a=>?_) λi q u a l=>?_
 .obtain rfl:=ao.mp a;exact s.le.free c
 .obtain rfl:=ao.mp a;exact Z8
 .obtain rfl:=ao.mp a;exact s.old.free c
 .obtain rfl:=ao.mp a;intro e;have m:p=u.1:=e;have z:=(s.ok i u l).2.2;rw[<-m,c]at z;cases z
end
theorem Q0(h:dQ K F (.fz d) v ns):dS K F d v:=by
 cases h with
 |fz r=>exact r
section
variable{Z:dP K}{H:Hp}{σ:St}{Q:VK}
@[simp]noncomputable def Za(i:Nat):FE:=λδ=>match δ[i]? with
 |some (aA<|.fz d)=>aA (.tmp<|.fz d,δ)
 |some (aA _)=>aA (.bw i,δ)
 |_=>aB
theorem xl(h:liftE Z (Za i) σ H Q):Bb i σ H Q:=by
 obtain⟨F,δ,own,rv,δ',s,e,k⟩:=h;unfold Za at e;split at e
 .rename_i d hd;cases e;obtain⟨v,h1,h2⟩:=s.at' i _ hd;exact⟨v,h1,k v H F own (Zm.refl H) (Zm.refl F) s ⟨[],.fz<|Q0 h2⟩⟩
 .rename_i sv a hd;cases e;obtain⟨v,h1,h2⟩:=s.at' i _ hd;exact⟨v,h1,k v H F own (Zm.refl H) (Zm.refl F) s h1⟩
 .cases e
@[simp]def Zb(d:D):FE:=λδ=>some (.tmp<|.fz d,δ)
theorem Mb(a:∀F,dS K F d v)(h:liftE Z (Zb d) σ H Q):tC v σ H Q:=by obtain⟨F,δ,own,rv,δ',s,e,k⟩:=h;cases e;exact k v H F own (Zm.refl H) (Zm.refl F) s ⟨[],.fz<|a F⟩
@[simp]def Zh:FA:=λδ=>some ([],δ)
@[simp]noncomputable def Zd(fe:FE)(fa:FA):FA:=λδ=>(fe δ).bind λp=>(fa p.2).bind λq=>some (p.1::q.1,q.2)
@[simp]def Ae:List RV->Y5->Option (List D)
 | [],_=>aA []
 |rv::r,δ=>(rdv rv δ).bind λd=>(Ae r δ).bind λds=>aA (d::ds)
theorem SR.rdAll(s:SR Z F H σ δ own)(h:RVSs K F σ ZH vs)(e:Ae ZH δ=aA ds):RepNs K F H ds vs:=by
 induction h generalizing ds with
 |nil=>cases e;exact .nil
 |cons h _ a=>refine L2.dN e λd l j=>?_;refine L2.dN j λds f c=>?_;cases c;exact .cons (s.rd h l)<|a f
@[simp]def Yh(g:À D->Á SV)(fa:FA):FE:=λδ=>(fa δ).bind λp=>(Ae p.1 p.2).bind λds=>(g ds).bind λsv=>some (.tmp sv,p.2)
def Ox(Z:dP K)(r:À V->Hp->VK->Prop)(g:À D->Á SV):Prop:=
 ∀(F H:Hp) (σ:St) (δ:Y5) (own:Nat->Zy) (vs:À V) (ds:À D) (sv:SV) (Q:VK),SR Z F H σ δ own->RepNs K F H ds vs->g ds=aA sv->B2 Z F H σ δ own sv Q->r vs H Q
theorem K3(q:Ox Z r g)(h:liftE Z (Yh g fa) σ H Q):tCB r (liftA Z fa) σ H Q:=by obtain⟨F,δ,own,rv,δ',s,e,k⟩:=h;refine L2.dO e λj δ1 A z=>?_;refine L2.dN z λds y x=>?_;refine L2.dN x λsv w u=>?_;cases u;refine⟨F,δ,own,j,δ1,s,A,λvs H1 C a m n l p=>?_⟩;exact q C H1 σ δ1 a vs ds sv Q l (l.rdAll p y) w λv H2 B ns c f o t=>k v H2 B a (m.trans c) (n.trans f) o ⟨ns,t⟩
@[simp]noncomputable def g2(g:D->D->Option SV):List D->Option SV
 | [x,y]=>g x y
 |_=>aB
@[simp]def Zf(g:D->D->Á SV)(fa fb:FE):FE:=Yh (g2 g)<|Zd fa<|Zd fb Zh
def Wd(Z:dP K)(r:R2)(g:D->D->Á SV):Prop:=
 ∀(F H:Hp) (σ:St) (δ:Y5) (own:Nat->Zy) (x y:V) (c a:D) (sv:SV) (Q:VK),SR Z F H σ δ own->Yz K F H c x->Yz K F H a y->g c a=aA sv->B2 Z F H σ δ own sv Q->r x y H Q
theorem P5(R:Wd Z r g)(h:liftE Z (Zf g fa fb) σ H Q):tOp r (liftE Z fa) (liftE Z fb) σ H Q:=by
 have U:Ox Z (λvs H Q=>∃x y,vs=[x,y]/\r x y H Q)<|g2 g:=by
  intro F H σ δ own vs ds sv Q s G e f;cases G with
  |nil=>cases e
  |cons h1 E=>
   cases E with
   |nil=>cases e
   |cons h2 C=>
    cases C with
    |nil=>exact⟨_,_,rfl,R F H σ δ own _ _ _ _ sv Q s h1 h2 e f⟩
    |cons h3 t3=>cases e
 refine Wv λ_ B=>?_;obtain⟨F,δ,own,rv,δ',s,e,k⟩:=K3 U h;refine L2.dO e λw δ1 e1 e2=>?_;refine L2.dO e2 λrr δ2 e3 e4=>?_;cases e4;refine L2.dO e3 λp m e5 e6=>?_;refine L2.dO e6 λI A Y W=>?_;cases W;cases Y;apply B;refine⟨F,δ,own,w,δ1,s,e1,λv H1 F1 l K L i O=>?_⟩;obtain⟨F2,o,X,N⟩:=i.settleR O;refine⟨F2,δ1,l,p,m,X,e5,λu H3 F3 j n c T M=>?_⟩;obtain⟨F4,a,P,J⟩:=T.settleR M;obtain⟨x,y,z,q⟩:=k [v,u] H3 F4 j (K.trans n) (L.trans<|o.trans<|c.trans a) P<|.cons (N.mono<|c.trans a)<|.cons J .nil;injection z with ex ey
 injection ey with ey _;subst ex ey;exact q
@[simp]def Af(g:D->Option SV)(fa:FE):FE:=Yh (λ| [x]=>g x|_=>none)<|Zd fa Zh
def UK(Z:dP K)(r:V->Hp->VK->Prop)(g:D->Á SV):Prop:=
 ∀(F H:Hp) (σ:St) (δ:Y5) (own:Nat->Zy) (x:V) (d:D) (sv:SV) (Q:VK),SR Z F H σ δ own->Yz K F H d x->g d=aA sv->B2 Z F H σ δ own sv Q->r x H Q
theorem RM(K:UK Z r g)(h:liftE Z (Af g fa) σ H Q):tUn r (liftE Z fa) σ H Q:=by refine Wv λ_ w=>?_;obtain⟨F,δ,own,rv,δ',s,e,k⟩:=h;refine L2.dO e λA δ1 M J=>?_;refine L2.dN J λds I G=>?_;refine L2.dN G λsv i X=>?_;cases X;refine L2.dO M λm δ2 T P=>?_;refine L2.dO P λB u L p=>?_;cases p;cases L;refine L2.dN I λd o n=>?_;cases n;apply w;refine⟨F,δ,own,m,δ2,s,T,λv H1 O a x y z E=>?_⟩;obtain⟨N,l,f,C⟩:=z.settleR E;exact K N H1 σ δ2 a v d sv Q f (f.rd C o) i λv H2 q ns j c f t=>k v H2 q a (x.trans j) (y.trans<|l.trans c) f ⟨ns,t⟩
@[simp]def Zp:FD:=λδ=>some ([],δ)
@[simp]def Zl(fe:FE)(fd:FD):FD:=λδ=>(fe δ).bind λp=>(frz p.1 p.2).bind λq=>(fd q.2).bind λr=>some (q.1::r.1,r.2)
theorem P6(h:liftD Z Zp σ H R):T7 σ H R:=by obtain⟨F,δ,own,a,δ',s,e,k⟩:=h;cases e;exact k [] H F own (Zm.refl H) (Zm.refl F) s .nil
theorem Tb(h:liftD Z (Zl fe fd) σ H R):G1 (liftE Z fe) (liftD Z fd) σ H R:=by obtain⟨F,δ,own,y,δ',s,e,k⟩:=h;refine L2.dO e λrv δ1 T Q=>?_;refine L2.dO Q λd δ2 P L=>?_;refine L2.dO L λds j K E=>?_;cases E;refine⟨F,δ,own,rv,δ1,s,T,λv H1 G o p q x C=>?_⟩;obtain⟨i,n,w,B⟩:=x.settleR C;obtain⟨g,f,m,u,A⟩:=w.frzR B P;exact⟨g,δ2,f,ds,j,u,K,λvs X F4 c l a r z=>k _ X F4 c (p.trans l) (q.trans<|n.trans<|m.trans a) r<|.cons (A.mono a) z⟩
@[simp]noncomputable def tupF(fd:FD):FE:=λδ=>(fd δ).bind λp=>if p.1.length<=dg then some (.tmp<|.fz<|.tup p.1,p.2)else none
@[simp]noncomputable def Qa(fd:FD):FE:=λδ=>(fd δ).bind λp=>if p.1.length<=dg then some (.tmp<|.ol p.1,p.2)else none
end
@[simp]noncomputable def SV.scal:SV->Bool
 | .fz .non=>aC
 | .fz (.bl _)=>aC
 | .fz (.int _)=>aC
 | .fz (.str _)=>aC
 |_=>aE
def Uv(K:ak)(n:Nat)(g:À D->Á SV):Sp:=λvs H Q _=>∃F ds sv,Zm F H/\dJ K F ds vs/\ds.length=n/\g ds=aA sv/\
 ∀v H' F' ns,Zm H H'->Zm F F'->Zm F' H'->(∀(b:aq) (o:HO),F' b=aA o->F b=aA o\/H b=aB)->dQ K F' sv v ns->(Jj ns).Nodup->(∀p∈ns,F' p.1=aB/\H p.1=aB/\H' p.1=aA p.2)->Q v H'
@[simp]def frzAll:List RV->Y5->Option (List D×Y5)
 | [],δ=>aA ([],δ)
 |rv::r,δ=>(frz rv δ).bind λp=>(frzAll r p.2).bind λq=>aA (p.1::q.1,q.2)
theorem RVSs.mono(s:Zm F F')(h:RVSs K F σ ZH vs):RVSs K F' σ ZH vs:=by
 induction h with
 |nil=>exact .nil
 |cons h _ a=>exact .cons (h.mono s) a
section
variable{Z:dP K}
theorem SR.frzAll{F:Hp}{δ:Y5}{own:Nat->Zy}:∀{f:À RV} {vs:À V} {ds:À D} {δ':Y5} {F:Hp} {δ:Y5} {own:Nat->Zy},SR Z F H σ δ own->RVSs K F σ f vs->L2.frzAll f δ=aA (ds,δ')->
  E2 λi g=>A3 (Zm F i) (SR Z i H σ δ' g)<|dJ K i ds vs
 |_,_,_,_,F,_,own,s,.nil,e=>by cases e;exact⟨F,own,Zm.refl F,s,.nil⟩
 |_,_,_,_,F,_,own,s,.cons h t,e=>by refine Wv λ_ l=>?_;refine L2.dO e λd δ1 v u=>?_;refine L2.dO u λds δ2 r q=>?_;cases q;obtain⟨i,g,c,n,p⟩:=s.frzR h v;obtain⟨w,j,a,m,o⟩:=SR.frzAll (own:=own) (F:=F) (δ:=δ1) n (t.mono c) r;apply l;exact⟨w,j,c.trans a,m,.cons (p.mono a) o⟩
noncomputable def Mw:List D->Nat->Bool
 | [],0=>aC
 | [],_+1=>aE
 |_::_,0=>aE
 |_::r,n+1=>Mw r n
@[simp]theorem ed:Mw [] 0=true:=rfl
@[simp]theorem eZ(d r n):Mw (d::r) (n+1)=Mw r n:=rfl
theorem Rm:∀{l:À D} {n:Nat},Mw l n=aC->l.length=n
 | [],0,_=>rfl
 | [],_+1,h=>nomatch h
 |_::_,0,h=>nomatch h
 |_::_,_+1,h=>congrArg (· +1)<|Rm h
@[simp]def Z0(n:Nat)(g:List D->Option SV)(fa:FA):FE:=λδ=>(fa δ).bind λp=>(L2.frzAll p.1 p.2).bind λq=>match Mw q.1 n with|true=>(g q.1).bind λsv=>some (.tmp sv,match sv.scal with|true=>p.2|false=>q.2)|false=>none
theorem Dw(h:sv.scal=aC)(a:dQ K F sv v ns):ns=[]/\dQ K F' sv v []:=by
 cases a with
 |fz r=>
  refine⟨rfl,.fz ?_⟩;cases r with
  |non=>exact .non
  |bl b=>exact .bl b
  |int i=>exact .int i
  |str x=>exact .str x
  |tup _ _=>cases h
  |lst _ _ _=>cases h
  |dK _ _ _=>cases h
  |dT _ _ _ _=>cases h
  |exc _ _=>cases h
  |exd _ _ _ _ _=>cases h
 |ol _=>cases h
 |oK _ _=>cases h
 |oT _ _ _=>cases h
 |oN _ _=>cases h
 |oR _ _=>cases h
 |oL _ _=>cases h
 |oQ _ _=>cases h
theorem TR(h:liftE Z (Z0 n g fa) σ H Q):Dm (Uv K n g) [] E (liftA Z fa) σ H Q:=by
 obtain⟨F,δ,own,rv,δ',s,e,k⟩:=h;refine L2.dO e λT δ1 e1 e2=>?_;refine L2.dO e2 λds δ2 e3 C=>?_;dsimp only at C;split at C
 .rename_i hn;replace hn:=Rm hn;refine L2.dN C λsv e5 B=>?_;refine⟨F,δ,own,T,δ1,s,e1,λvs H1 R A M N O Y=>?_⟩;obtain⟨F2,l,P,j,W⟩:=O.frzAll (own:=own) (F:=F) (δ:=δ) Y e3;rw[iq];refine⟨F2,ds,sv,j.le,W,hn,e5,λv G I ns f x X m J nd ok=>?_⟩;by_cases hs:sv.scal=aC
  .rw[hs]at B;cases B;obtain⟨_,L⟩:=Dw (F':=R) hs J;exact k v G R A (M.trans f) N (O.grow f) ⟨[],L,gd,λ_ h=>(nomatch h),λ_ _ _ h=>(nomatch h)⟩
  .rw[eq_false_of_ne_true hs]at B;cases B;have U:SR Z I G σ δ2 l:=by
    refine⟨X,λb o e=>?_,j.old.trans f,j.len,λi sw ei=>?_,j.nod,λi p r=>?_,j.sep⟩
    .rcases m b o e with z|z
     .exact j.fro b o z
     .exact .inr (j.old.free z)
    .obtain⟨w,h1,h2⟩:=j.at' i sw ei;exact⟨w,h1,h2.mono x⟩
    .obtain⟨a,b,c⟩:=j.ok i p r;refine⟨?_,b,f _ _ c⟩;cases z:I p.1 with
     |none=>rfl
     |some u=>
      rcases m _ u z with y|y
      .rw[a]at y;cases y
      .rw[c]at y;cases y
   exact k v G I l (M.trans f) (N.trans<|P.trans x) U ⟨ns,J,nd,λp r=>⟨(ok p r).1,(j.old).free (ok p r).2.1,(ok p r).2.2⟩,λi p q r hq e=>by
    have z:=(j.ok i q hq).2.2;rw[<-e,(ok p r).2.1]at z;cases z⟩
 .cases C
end
end
section
variable{K:ak}
section
variable{Z:dP K}
@[simp]noncomputable def Zq(fe:FE):FT:=λδ=>(fe δ).bind λp=>match p.1 with
 | .tmp (.fz<|.bl b)=>aA (b,p.2)
 |_=>aB
theorem TN(h:liftT Z (Zq fe) σ H R):PX (liftE Z fe) σ H R:=by
 obtain⟨F,δ,own,b,δ',s,e,k⟩:=h;refine L2.dO e λrv δ1 n c=>?_;refine⟨F,δ,own,rv,δ1,s,n,λv H1 o a f j l m=>?_⟩;dsimp only at c;split at c
 .cases c;obtain⟨ns,t⟩:=m;cases Q0 t.sh;exact⟨_,rfl,k H1 o a f j l⟩
 .cases c
@[simp]noncomputable def YF(f g:FT):FT:=λδ=>(f δ).bind λp=>cond p.1 (g p.2)<|some (false,p.2)
@[simp]noncomputable def orF(f g:FT):FT:=λδ=>(f δ).bind λp=>cond p.1 (some (true,p.2))<|g p.2
@[simp]noncomputable def Mm(f:FT):FT:=λδ=>(f δ).bind λp=>some (!p.1,p.2)
@[simp]def VJ(f g:FE):FE:=λδ=>(Zq f δ).bind λp=>cond p.1 (g p.2)<|some (.tmp<|.fz<|.bl false,p.2)
theorem PN:P4 Z F H σ own (.tmp<|.fz<|.bl b)<|.bl b:=⟨[],.fz<|.bl b⟩
@[simp]def ifF(t:FT)(f g:FE):FE:=λδ=>(t δ).bind λp=>cond p.1 (f p.2)<|g p.2
@[simp]def MA(g g':D->D->Option SV)(fa fb fc:FE):FE:=λδ=>(fa δ).bind λp=>(fb p.2).bind λq=>(rdv p.1 q.2).bind λx=>(rdv q.1 q.2).bind λy=>(g x y).bind fun
 | .fz (.bl aC)=>(fc q.2).bind λr=>(rdv q.1 r.2).bind λa=>(rdv r.1 r.2).bind λz=>(g' a z).bind λsv=>aA (.tmp sv,r.2)
 | .fz (.bl aE)=>aA (.tmp<|.fz<|.bl aE,q.2)
 |_=>aB
end
set_option genInjectivity true in
inductive Fl where
 |nx (δ:Y5)|bk (δ:Y5)|ct (δ:Y5)|rt (sv:SV)|ex (e:Exn) (δ:Y5)
abbrev FS:=Y5->Á Fl
def Tc(Z:dP K)(F:Hp)(D:Ends):Fl->Prop
 | .nx δ=>∀a H' F' c,Zm F F'->SR Z F' H' a δ c->D.nx a H'
 | .bk δ=>∀a H' F' c,Zm F F'->SR Z F' H' a δ c->D.bk a H'
 | .ct δ=>∀a H' F' c,Zm F F'->SR Z F' H' a δ c->D.ct a H'
 | .rt sv=>∀v H' F' ns,Zm F F'->Zm F' H'->(∀(b:aq) (o:HO),F' b=aA o->Z.f b=aA o\/Z.h b=aB)->Zm Z.h H'->dQ K F' sv v ns->(Jj ns).Nodup->
   (∀p∈ns,F' p.1=aB/\Z.h p.1=aB/\H' p.1=aA p.2)->D.rt v H'
 | .ex x δ=>∀a H' F' c j od,Zm F F'->SR Z F' H' a δ c->TU K F' x j od->Z.x j od a H'
theorem Tc.mono{Z:dP K}{D}(s:Zm F F'):∀{fl:Fl},Tc Z F D fl->Tc Z F' D fl
 | .nx _,h=>λf H' j c a b=>h f H' j c (s.trans a) b
 | .bk _,h=>λf H' j c a b=>h f H' j c (s.trans a) b
 | .ct _,h=>λf H' j c a b=>h f H' j c (s.trans a) b
 | .rt _,h=>λv H' j ns a=>h v H' j ns<|s.trans a
 | .ex _ _,h=>λf H' j c l od a=>h f H' j c l od<|s.trans a
inductive liftS(Z:dP K)(f:FS)(D:Ends)(σ H):Prop where
 |mk (F δ own fl) (s:SR Z F H σ δ own) (e:f δ=aA fl) (k:Tc Z F D fl)
section
variable{Z:dP K}{H:Hp}{σ:St}
@[simp]def Yb:FS:=λδ=>some<|.nx δ
theorem sB(h:liftS Z Yb E σ H):P_ E σ H:=by obtain⟨F,δ,own,fl,s,e,k⟩:=h;cases e;exact k σ H F own (Zm.refl F) s
@[simp]def Zo(f g:FS):FS:=λδ=>(f δ).bind fun
 | .nx δ'=>g δ'
 |fl=>aA fl
@[simp]def Wo(t:FT)(f g:FS):FS:=λδ=>(t δ).bind λp=>cond p.1 (f p.2)<|g p.2
@[simp]def WF(fe:FE):FS:=λδ=>(fe δ).bind λp=>some<|.nx p.2
theorem sA(h:liftS Z (WF fe) E σ H):Ch (liftE Z fe) E σ H:=by obtain⟨F,δ,own,fl,s,e,k⟩:=h;refine L2.dO e λrv δ1 l j=>?_;cases j;exact⟨F,δ,own,rv,δ1,s,l,λv H1 m a n c f _=>k σ H1 m a c f⟩
@[simp]noncomputable def gK:RV->Y5->Option SV
 | .tmp sv,_=>aA sv
 | .bw i,δ=>δ[i]?.join
@[simp]noncomputable def Ym(fe:FE):FS:=λδ=>(fe δ).bind λp=>(gK p.1 p.2).bind λsv=>some<|.rt sv
theorem wM(h:liftS Z (Ym fe) E σ H):QC (liftE Z fe) E σ H:=by
 obtain⟨F,δ,own,fl,s,e,k⟩:=h;refine L2.dO e λrv δ1 q p=>?_;refine L2.dN p λsv m o=>?_;cases o;refine⟨F,δ,own,rv,δ1,s,q,λv H1 n c r j a l=>?_⟩;cases rv with
 |tmp sw=>cases m;obtain⟨ns,t⟩:=l;exact k v H1 n ns j a.le a.fro a.old t.sh t.nd t.ok
 |bw i=>obtain⟨w,h1,h2⟩:=a.at' i sv<|Op m;have f:σ[i]? =aA (aA v):=l;rw[f]at h1;cases h1;exact k v H1 n (c i) j a.le a.fro a.old h2 (a.nod i)<|a.ok i
@[simp]noncomputable def inB{α:Type}(δ:Y5)(i:Nat)(x:α):Option α:=match δ[i]? with
 |some _=>aA x
 |none=>aB
theorem Ag{x:α}(e:inB δ i x=aA y):i<δ.length/\x=y:=by
 unfold inB at e;split at e
 .rename_i h;cases e;exact⟨(ci.mp h).1,rfl⟩
 .cases e
@[simp]def stow(i:Nat):RV->Y5->Option Y5
 | .tmp sv,δ=>inB δ i<|δ.set i<|aA sv
 | .bw j,δ=>(frz (.bw j) δ).bind λp=>inB p.2 i<|p.2.set i<|aA<|.fz p.1
theorem SR.stow(s:SR Z F H σ δ own)(r:P4 Z F H σ own rv v)(e:L2.stow i rv δ=aA δ'):E2 λF' g=>Zm F F'/\SR Z F' H (σ.set i<|aA v) δ' g:=by
 cases rv with
 |tmp sv=>obtain⟨ns,t⟩:=r;obtain⟨a,rfl⟩:=Ag (x:=δ.set i<|aA sv) e;exact⟨F,_,Zm.refl F,s.store t (by rw[s.len];exact a)⟩
 |bw j=>refine L2.dO e λd δ1 n m=>?_;obtain⟨o,f,h,c,l⟩:=s.frzR (rv:=.bw j) (v:=v) r n;obtain⟨a,rfl⟩:=Ag m;exact⟨o,_,h,c.store (.fz l) (by rw[c.len];exact a)⟩
@[simp]def Z1(i:Nat)(fe:FE):FS:=λδ=>(fe δ).bind λp=>(stow i p.1 p.2).bind λδ'=>some<|.nx δ'
theorem WE(h:liftS Z (Z1 i fe) E σ H):XA (liftE Z fe) (Ko i) E σ H:=by obtain⟨F,δ,own,fl,s,e,k⟩:=h;refine L2.dO e λrv δ1 r q=>?_;refine L2.dN q λδ2 p o=>?_;cases o;refine⟨F,δ,own,rv,δ1,s,r,λv H1 x f w j m n=>?_⟩;obtain⟨u,a,c,l⟩:=m.stow n p;exact k _ H1 u a (j.trans c) l
structure FG where
 run:D->Y5->Á Y5
 tch:À Nat
structure FGs where
 run:À D->Y5->Á Y5
 tch:À Nat
inductive liftG(Z:dP K)(g:FG)(v:V)(σ H) (Q:L2.St->Hp->Prop):Prop where
 |mk (F δ own d δ') (s:SR Z F H σ δ own) (r:dS K F d v) (e:g.run d δ=aA δ') (k:∀ZQ ZD,SR Z F H ZQ δ' ZD->(∀j:Nat,j∉g.tch->ZQ[j]? =σ[j]?)->Q ZQ H)
inductive liftGs(Z:dP K)(g:FGs)(v:List V)(σ H) (Q:L2.St->Hp->Prop):Prop where
 |mk (F δ own d δ') (s:SR Z F H σ δ own) (r:dJ K F d v) (e:g.run d δ=aA δ') (k:∀ZQ ZD,SR Z F H ZQ δ' ZD->(∀j:Nat,j∉g.tch->ZQ[j]? =σ[j]?)->Q ZQ H)
def Zj(i:Nat):FG:=⟨λd δ=>inB δ i<|δ.set i<|aA<|.fz d,[i]⟩
noncomputable def W0:FGs:=⟨λds δ=>match ds with
 | []=>aA δ
 |_=>aB,[]⟩
noncomputable def Yj(g:FG)(r:FGs):FGs:=⟨λds δ=>match ds with
 |d::t=>(g.run d δ).bind λδ1=>r.run t δ1
 | []=>aB,g.tch++r.tch⟩
@[simp]theorem eD(i d δ):(Zj i).run d δ=inB δ i (δ.set i<|some<|.fz d):=rfl
@[simp]theorem eB(δ):W0.run [] δ=some δ:=rfl
@[simp]theorem eC(g r d t δ):(Yj g r).run (d::t) δ=(g.run d δ).bind λδ1=>r.run t δ1:=rfl
theorem t_(h:liftGs Z W0 vs σ H Q):R' vs σ H Q:=by
 obtain⟨F,δ,own,ds,δ',s,r,e,k⟩:=h;cases r with
 |nil=>cases e;exact⟨rfl,k σ own s λ_ _=>rfl⟩
 |cons h t=>cases e
def W1(n:Nat)(g:FGs):FG:=⟨λd δ=>match d with
 | .tup xs=>match Mw xs n with|true=>g.run xs δ|false=>aB
 |_=>aB,g.tch⟩
@[simp]theorem eA(n g xs δ):(W1 n g).run (.tup xs) δ=match Mw xs n with|true=>g.run xs δ|false=>none:=rfl
@[simp]noncomputable def Yq(tg:FG)(body:FS):List D->Y5->Option Fl
 | [],δ=>aA<|.nx δ
 |d::ds,δ=>(tg.run d δ).bind λδ1=>(body δ1).bind fun
  | .nx δ2=>Yq tg body ds δ2
  | .ct δ2=>Yq tg body ds δ2
  | .bk δ2=>aA<|.nx δ2
  | .rt sv=>aA<|.rt sv
  | .ex x δ2=>aA<|.ex x δ2
def Td(K:ak)(J:It)(F:Hp)(ds:À D):Prop:=∀F' H,Zm F F'->Zm F' H->∀i:Nat,
 (∀d,ds[i]? =aA d->J.go i H/\∀x H',J.yld i H x H'->Zm H H'/\∃ns,(Jj ns).Nodup/\(∀p∈ns,H p.1=aB/\H' p.1=aA p.2)/\dS K (J1 F' ns) d x)/\(ds.length<=i->J.stop i H)
inductive liftI(Z:dP K)(f:FD)(σ H) (Q:It->Hp->Prop):Prop where
 |mk (F δ own ds δ') (s:SR Z F H σ δ own) (e:f δ=aA (ds,δ')) (k:∀J H' F' ZD,Zm H H'->Zm F F'->SR Z F' H' σ δ' ZD->Td K J F' ds->Q J H')
@[simp]def Q3(a:FD)(tg:FG)(body:FS):FS:=λδ=>(a δ).bind λp=>Yq tg body p.1 p.2
theorem SR.fresh(s:SR Z F H σ δ own)(c:Zm H H')(f:(Jj ns).Nodup)(h:∀p∈ns,H p.1=aB/\H' p.1=aA p.2):Zm F (J1 F ns)/\SR Z (J1 F ns) H' σ δ own:=by refine⟨Qf λp a=>s.le.free (h p a).1,(s.grow c).addF f (λp a=>s.le.free (h p a).1) (λp a=>(h p a).2) (λp a=>s.old.free (h p a).1) λi p q a j e=>?_⟩;have z:=(s.ok i q j).2.2;rw[<-e,(h p a).1]at z;cases z
theorem wL(h:liftS Z (Q3 fi tg body) E σ H):RZ (liftI Z fi) (liftG Z tg) (liftS Z body) E σ H:=by
 obtain⟨F,δ,own,fl,s,e,k⟩:=h;refine L2.dO e λds δ1 e1 e2=>?_;refine⟨F,δ,own,ds,δ1,s,e1,λJ H1 T B sH L s1 M=>?_⟩;refine⟨λi m σ H=>m=ds.length- i/\i<=ds.length/\∃F δ own,Zm T F/\SR Z F H σ δ own/\Yq tg body (ds.drop i) δ=aA fl,⟨ds.length,Δ,gr _,T,δ1,B,Zm.refl T,s1,e2⟩,?_⟩;rintro i m X H' ⟨rfl,hi,K,δ2,r,j,P,Q⟩;by_cases p:i<ds.length
 .have hd:ds[i]? =aA ds[i]:=by simp[p]
  obtain⟨go,U⟩:=(M K H' j P.le i).1 _ hd;rw[ic p]at Q;refine L2.dN Q λy e3 e4=>?_;refine L2.dN e4 λN e5 C=>?_;refine .inr ⟨go,λw O=>∃F δ own,Zm T F/\SR Z F O w δ own/\Yq tg body (ds.drop<|i+1) δ=aA fl,λw O ⟨F4,g,A,a,b,c⟩=>⟨ds.length- (i+1),vg _ _ p,rfl,p,F4,g,A,a,b,c⟩,λx H3 hy=>?_⟩;obtain⟨W,ns,nd,hn,rp⟩:=U x H3 hy;obtain⟨o,sn⟩:=P.fresh W nd hn;refine⟨J1 K ns,δ2,r,_,y,sn,rp,e3,λR z Y _=>⟨J1 K ns,y,z,N,Y,e5,?_⟩⟩;cases N with
  |nx n=>exact λl u q f a b=>⟨q,n,f,j.trans<|o.trans a,b,C⟩
  |ct n=>exact λl u q f a b=>⟨q,n,f,j.trans<|o.trans a,b,C⟩
  |bk n=>cases C;exact λl u q f a b=>k l u q f (L.trans<|j.trans<|o.trans a) b
  |rt sv=>cases C;exact λv u q G a=>k v u q G<|L.trans<|j.trans<|o.trans a
  |ex x n=>cases C;exact λl u q f I od a=>k l u q f I od<|L.trans<|j.trans<|o.trans a
 .have hz:i=ds.length:=Θ
  subst hz;rw[w8]at Q;cases Q;exact .inl ⟨(M K H' j P.le _).2<|cj _,k X H' K r (L.trans j) P⟩
noncomputable def Qj(t:FT)(body:FS):Nat->Y5->Option Fl
 |0,_=>aB
 |n+1,δ=>(t δ).bind λp=>match p.1 with|false=>aA (.nx p.2)|true=>(body p.2).bind (fun
  | .nx δ2=>Qj t body n δ2
  | .ct δ2=>Qj t body n δ2
  | .bk δ2=>aA<|.nx δ2
  | .rt sv=>aA<|.rt sv
  | .ex x δ2=>aA<|.ex x δ2)
theorem oC(h:liftS Z (Qj t body n) E σ H):N_ (liftT Z t) (liftS Z body) E σ H:=by
 obtain⟨F,δ,own,fl,s,e,k⟩:=h;refine⟨λm σ H=>∃u δ own,Zm F u/\SR Z u H σ δ own/\Qj t body m δ=aA fl,⟨n,F,δ,own,Zm.refl F,s,e⟩,?_⟩;rintro m C H1 ⟨I,δ1,A,l,g,X⟩;cases m with
 |zero=>cases X
 |succ m=>
  refine L2.dO X λc δ2 G T=>?_;refine⟨I,δ1,A,c,δ2,g,G,λH2 u r J j P=>?_⟩;cases c with
  |false=>rw[dY df];cases T;exact k C H2 u r (l.trans j) P
  |true=>
   refine L2.dN T λQ i B=>?_;refine⟨λz H'=>∃u δ own,Zm F u/\SR Z u H' z δ own/\Qj t body m δ=aA fl,λz H' w=>⟨m,uo m,w⟩,u,δ2,r,Q,P,i,?_⟩;cases Q with
   |nx p=>exact λo y q f a b=>⟨q,p,f,l.trans<|j.trans a,b,B⟩
   |ct p=>exact λo y q f a b=>⟨q,p,f,l.trans<|j.trans a,b,B⟩
   |bk p=>cases B;exact λo y q f a b=>k o y q f (l.trans<|j.trans a) b
   |rt sv=>cases B;exact λv y q K a=>k v y q K<|l.trans<|j.trans a
   |ex x p=>cases B;exact λo y q f L od a=>k o y q f L od<|l.trans<|j.trans a
theorem Dx(h:W3 K F a vs)(r:dJ K F xs vs):Td K (Itl K a) F xs:=λF' H f l i=>by have q:W3 K H a vs:=Yt (f.trans l) h;refine⟨λd hd=>?_,λm=>⟨vs,q,by rw[<-r.length];exact m⟩⟩;obtain⟨v,h1,h2⟩:=r.get hd;refine⟨⟨vs,v,q,h1⟩,λx H' c=>?_⟩;obtain⟨o,n⟩:=c;subst o;have j:=n vs q;rw[h1]at j;cases j;exact⟨Zm.refl _,[],gd,λ_ h=>(nomatch h),h2.mono f⟩
theorem iN(h:Eu K F a vs)(r:dJ K F xs vs):Td K (Itt K a) F xs:=λF' H f l i=>by have q:Eu K H a vs:=Ut (f.trans l) h;refine⟨λd hd=>?_,λm=>⟨vs,q,by rw[<-r.length];exact m⟩⟩;obtain⟨v,h1,h2⟩:=r.get hd;refine⟨⟨vs,v,q,h1⟩,λx H' c=>?_⟩;obtain⟨o,n⟩:=c;subst o;have j:=n vs q;rw[h1]at j;cases j;exact⟨Zm.refl _,[],gd,λ_ h=>(nomatch h),h2.mono f⟩
noncomputable def K4(lo:Int)(n:Nat):À D:=(gz n).map λi=>.int<|lo+(i:Nat)
theorem Xg{lo}:Td K (Itr lo n) F<|K4 lo n:=λF' H o m i=>by
 have c:(K4 lo n).length=n:=by unfold K4;rw[aj,List.length_range]
 refine⟨λd hd=>?_,λh=>by rw[c]at h;exact h⟩;have f:i<n:=by have:=(ci.mp hd).1;rw[c]at this;exact this
 refine⟨f,λx H' a=>?_⟩;obtain⟨l,j⟩:=a;subst l j;unfold K4 at hd;rw[c8,vw f]at hd;cases hd;exact⟨Zm.refl _,[],gd,λ_ h=>(nomatch h),.int _⟩
def Dy(j:Int):Prop:=-(2^62)<=j/\j<2^62
theorem Ro{n:Nat}(h:n<=16777216):Dy (n:Int):=⟨by clear h;lia,Θ⟩
open Classical in
@[simp]def ZW(fa:FA):FD:=λδ=>(fa δ).bind λp=>match Ae p.1 p.2 with
 |some [.int j]=>if Dy j then aA (K4 0 j.toNat,p.2)else aB
 |_=>aB
@[simp]def B3(i:Nat)(fe:FE):FS:=λδ=>match δ[i]? with
 |some (aA<|.ol _)=>(fe δ).bind λp=>(frz p.1 p.2).bind λq=>match q.2[i]? with
  |some (aA<|.ol xs)=>if xs.length<dg then aA (.nx<|q.2.set i<|aA<|.ol<|xs++[q.1])else aB
  |_=>aB
 |_=>aB
theorem Qb(h:dQ K F (.ol xs) v ns):E2 λa vs=>A3 (v= .ref a) (ns=[(a,.lst vs)])<|dJ K F xs vs:=by
 cases h with
 |ol r=>exact⟨_,_,rfl,rfl,r⟩
theorem OH(h:liftS Z (B3 i fe) E σ H):Ch (tBM K "list" Be (Bb i)<|G1 (liftE Z fe) T7) E σ H:=by
 obtain⟨F,δ,own,fl,s,e,k⟩:=h;unfold B3 at e;split at e
 .rename_i C r;refine L2.dO e λrv δ1 R O=>?_;refine L2.dO O λd δ2 N c=>?_;obtain⟨v,u,L⟩:=s.at' i _ r;obtain⟨a,f,ev,J,r0⟩:=Qb L;refine⟨v,u,?_,F,δ,own,rv,δ1,s,R,λy H1 F1 z Y P T G=>?_⟩
  .subst ev;exact .inl ⟨rfl,f,.inl<|.inl (s.ok i (a,.lst f) (by rw[J];exact ac)).2.2⟩
  obtain⟨F2,o,Q,g⟩:=T.settleR G;obtain⟨U,j,n,q,X⟩:=Q.frzR g N;dsimp only at c;split at c
  .rename_i xs B;by_cases hz:xs.length<dg
   .rw[dZ hz]at c;cases c;obtain⟨W,l,m⟩:=q.at' i _ B;rw[u]at l;cases l;obtain⟨b,vs,M,w,x⟩:=Qb m;have A:(b,HO.lst vs)∈j i:=by rw[w];exact ac
    subst M;refine⟨b,vs,y,rfl,rfl,(q.ok i _ A).2.2,by rw[<-x.length];exact hz,?_⟩;exact k σ _ U _ (P.trans<|o.trans n)<|q.change (sv':=.ol<|xs++[d]) (o':=.lst<|vs++[y]) (ns':=[(b,.lst<|vs++[y])]) B u A (.ol<|x.snoc X) (λp I=>.inl<|ao.mp I) Fs
   .rw[dY hz]at c;cases c
  .cases c
 .cases e
end
noncomputable def Qu:Nat->List D->Y5
 |0,ds=>ds.map λd=>aA<|.fz d
 |n+1,[]=>aB::Qu n []
 |n+1,d::r=>aA (.fz d)::Qu n r
@[simp]theorem dE:Qu 0 []=[]:=rfl
@[simp]theorem dD(n):Qu (n+1) []=none::Qu n []:=rfl
@[simp]theorem dC(n d r):Qu (n+1) (d::r)=some (.fz d)::Qu n r:=rfl
theorem Ck:∀n ds,Qu n ds=ds.map (λd=>aA<|.fz d)++ir (n- ds.length) aB
 |0,ds=>by rw[Nat.zero_sub];exact(iq _).symm
 |n+1,[]=>congrArg (aB:: ·)<|Ck n []
 |n+1,d::r=>by rw[Qu,Ck n r,ca,Nat.add_sub_add_right];rfl
theorem Ah(le:Zm F H)(r:dJ K F ds vs):SR (ent H F:dP K) F H (L2.Qn N vs) (Qu N.length ds) λ_=>[]:=by
 have c:=r.length;refine⟨le,λb o e=>.inl e,Zm.refl H,?_,λi sv e=>?_,λ_=>gd,λ_ _ h=>(nomatch h),λ_ _ _ _ _ h=>(nomatch h)⟩
 .rw[Ck];unfold L2.Qn;rw[ax,ax,aj,aj,j0,j0,c]
 .rw[Ck]at e;by_cases a:i<ds.length
  .rw[ix ν,c8]at e;cases hd:ds[i]? with
   |none=>rw[hd]at e;cases e
   |some d=>rw[hd]at e;cases e;obtain⟨v,h1,h2⟩:=r.get hd;refine⟨v,?_,.fz h2⟩;unfold L2.Qn;rw[ix Ω,c8,h1];rfl
  .rw[jb ν,uu]at e;split at e<;> cases e
theorem K5(h:Uv K n g vs H Q E):vs.length=n:=by obtain⟨F,ds,sv,le,r,hn,e,k⟩:=h;rw[<-r.length];exact hn
end
section
variable{K:ak}
def xG(K:ak)(g:FG):TG:=λv σ H Q=>∃Z:dP K,liftG Z g v σ H Q
def xT(K:ak)(f:FT):TT:=λσ H Q=>∃Z:dP K,liftT Z f σ H Q
def xE(K:ak)(f:FE):TE:=λσ H Q=>∃Z:dP K,liftE Z f σ H Q
def Y1:FT:=λδ=>aA (aC,δ)
@[simp]theorem f'(δ):Y1 δ=some (true,δ):=rfl
@[simp]noncomputable def caps(src:List BSrc):List RV:=src.filterMap fun
 | .cap j=>aA<|.bw j
 |_=>aB
@[simp]noncomputable def TL(δ:Y5):BSrc->Option SV
 | .own=>aB
 | .cap j=>match δ[j]?.join with
  |some (.fz d)=>aA<|.fz d
  |_=>aB
 | .acc=>aA<|.ol []
@[simp]def bD(src:À BSrc)(δ:Y5):Y5:=src.map<|TL δ
@[simp]noncomputable def resetSlot:BSrc->Option SV->Option SV
 | .own,_=>aB
 |_,o=>o
@[simp]def Iz:List BSrc->Y5->Y5
 |b::r,o::t=>resetSlot b o::Iz r t
 |_,t=>t
@[simp]def Z7(src:List BSrc)(k:Nat)(g:FG)(tt:FT)(te:FE):List D->Y5->Option Y5
 | [],δ=>aA δ
 |d::ds,δ=>(g.run d δ).bind λδ1=>(tt δ1).bind λp=>match p.1 with
  |false=>Z7 src k g tt te ds<|Iz src p.2
  |true=>(te p.2).bind λq=>(frz q.1 q.2).bind λr=>match r.2[k]? with
   |some (aA<|.ol zs)=>if zs.length<dg then Z7 src k g tt te ds (Iz src<|r.2.set k<|aA<|.ol<|zs++[r.1])else aB
   |_=>aB
@[simp]def Y3(src:List BSrc)(k:Nat)(f:FD)(g:FG)(tt:FT)(te:FE):FE:=λδ=>(f δ).bind λp=>(frzAll (caps src) p.2).bind λc=>(Z7 src k g tt te p.1<|bD src c.2).bind λa=>match a[k]? with
 |some (aA<|.ol ys)=>aA (.tmp<|.ol ys,c.2)
 |_=>aB
theorem Ew:∀src δ,(Iz src δ).length=δ.length
 | [],t=>by unfold Iz;rfl
 |_::_,[]=>by unfold Iz;rfl
 |b::r,o::t=>by show(resetSlot b o::Iz r t).length=_;rw[ca,ca,Ew r t]
theorem Ex:∀{src:À BSrc} {δ:Y5} {i:Nat} {sv:SV},(Iz src δ)[i]? =aA (aA sv)->δ[i]? =aA (aA sv)
 | [],_,_,_,h=>h
 |_::_,[],_,_,h=>h
 |b::r,o::t,0,sv,h=>by
  cases b with
  |own=>cases h
  |cap j=>exact h
  |acc=>exact h
 |b::r,o::t,i+1,sv,h=>by show t[i]? =_;exact Ex h
section
variable{Z:dP K}{F H:Hp}{σ:St}{δ δ':Y5}{own:Nat->Zy}
theorem SR.forget(s:SR Z F H σ δ own)(a:δ'.length=δ.length)(h:∀(i:Nat) sv,δ'[i]? =aA (aA sv)->δ[i]? =aA (aA sv)):SR Z F H σ δ' own:=
 ⟨s.le,s.fro,s.old,s.len.trans a.symm,λi sv e=>s.at' i sv<|h i sv e,s.nod,s.ok,s.sep⟩
theorem SR.caps:∀{a:À RV} {ds:À D} {δ δ':Y5} {F:Hp} {own:Nat->Zy},(∀rv∈a,∃j,rv= .bw j)->SR Z F H σ δ own->L2.frzAll a δ=aA (ds,δ')->E2 λi g=>Zm F i/\SR Z i H σ δ' g
 | [],_,_,_,F,own,_,s,e=>by cases e;exact⟨F,own,Zm.refl F,s⟩
 |rv::r,_,_,_,F,own,hb,s,e=>by refine Wv λ_ l=>?_;refine L2.dO e λd δ1 y x=>?_;refine L2.dO x λds δ2 w u=>?_;cases u;obtain⟨j,rfl⟩:=hb rv ac;refine L2.dN y λsv q p=>?_;cases p;obtain⟨i,v,m,_,_,o⟩:=s.freeze<|Op q;obtain⟨z,c,f,n⟩:=SR.caps (λrv h=>hb rv<|ag _ h) o w;apply l;exact⟨z,c,m.trans f,n⟩
theorem SR.after(f:SR Z F H σ δ own)(j:Zm H H3)(l:Zm F F3)(m:Zm F3 H3)(h:∀b o,F3 b=aA o->F b=aA o\/H b=aB):SR Z F3 H3 σ δ own:=by
 refine⟨m,λb o e=>?_,f.old.trans j,f.len,λi sw q=>?_,f.nod,λi p n=>?_,f.sep⟩
 .rcases h b o e with z|z
  .exact f.fro b o z
  .exact .inr (f.old.free z)
 .obtain⟨w,h1,h2⟩:=f.at' i sw q;exact⟨w,h1,h2.mono l⟩
 .obtain⟨a,b,c⟩:=f.ok i p n;refine⟨?_,b,j _ _ c⟩;cases z:F3 p.1 with
  |none=>rfl
  |some u=>
   rcases h _ u z with y|y
   .rw[a]at y;cases y
   .rw[c]at y;cases y
end
structure SrcOk(src:À BSrc)(k:Nat):Prop where
 acc:src[k]? =aA .acc
 uni:∀i:Nat,src[i]? =aA .acc->i=k
theorem lV{Z:dP K}(S:SrcOk src k)(s:SR Z F H σ δ own)(l:H acc=aB):
  SR (ent H F:dP K) F (upd H acc<|.lst []) (bSt src σ acc) (bD src δ) (λi=>if i=k then[(acc,.lst [])]else[]):=by
 have f:∀{i:Nat} {p:aq×HO},p∈(if i=k then[(acc,HO.lst [])]else[])->i=k/\p=(acc,.lst []):=fun{i p} h=>by
  by_cases a:i=k
  .rw[dZ a]at h;exact⟨a,ao.mp h⟩
  .rw[dY a]at h;exact nomatch h
 refine⟨s.le.trans<|Wz l,λb o e=>.inl e,Wz l,by unfold bSt bD;rw[aj,aj],λi sv e=>?_,λi=>?_,λi p m=>?_,λi j p q n m c=>?_⟩
 .unfold bD at e;rw[c8]at e;cases c:src[i]? with
  |none=>rw[c]at e;cases e
  |some q=>
   rw[c]at e;have e:TL δ q=aA sv:=h8.inj e;cases q with
   |own=>cases e
   |acc=>cases e;have a:=S.uni i c;refine⟨.ref acc,by unfold bSt;rw[c8,c];rfl,?_⟩;rw[dZ a];exact .ol .nil
   |cap j=>
    have a:i≠k:=λz=>by rw[z,S.acc]at c;cases c
    unfold TL at e;dsimp only at e;split at e
    .rename_i d hd;cases e;obtain⟨v,h1,h2⟩:=s.at' j _<|Op hd;refine⟨v,by unfold bSt;rw[c8,c];show aA (σ[j]?).join=_;rw[h1];rfl,?_⟩;rw[dY a];exact .fz<|Q0 h2
    .cases e
 .show(Jj (if i=k then[(acc,HO.lst [])]else[])).Nodup;by_cases a:i=k
  .rw[dZ a];exact Fs
  .rw[dY a];exact gd
 .obtain⟨_,rfl⟩:=f m;exact⟨s.le.free l,l,Z8⟩
 .obtain⟨z,_⟩:=f m;obtain⟨y,_⟩:=f c;exact dt (z.trans y.symm) n
theorem TK{Z:dP K}(S:SrcOk src k)(hk:k∉g.tch)(h:liftE Z (Y3 src k fi g tt te) σ H Q):
  UL src (liftI Z fi) (xG K g) (xT K tt) (xE K te) σ H Q:=by
 obtain⟨F,δ,own,rv,δ',s,e,k0⟩:=h;refine L2.dO e λds δ1 e1 e2=>?_;refine L2.dO e2 λcs δ2 e3 e4=>?_;refine L2.dN e4 λG' e5 e6=>?_;refine⟨F,δ,own,ds,δ1,s,e1,λJ H1 F1 ZR sH sF s1 yl acc ha=>?_⟩;obtain⟨I,Y,E,s2⟩:=s1.caps (λrv hr=>by
  obtain⟨b,_,hb⟩:=m9.mp hr;cases b with
  |own=>cases hb
  |acc=>cases hb
  |cap j=>cases hb;exact⟨j,rfl⟩) e3
 have s3:=lV S s2 ha;have X:(bSt src σ acc)[k]? =aA (aA<|.ref acc):=by unfold bSt;rw[c8,S.acc];rfl
 refine⟨λi m M H=>m=ds.length- i/\i<=ds.length/\M[k]? =aA (aA<|.ref acc)/\∃F δ own,Zm I F/\SR (ent H1 I:dP K) F H M δ own/\Z7 src k g tt te (ds.drop i) δ=aA G',
  ⟨ds.length,Δ,gr _,X,I,_,_,Zm.refl I,s3,e5⟩,?_⟩
 rintro i m σ4 H4 ⟨rfl,hi,A,F4,SA,w,f,u,ef⟩;by_cases l:i<ds.length
 .have hd:ds[i]? =aA ds[i]:=by simp[l]
  refine Wv λ_ r=>?_;obtain⟨go,yy⟩:=(yl F4 H4 (E.trans f) u.le i).1 _ hd;rw[ic l]at ef;refine L2.dN ef λN e7 e8=>?_;refine L2.dO e8 λb B e9 XJ=>?_;apply r;refine .inr ⟨go,λx H5 hy=>?_⟩;refine Wv λ_ r=>?_;obtain⟨sm,ns,nd,hn,rp⟩:=yy x H5 hy;obtain⟨O,sn⟩:=u.fresh sm nd hn;apply r;refine⟨(ent H1 I:dP K),J1 F4 ns,SA,w,_,N,sn,rp,e7,λGS W s6 t6=>⟨(ent H1 I:dP K),J1 F4 ns,N,W,b,B,s6,e9,λH7 F7 v fJ R s7=>?_⟩⟩;have a:GS[k]? =aA (aA<|.ref acc):=(t6 k hk).trans A;cases b with
  |false=>exact⟨ds.length- (i+1),vg _ _ l,rfl,l,a,F7,_,v,f.trans<|O.trans R,s7.forget (Ew src B)<|λj sv hj=>Ex hj,XJ⟩
  |true=>
   dsimp only;rw[dZ rfl];refine Wv λ_ r=>?_;refine L2.dO XJ λzC FB yJ yI=>?_;refine L2.dO yI λd9 fD yH c=>?_;apply r;refine⟨(ent H1 I:dP K),F7,B,v,zC,FB,s7,yJ,λy H8 F8 zF fI AS s8 r8=>?_⟩;refine Wv λ_ r=>?_;obtain⟨F9,B',s9,r9⟩:=s8.settleR r8;obtain⟨fB,P,U,L,zE⟩:=s9.frzR r9 yH;apply r;dsimp only at c;split at c
   .rename_i zs hz;by_cases T:zs.length<dg
    .rw[dZ T]at c;refine Wv λ_ r=>?_;obtain⟨v',n,C⟩:=L.at' k _ hz;rw[a]at n;cases n;obtain⟨b,vs,eb,G,r'⟩:=Qb C;cases eb;apply r;have mb:(acc,HO.lst vs)∈P k:=by rw[G];exact ac
     refine⟨acc,vs,y,rfl,rfl,(L.ok k _ mb).2.2,by rw[<-r'.length];exact T,?_⟩;have s11:=L.change (sv':=.ol<|zs++[d9]) (o':=.lst<|vs++[y]) (ns':=[(acc,.lst<|vs++[y])]) hz a mb (.ol<|r'.snoc zE) (λp hp=>.inl<|ao.mp hp) Fs;exact⟨ds.length- (i+1),vg _ _ l,rfl,l,a,fB,_,_,f.trans<|O.trans<|R.trans<|AS.trans<|B'.trans U,s11.forget (Ew src _)<|λj sv hj=>Ex hj,c⟩
    .rw[dY T]at c;cases c
   .cases c
 .have hz:i=ds.length:=Θ
  subst hz;rw[w8]at ef;cases ef;refine .inl ⟨(yl F4 H4 (E.trans f) u.le _).2<|cj _,?_⟩;dsimp only at e6;split at e6
  .rename_i ys hys;cases e6;obtain⟨v',n,C⟩:=u.at' k _ hys;rw[A]at n;cases n;obtain⟨b,vs,eb,G,r'⟩:=Qb C;cases eb;have mb:(acc,HO.lst vs)∈w k:=by rw[G];exact ac
   obtain⟨o1,o2,o3⟩:=u.ok k _ mb;refine k0 (.ref acc) H4 F4 Y (sH.trans u.old) (sF.trans<|E.trans f) (s2.after u.old f u.le λb o e=>u.fro b o e) ⟨[(acc,.lst vs)],.ol r',Fs,λp hp=>?_,λj p q hp hq e=>?_⟩
   .obtain rfl:=ao.mp hp;exact⟨o1,s2.old.free ha,o3⟩
   .obtain rfl:=ao.mp hp;have z:=(s2.ok j q hq).2.2;have e':acc=q.1:=e;rw[<-e',ha]at z;cases z
  .cases e6
end
section
variable{K:ak}
variable{Z:dP K}
@[simp]noncomputable def ZV(f:Int->Int->D):D->D->Option SV
 | .int i,.int j=>aA<|.fz<|f i j
 |_,_=>aB
@[simp]noncomputable def XB(C:Int->Int->Bool)(f:Int->Int->D):D->D->Option SV
 | .int i,.int j=>match C i j with|true=>aA (.fz<|f i j)|false=>aB
 |_,_=>aB
theorem Dz(h:∀F i j,dS K F (f i j)<|g i j):Wd Z (rI0 g)<|ZV f:=by
 intro F H σ δ own x y m l sv Q s c a e k;unfold ZV at e;split at e
 .cases e;exact⟨_,_,c.int,a.int,k.fz s<|h _ _ _⟩
 .cases e
theorem VI(n:∀i j,c i j=aC->C i j)(m:∀F i j,dS K F (f i j)<|g i j):Wd Z (rI C g)<|XB c f:=by
 intro F H σ δ own x y p o sv Q s l h e k;unfold XB at e;split at e
 .split at e
  .rename_i a;cases e;exact⟨_,_,l.int,h.int,n _ _ a,k.fz s<|m _ _ _⟩
  .cases e
 .cases e
@[simp]def K6:D->D->Á SV:=ZV λi j=>.int<|i- j
noncomputable def YY(i j:Int):Bool:=(decide (-(2^64)<i)&&decide (i<2^64))|| (decide (-(2^64)<j)&&decide (j<2^64))
@[simp]def gJ:D->D->Á SV:=XB YY λi j=>.int<|i*j
@[simp]noncomputable def QB(i j:Int):Bool:=decide (0<j)&&decide (j<1073741824)
@[simp]def Qc:D->D->Á SV:=XB QB λi j=>.int<|i / j
@[simp]noncomputable def QA(i j:Int):Bool:=decide (0<j)
@[simp]def We:D->D->Á SV:=XB QA λi j=>.int<|i % j
theorem wK:Wd Z (rI0 λi j=>V.int<|i- j) K6:=Dz λ_ _ _=>.int _
theorem wJ:Wd Z (rI Y' λi j=>V.int<|i*j) gJ:=VI (λi j h=>by
 unfold YY at h;simp only[xo,ig,decide_eq_true_eq]at h;exact h) λ_ _ _=>.int _
theorem tj:Wd Z (rI RU λi j=>V.int<|i / j) Qc:=VI (λi j h=>by
 unfold QB at h;simp only[ig,decide_eq_true_eq]at h;exact h) λ_ _ _=>.int _
theorem wI:Wd Z (rI (λ_ j=>0<j) λi j=>V.int<|i % j) We:=VI (λi j h=>by
 unfold QA at h;simp only[decide_eq_true_eq]at h;exact h) λ_ _ _=>.int _
@[simp]def ltD:D->D->Á SV:=ZV λi j=>.bl<|decide (i<j)
@[simp]def leD:D->D->Á SV:=ZV λi j=>.bl<|decide (i<=j)
@[simp]def P7:D->D->Á SV:=ZV λi j=>.bl<|decide (j<i)
@[simp]def geD:D->D->Á SV:=ZV λi j=>.bl<|decide (j<=i)
theorem gI:Wd Z (rI0 λi j=>V.bl<|decide (i<j)) ltD:=Dz λ_ _ _=>.bl _
theorem VH:Wd Z (rI0 λi j=>V.bl<|decide (i<=j)) leD:=Dz λ_ _ _=>.bl _
theorem gH:Wd Z (rI0 λi j=>V.bl<|decide (j<i)) P7:=Dz λ_ _ _=>.bl _
theorem gG:Wd Z (rI0 λi j=>V.bl<|decide (j<=i)) geD:=Dz λ_ _ _=>.bl _
def gF:R2:=λx y H Q=>∃i j,x= .str i/\y= .str j/\i.length+j.length<=dg/\Q (.str<|i++j) H
def xQ(K:ak):R2:=λx y H Q=>∃l b xs zs,x= .ref l/\y= .ref b/\W3 K H l xs/\W3 K H b zs/\xs.length+zs.length<=dg/\∀p,H p=aB->Q (.ref p) (upd H p<|.lst<|xs++zs)
def OG(K:ak):R2:=λx y H Q=>rI0 (λi j=>V.int<|i+j) x y H Q\/(gF x y H Q\/xQ K x y H Q)
theorem oB:G5 X (sj .Add)<|OG X.K:=sW.or (iO.or (by
 intro dG s σ H x y v u Q I Z T h;refine Wv λ_ L=>?_;obtain⟨l,b,xs,zs,rfl,rfl,J,M,hz,q⟩:=h;cases Z;cases T;obtain⟨dI,r,g,z⟩:=I.list J;obtain⟨a,w,o,z2⟩:=I.list M;have R:=r.length;have G:=w.length;obtain⟨⟨O,dd,C,P⟩,A,B,n,hd⟩:=g.isList;obtain⟨⟨E,p,HQ,m⟩,c,j,i,f⟩:=o.isList;apply L;simp only at B hd j f;subst B hd j f;have N:dI.toArray++a.toArray=(dI++a).toArray:=Δ
 refine concat_meets ⟨_,A,rfl⟩ ⟨_,c,rfl⟩ noFill_list_add seq_list_add PySem.F.slot_list_add PySem.F.entry_list_add (PySem.F.args_list_add_2 _ _) (list_addW l b dI.toArray a.toArray n i dd p P m (by rw[c9,c9];lia)) ⟨A,c,?_⟩;rw[N];exact⟨.ref _,_,I.lnew (t':=s.toks) (r.append w) (by rw[ax];omega),rfl,q _ I.fresh⟩))
@[simp]noncomputable def Yu:D->D->Option SV
 | .int i,.int j=>aA<|.fz<|.int<|i+j
 | .str x,.str y=>if x.length+y.length<=dg then aA (.fz<|.str<|x++y)else aB
 | .lst xs,.lst ys=>if xs.length+ys.length<=dg then aA (.ol<|xs++ys)else aB
 |_,_=>aB
theorem xP:Wd Z (OG K) Yu:=by
 intro F H σ δ own x y r q sv Q s f c e k;unfold Yu at e;split at e
 .cases e;exact .inl ⟨_,_,f.int,c.int,k.fz s<|.int _⟩
 .split at e
  .rename_i hz;cases e;exact .inr<|.inl ⟨_,_,f.str,c.str,hz,k.fz s<|.str _⟩
  .cases e
 .split at e
  .rename_i hz;cases e;obtain⟨a,vs,ex,n,j⟩:=f.lst s.le;obtain⟨b,us,o,m,h⟩:=c.lst s.le;exact .inr<|.inr ⟨a,b,vs,us,ex,o,n,m,by rw[<-j.length,<-h.length];exact hz,λp l=>k.lst s (j.append h) l⟩
  .cases e
 .cases e
noncomputable def eqS:D->D->Option Bool
 | .non,.non=>aA aC
 | .non,.int _=>aA aE
 | .int _,.non=>aA aE
 | .non,.bl _=>aA aE
 | .bl _,.non=>aA aE
 | .non,.str _=>aA aE
 | .str _,.non=>aA aE
 | .int i,.int j=>aA<|decide (i=j)
 | .bl i,.bl j=>aA<|decide (i=j)
 | .str i,.str j=>aA<|decide (i=j)
 | .int _,.str _=>aA aE
 | .str _,.int _=>aA aE
 | .bl _,.str _=>aA aE
 | .str _,.bl _=>aA aE
 |_,_=>aB
@[simp]theorem eS:eqS .non .non=some true:=rfl
@[simp]theorem eR(x):eqS .non (.str x)=some false:=rfl
@[simp]theorem eO(x):eqS (.str x) .non=some false:=rfl
@[simp]theorem eN(x y):eqS (.str x) (.str y)=some (decide (x=y)):=rfl
@[simp]theorem eM(x y):eqS (.int x) (.int y)=some (decide (x=y)):=rfl
theorem NW(e:eqS d1 d2=aA b)(c:Yz K F H d1 x)(a:Yz K F H d2 y):scal x y=aC/\b=decide (x=y):=by cases d1<;> (try cases e)<;> cases d2<;> cases e<;> (first|obtain rfl:=c.non|obtain rfl:=c.int|obtain rfl:=c.bl|obtain rfl:=c.str)<;> (first|obtain rfl:=a.non|obtain rfl:=a.int|obtain rfl:=a.bl|obtain rfl:=a.str)<;> exact⟨rfl,Δ⟩
@[simp]def eqD(c a:D):Á SV:=(eqS c a).bind λb=>some<|.fz<|.bl b
@[simp]def neD(c a:D):Á SV:=(eqS c a).bind λb=>some<|.fz<|.bl<|!b
theorem ge:Wd Z rEq eqD:=by intro F H σ δ own x y l j sv Q s c a e k;refine L2.dN e λb h f=>?_;cases f;obtain⟨h1,h2⟩:=NW h c a;subst h2;exact⟨h1,k.fz s<|.bl _⟩
theorem gb:Wd Z rNe neD:=by intro F H σ δ own x y l j sv Q s c a e k;refine L2.dN e λb h f=>?_;cases f;obtain⟨h1,h2⟩:=NW h c a;subst h2;exact⟨h1,k.fz s<|.bl _⟩
@[simp]noncomputable def D.isNon:D->Bool
 | .non=>aC
 |_=>aE
theorem D0(r:Yz K F H d x):decide (x= .non)=d.isNon:=by
 obtain⟨sv,ns,e,n,a,c⟩:=r;subst e;cases a with
 |fz r=>cases r<;> rfl
 |_=>rfl
@[simp]noncomputable def Ey(c a:D):Option SV:=match a.isNon with|true=>some (.fz<|.bl c.isNon)|false=>none
@[simp]noncomputable def I8(c a:D):Option SV:=match a.isNon with|true=>some (.fz<|.bl<|!c.isNon)|false=>none
theorem D1{d:D}(h:d.isNon=aC):d= .non:=by cases d<;> first|rfl|cases h
theorem xO:Wd Z (λx y H Q=>y=V.non/\Q (.bl<|decide (x= .non)) H) Ey:=by
 intro F H σ δ own x y j f sv Q s c a e k;unfold Ey at e;split at e
 .rename_i h;cases e;have:=D1 h;subst this;exact⟨a.non,by rw[D0 c];exact k.fz s<|.bl _⟩
 .cases e
theorem tZ:Wd Z (λx y H Q=>y=V.non/\Q (.bl<|!decide (x= .non)) H) I8:=by
 intro F H σ δ own x y j f sv Q s c a e k;unfold I8 at e;split at e
 .rename_i h;cases e;have:=D1 h;subst this;exact⟨a.non,by rw[D0 c];exact k.fz s<|.bl _⟩
 .cases e
theorem dJ.atI(r:dJ K F xs vs)(e:L2.atI xs i=aA d):∃v,L2.atI vs i=aA v/\dS K F d v:=by refine L2.dN e λj c a=>?_;obtain⟨v,h1,h2⟩:=r.get a;exact⟨v,gc.mpr ⟨j,by rw[<-r.length];exact c,h1⟩,h2⟩
@[simp]def ixD:D->D->Option SV
 | .lst xs,.int i=>(L2.atI xs i).bind λd=>aA<|.fz d
 | .tup xs,.int i=>(L2.atI xs i).bind λd=>aA<|.fz d
 | .str z,.int i=>if z.length<=dg then(L2.atI z.cps.toList i).bind λc=>aA (.fz<|.str ⟨#[c]⟩)else aB
 |_,_=>aB
theorem ga:Wd Z (rIx K) ixD:=by
 intro F H σ δ own x y p o sv Q s m l e k;unfold ixD at e;split at e
 .refine L2.dN e λd h f=>?_;cases f;obtain⟨a,vs,ex,n,j⟩:=m.lst s.le;obtain⟨v,h1,h2⟩:=j.atI h;exact .inl ⟨a,vs,_,v,ex,l.int,n,h1,k.fz s h2⟩
 .refine L2.dN e λd h f=>?_;cases f;obtain⟨a,vs,ex,n,j⟩:=m.tup s.le;obtain⟨v,h1,h2⟩:=j.atI h;exact .inr<|.inl ⟨a,vs,_,v,ex,l.int,n,h1,k.fz s h2⟩
 .split at e
  .rename_i hz;refine L2.dN e λc h f=>?_;cases f;exact .inr<|.inr ⟨_,_,c,m.str,l.int,hz,h,k.fz s<|.str _⟩
  .cases e
 .cases e
abbrev FO:=Y5->Á (Á Int×Y5)
inductive liftO(Z:dP K)(f:FO)(σ H) (Q:Option Int->Hp->Prop):Prop where
 |mk (F δ own o δ') (s:SR Z F H σ δ own) (e:f δ=aA (o,δ')) (k:∀H' F' ZD,Zm H H'->Zm F F'->SR Z F' H' σ δ' ZD->Q o H')
@[simp]def Rp:FO:=λδ=>some (none,δ)
@[simp]noncomputable def Q4(fe:FE):FO:=λδ=>(fe δ).bind λp=>match p.1 with
 | .tmp (.fz<|.int i)=>aA (aA i,p.2)
 |_=>aB
section
variable{H:Hp}{σ:L2.St}{Q:VK}
@[simp]def slF(g:D->Á Int->Á Int->Á SV)(fe:FE)(fl a:FO):FE:=λδ=>(fe δ).bind λp=>(fl p.2).bind λl=>(a l.2).bind λh=>(rdv p.1 h.2).bind λd=>(g d l.1 h.1).bind λsv=>some (.tmp sv,h.2)
def OF(Z:dP K)(r:V->Á Int->Á Int->Hp->VK->Prop)(g:D->Á Int->Á Int->Á SV):Prop:=
 ∀(F H:Hp) (σ:L2.St) (δ:Y5) (own:Nat->Zy) (x:V) (d:D) (lo a:Á Int) (sv:SV) (Q:VK),SR Z F H σ δ own->Yz K F H d x->g d lo a=aA sv->B2 Z F H σ δ own sv Q->r x lo a H Q
theorem gZ(I:OF Z r g)(h:liftE Z (slF g fe fl fh) σ H Q):tSl r (liftE Z fe) (liftO Z fl) (liftO Z fh) σ H Q:=by
 refine Wv λ_ L=>?_;obtain⟨F,δ,own,rv,δ',s,e,k⟩:=h;refine L2.dO e λA δ1 R e=>?_;refine L2.dO e λlo δ2 O e=>?_;refine L2.dO e λK c N e=>?_;refine L2.dN e λd M e=>?_;refine L2.dN e λsv J e=>?_;cases e;apply L;refine⟨F,δ,own,A,δ1,s,R,λv H1 F1 n w y i G=>?_⟩;obtain⟨C,l,z,B⟩:=i.settleR G;refine⟨C,δ1,n,lo,δ2,z,O,λH2 F2 m u j X=>⟨F2,δ2,m,K,c,X,N,λW Y a p f E=>?_⟩⟩;exact I Y W σ c a v d lo K sv Q E (E.rd (B.mono<|j.trans f) M) J λq U F4 ns o x T P=>
  k q U F4 a (w.trans<|u.trans<|p.trans o) (y.trans<|l.trans<|j.trans<|f.trans x) T ⟨ns,P⟩
end
def Ai(xs:À D)(lo a:Á Int):À D:=(xs.drop<|HT.sIx xs.length 0 lo).take<|HT.sIx xs.length xs.length a- HT.sIx xs.length 0 lo
theorem dJ.cut(r:dJ K F xs vs)(lo hi):dJ K F (Ai xs lo hi)<|Y_ vs lo hi:=by unfold Ai Y_;rw[r.length];exact(r.drop _).take _
def RK:V->Á Int->Á Int->Hp->VK->Prop:=λx lo a H Q=>∃z,x= .str z/\z.length<=dg/\Q (.str<|yw z lo a) H
theorem tY:SlR X RK:=by
 intro dG s σ H x v r p lo m w Q I n hs o f h;obtain⟨z,rfl,hz,q⟩:=h;obtain⟨t,rfl⟩:=n;refine⟨"str",_,F.slot_str_getitem.lookup,qo _ _ _,?_⟩;have fin:∀(t':Tok) (k:Nat),EP X dG σ Q (.str (yw z lo m) t') {s with toks:=k}:=λt' k=>⟨.str<|yw z lo m,H,I.tok _,⟨_,rfl⟩,q⟩
 cases o with
 |none=>cases f with
  |none=>exact p7 (l:=aB) (u:=aB) (st:=aB) hs rfl (u4 ⟨fg (wp z _ _) hz,fin⟩)
  |int j a=>exact p7 (l:=aB) (u:=aA (j,a)) (st:=aB) hs rfl (u4 ⟨fg (wp z _ _) hz,fin⟩)
 |int i c=>cases f with
  |none=>exact p7 (l:=aA (i,c)) (u:=aB) (st:=aB) hs rfl (u4 ⟨fg (wp z _ _) hz,fin⟩)
  |int j a=>exact p7 (l:=aA (i,c)) (u:=aA (j,a)) (st:=aB) hs rfl (u4 ⟨fg (wp z _ _) hz,fin⟩)
@[simp]def Dh:D->Option Int->Option Int->Option SV
 | .lst xs,lo,hi=>aA<|.ol<|Ai xs lo hi
 | .str z,lo,hi=>if z.length<=dg then aA (.fz<|.str<|yw z lo hi)else aB
 |_,_,_=>aB
theorem gY:OF Z (λx lo g H Q=>RS K x lo g H Q\/RK x lo g H Q) Dh:=by
 intro F H σ δ own x d lo g sv Q s c e k;unfold Dh at e;split at e
 .cases e;obtain⟨a,vs,ex,j,f⟩:=c.lst s.le;exact .inl ⟨a,vs,ex,j,λp h=>k.lst s (f.cut _ _) h⟩
 .split at e
  .rename_i hz;cases e;exact .inr ⟨_,c.str,hz,k.fz s<|.str _⟩
  .cases e
 .cases e
end
section
variable{X:Cx}
def Ite(K:ak)(a:aq):It:=
 ⟨λi H=>∃xs x,W3 K H a xs/\xs[i]? =aA x,λi H x H'=>∃p v,x= .ref p/\H p=aB/\H'=upd H p (.tup [.int (i:Nat),v])/\∀xs,W3 K H a xs->xs[i]? =aA v,λi H=>∃xs,W3 K H a xs/\xs.length<=i⟩
theorem dL.turnedT{σ:L2.St}{T:aq}(I:dL X dG σ H s)(k:∀b o,b≠e->b≠it->s.heap.get? b=aA o->h'.get? b=aA o)(x:Qy X dG H e)(w:Qy X dG H it)(F:T=s.heap.objs.size)(K:HV h' T dI.toArray)(rv:Yg xs dI)(hz:xs.length<=sizeLine)(Z:∃o,h'.get? e=aA o)(Q:∃o,h'.get? it=aA o):
  dL X dG σ (upd H T<|.tup xs) {s with heap:=h',toks:=t'}:=by
 have a:H T=aB:=by rw[F];exact I.hok.fresh<|cj _
 have l:∀b o,s.heap.get? b=aA o->b≠T:=λb o q=>by rw[F];exact eh<|cn q
 have h:∀b u,H b=aA u->b≠e/\b≠it:=λb u q=>⟨(λz=>by rw[z,x.1]at q;cases q),(λz=>by rw[z,w.1]at q;cases q)⟩
 refine I.step (g':=s.gens) (d':=s.drawn) (ch:=[e,it]) (λb j=>?_) (λb o _ _ f q _=>k b o (λz=>f ο) (λz=>f ο) q)
  (λb o _ _ f q _=>⟨o.slots,k b o (λz=>f ο) (λz=>f ο) q⟩) (λb o _ q n=>by rw[Zs<|l b o q];exact n)
  (λb o f q=>⟨o,k b o (λz=>f ο) (λz=>f ο) q⟩) (λb ys q=>by rw[Zs<|Yw q a];exact q) (λb o u q=>by rw[Zs<|Yw q a];exact q)
  (λb ps q=>⟨#[],by rw[Zs<|Yw q a,q];simp⟩) (λm P=>?_) (λb u q=>?_) I.bare
 .have p:b=e\/b=it:=by simpa using j
  rcases p with z|z
  .subst z;obtain⟨_,E,_,C,B,A⟩:=x;exact⟨C,E,B,A⟩
  .subst z;obtain⟨_,E,_,C,B,A⟩:=w;exact⟨C,E,B,A⟩
 .obtain⟨o,es,ep,L,r⟩:=P;exact⟨o,es,ep,k _ o (Ne.symm x.2.1) (Ne.symm w.2.1) L,r⟩
 .by_cases j:b=T
  .subst j;rw[Z8]at q;cases q;exact⟨hz,dI,rv,K⟩
  .rw[Zs j]at q;refine(I.hok b u q).stay (λc v f z=>?_) (λc z=>by rw[Zs<|Yw z a];exact z) λc ys z=>by rw[Zs<|Yw z a];exact z
   rcases f with y|y
   .rw[y]at z⊢;exact k _ _ (h b u q).1 (h b u q).2 z
   .exact k _ _ (h c _ y).1 (h c _ y).2 z
theorem jC{P:eg}{w:gq}{K:ak}{G:À dz}{R:Nat}{C:Pos}(a e it:aq)(l:e≠it):Turn P w K (.Tuple G R C) (Ite K a) [e,it] e (λi h=>(∃g,IsEnum h e it ((i:Nat):Int) g)/\h.IsListIter it a i)where
 mem:=Δ
 obj:=λi h st b B=>by
  have r:b=e\/b=it:=by simpa using B
  rcases r with z|z
  .subst z;obtain⟨g,q⟩:=st.1;exact⟨_,q,λv y=>by
    have y':HY _=IS v:=y;cases y'⟩
  .subst z;obtain⟨o,q,c,d⟩:=st.2;exact⟨o,q,λv y=>by rw[d]at y;cases y⟩
 keep:=λi h h' st k=>⟨let⟨g,q⟩:=st.1;⟨g,k e Δ _ q⟩,st.2.at λo q=>k it Δ o q⟩
 item:=by
  intro X hP hw hK N i dG s σ H E I hf st hg;subst hP hw hK;refine Wv λ_ zk=>?_;obtain⟨xs,x,J,Y⟩:=hg;obtain⟨dI,rv,p,hz⟩:=I.list J;obtain⟨u,hu,ru⟩:=rv.get Y;obtain⟨⟨g,n⟩,f⟩:=st;apply zk;have M:s.heap.IsList a dI.toArray:=p.isList;have ai:a≠it:=λz=>by obtain⟨o1,q1,c1,_⟩:=f;obtain⟨o2,L,O,_⟩:=M;rw[z,q1]at L;cases L;rw[c1]at O;exact dt O Γ
  have ae:e∉[it,a]:=λz=>by
   have z':e=it\/e=a:=by simpa using z
   rcases z' with z|z
   .exact l z
   .obtain⟨o2,L,O,_⟩:=M;rw[<-z,n]at L;cases L;exact dt (show sk "enumerate"=sk "list"from O) Γ
  have D:=Draws.list (prog:=X.p) (w:=X.w) (A:=X.A.in1) (by first|exact I.ok.hd N| (rw[show X.A.in1.handled=X.A.handled from rfl];exact I.ok.hd N)) it a ai dI.toArray;have zZ:i<dI.toArray.size:=by have:=(ci.mp hu).1;rw[c9];exact this
  refine wpAny_pyNext_enum_itemD D n ⟨f,M⟩ zZ l ae λy h' tk hy Q F hT hsz hk=>⟨.ref s.heap.objs.size,rfl,?_⟩
  refine wpAny_letOwnedTupleGo_enum Q λh2 Z j=>?_;have W:dI.toArray[i]? =aA y:=hy;have ey:y=u:=by
   have:dI[i]? =aA y:=by simpa using W
   rw[hu]at this;cases this;rfl
  subst ey;have R:∀b o,b≠e->b≠it->s.heap.get? b=aA o->h2.get? b=aA o:=λb o h1 h3 q=>(j.2 b h1).trans<|hk b o h1 h3 q;have m:s.heap.objs.size≠e:=ku<|cn n;have I2:=I.turnedT (h':=h2) (t':=tk+1) (e:=e) (it:=it) (T:=s.heap.objs.size) (xs:=[.int (i:Nat),x]) (dI:=[.int i tk,y]) R (hf e Δ) (hf it Δ) rfl ⟨_,(j.2 _ m).trans hT,rfl,_,rfl⟩ (.cons ⟨tk,rfl⟩<|.cons ru .nil) χ
   ⟨_,Z⟩ (let⟨o,q,_⟩:=F.1;⟨o,(j.2 it<|Ne.symm l).trans q⟩)
  refine⟨.ref s.heap.objs.size,_,I2,rfl,⟨s.heap.objs.size,x,rfl,I.hok.fresh<|cj _,rfl,λys U=>by rw[I.list_inj U J];exact Y⟩,⟨⟨_,Z⟩,F.1.at λo q=>(j.2 it<|Ne.symm l).trans q⟩,λb B=>?_⟩;rw[Zs λz=>?_]
  .exact(hf b B).1
  .have r:b=e\/b=it:=by simpa using B
   rcases r with y|y
   .rw[<-z,y]at m;exact m rfl
   .obtain⟨o,q,_⟩:=f;rw[y]at z;exact dt (cn q) (by rw[z];exact g6 _)
 done:=by intro X hP hw hK N i dG s σ H E I hf st hg;subst hP hw hK;obtain⟨xs,J,Y⟩:=hg;obtain⟨dI,rv,p,hz⟩:=I.list J;obtain⟨⟨g,n⟩,f⟩:=st;obtain⟨f0,f1,f2,f3,f4,f5⟩:=hf it Δ;have M:=rv.length;exact wpAny_pyNext_enum_end (I.ok.hd N) n f p.isList Ψ λh' eb=>⟨rfl,I.turned (t':=s.toks) (λb o B q=>eb b o B q) f0 f1 f3 f4 f5⟩
 self:=λ_ _ _ _ _ st h=>let⟨⟨g,n⟩,_⟩:=st;DF n h
def xN(K:ak)(c:TA):TI:=λσ H R=>c σ H λvs H1=>∃a xs,vs=[.ref a]/\W3 K H1 a xs/\R (Ite K a) H1
theorem oA(A:Gl X "enumerate")(x:X.mg "enumerate"=aB)(C:PA X [l] ta)(hs:‹jv [l] X.e=[(aE,oz l X.e)]›):
  PI X (.Tuple elts kk tpos) (.Call (.Name "enumerate" p) [l] [] pos) (xN X.K ta):=by
 intro dG s σ H R I h;refine Call_<|Rf I A x boot_enumerate<|kt (Wy (C pos dG s σ H _ I h) λus c ⟨vs,H1,f,r,v⟩=>?_) hs rfl;obtain⟨a,xs,e,w,q⟩:=v;subst e;obtain⟨u,rfl,o⟩:=Jw r;cases o;obtain⟨dI,rv,p,hz⟩:=f.list w;refine call_enumerate_list p.isList λh' n j hsz y=>DF n ?_;have E:dL X dG σ H1 {c with heap:=h'}:=f.kept (t':=c.toks) y;refine⟨c.heap.objs.size+1,[c.heap.objs.size+1,c.heap.objs.size],_,_,H1,rfl,E,jC a _ _<|Nat.succ_ne_self _,⟨⟨.none,by simpa using n⟩,j⟩,λb B=>?_,q⟩;have m:b=c.heap.objs.size+1\/b=c.heap.objs.size:=by simpa using B
 rcases m with z|z
 .subst z;exact f.fpOk (HU _)<|f.hok.fresh<|HU _
 .subst z;exact f.fpOk (cj _)<|f.hok.fresh<|cj _
theorem Xh:∀{xs:À Str} {us:À am},Yg (xs.map V.str) us->∃l,us=EC l/\l.map (·.1)=xs
 | [],_,r=>by rw[mf]at r;cases r;exact⟨[],rfl,rfl⟩
 |x::xs,_,r=>by obtain⟨_,_,rfl,h,t⟩:=r.consI;obtain⟨tk,rfl⟩:=h;obtain⟨l,c,a⟩:=Xh t;exact⟨(x,tk)::l,by rw[c];rfl,by rw[cg,a]⟩
def xM(K:ak):V->À V->Hp->VK->Prop:=λx xs H Q=>∃sep p ys,x= .str sep/\xs=[.ref p]/\W3 K H p (ys.map V.str)/\wb sep ys=aC/\Q (.str<|tf sep ys) H
theorem p_:MtR X "str.join"<|xM X.K:=by intro dG s σ H x xs v us Q I f m h;refine Wv λ_ c=>?_;obtain⟨sep,p,ys,rfl,rfl,o,a,q⟩:=h;obtain⟨t,rfl⟩:=f;obtain⟨u,rfl,j⟩:=Jw m;cases j;obtain⟨dI,rv,n,hz⟩:=I.list o;obtain⟨l,w,r⟩:=Xh rv;apply c;subst w;exact SC.join n.isList r a λt' k=>⟨.str<|tf sep ys,H,I.tok _,⟨_,rfl⟩,q⟩
inductive TyX(K:ak)(H:Hp):V->String->Prop where
 |non:TyX K H .non "NoneType"
 |bl (x:Bool):TyX K H (.bl x) "bool"
 |int (i:Int):TyX K H (.int i) "int"
 |str (x:Str):TyX K H (.str x) "str"
 |lst {a:aq} {xs:List V} (e:W3 K H a xs):TyX K H (.ref a) "list"
 |tup {a:aq} {xs:List V} (e:Eu K H a xs):TyX K H (.ref a) "tuple"
 |dK {a:aq} {kvs:List (Key×V)} {ep:Nat} (e:H a=aA (.dK kvs ep)):TyX K H (.ref a) "dict"
 |dT {a:aq} {kvs:List (List Key×V)} {ep:Nat} {bs:List aq} (e:H a=aA (.dT kvs ep bs)):TyX K H (.ref a) "dict"
theorem lC{σ:L2.St}(I:dL X dG σ H s)(f:Z9 x u)(ty:TyX X.K H x T)(e:og X.K (.type T) c=aA b)(h:∀tk,Q (.bool b) {s with toks:=tk}):
  de (dw X.p X.w) A (call (.builtin "isinstance") [u,c]) Q E s:=by
 cases ty with
 |non=>cases(show u=ik from f);exact ly PySem.W.kitx_none I.kIn j9 e (λz=>nomatch z) h
 |bl y=>cases(show u=nz y from f);exact ly PySem.W.kitx_bool I.kIn j9 e (λz=>nomatch z) h
 |int i=>obtain⟨t,q⟩:=(show∃t,u=yv i t from f);cases q;exact ly PySem.W.kitx_int I.kIn j9 e (λz=>nomatch z) h
 |str y=>obtain⟨t,q⟩:=(show∃t,u=wv y t from f);cases q;exact ly PySem.W.kitx_str I.kIn j9 e (λz=>nomatch z) h
 | @lst a xs ea=>cases(show u=g0 a from f);obtain⟨dI,_,j,_⟩:=I.list ea;obtain⟨o,h1,h2,_⟩:=j.isList;exact ly PySem.W.kitx_list I.kIn ⟨o,h1,h2⟩ e (λz=>nomatch z) h
 | @tup a xs ea=>cases(show u=g0 a from f);obtain⟨dI,_,j,_⟩:=I.tuple ea;obtain⟨o,h1,h2,_⟩:=j;exact ly PySem.W.kitx_tuple I.kIn ⟨o,h1,h2⟩ e (λz=>nomatch z) h
 | @dK a kvs ep ea=>
  cases(show u=g0 a from f);obtain⟨_,_,vs,_,p⟩:=(show Wc X.p X.w H s.heap a (.dK kvs ep)from I.hok a _ ea)
  obtain⟨o,es,h1,h2,_⟩:=p;exact ly DJ I.kIn ⟨o,h1,h2.1⟩ e (λz=>nomatch z) h
 | @dT a kvs ep bs ea=>
  cases(show u=g0 a from f);obtain⟨_,_,xs,_,o,es,h1,h2,_⟩:=(show Wc X.p X.w H s.heap a (.dT kvs ep bs)from I.hok a _ ea)
  exact ly DJ I.kIn ⟨o,h1,h2.1⟩ e (λz=>nomatch z) h
def RJ(K:ak)(c:String):À V->Hp->VK->Prop:=λxs H Q=>∃x t b,xs=[x,.ty c]/\TyX K H x t/\og K (.type t) (.type c)=aA b/\Q (.bl b) H
theorem lA:Ou X (.builtin "isinstance")<|RJ X.K c:=by intro dG s σ H xs us Q I r h;obtain⟨x,t,b,rfl,ty,e,q⟩:=h;obtain⟨u,j,rfl,f,a⟩:=UI r;cases a;exact lC I f ty e λtk=>⟨.bl b,H,I.tok _,rfl,q⟩
end
section
variable{K:ak}
noncomputable def K7(xs:À D):À D:=xs.zipIdx.map λp=>.tup [.int (p.2:Nat),p.1]
theorem jB{d:D}(h:(K7 xs)[i]? =aA d):∃x,xs[i]? =aA x/\d= .tup [.int (i:Nat),x]:=by
 unfold K7 at h;rw[c8,List.getElem?_zipIdx]at h;cases e:xs[i]? with
 |none=>rw[e]at h;cases h
 |some x=>rw[e]at h;cases h;exact⟨x,rfl,Δ⟩
theorem jA(xs):(K7 xs).length=xs.length:=by unfold K7;rw[aj,List.length_zipIdx]
theorem D2(h:W3 K F a vs)(r:dJ K F xs vs):Td K (Ite K a) F<|K7 xs:=λF' H l j i=>by
 have q:W3 K H a vs:=Yt (l.trans j) h;refine⟨λd hd=>?_,λu=>⟨vs,q,by rw[<-r.length,<-jA];exact u⟩⟩;obtain⟨x,o,rfl⟩:=jB hd;obtain⟨v,h1,h2⟩:=r.get o;refine⟨⟨vs,v,q,h1⟩,λy H' c=>?_⟩;obtain⟨p,w,C,f,B,A⟩:=c;subst C B;have m:=A vs q;rw[h1]at m;cases m;have s:F' p=aB:=j.free f;have n:Zm F'<|J1 F' [(p,.tup [.int (i:Nat),v])]:=Qf λz hz=>by obtain rfl:=ao.mp hz;exact s
 refine⟨Wz f,[(p,.tup [.int (i:Nat),v])],Fs,λz hz=>?_,.tup Z8<|.cons (.int _)<|.cons (h2.mono<|l.trans n) .nil⟩;obtain rfl:=ao.mp hz;exact⟨f,Z8⟩
section
variable{Z:dP K}{H:Hp}{Q:VK}
@[simp]def K8(fd:FD):FD:=λδ=>(fd δ).bind λp=>match p.1 with
 | [.lst xs]=>aA (K7 xs,p.2)
 |_=>aB
@[simp]noncomputable def D.ty:D->String
 | .str _=>"str"
 | .int _=>"int"
 | .lst _=>"list"
 | .dK _ _=>"dict"
 | .dT _ _=>"dict"
 |_=>"?"
@[simp]noncomputable def ZU(T:String)(d:D):Bool:=T==d.ty&&(T=="str" ||T=="list" ||T=="dict")
theorem OE(le:Zm F H)(r:Yz K F H d x)(h:ZU T d=aC):tyV K T x H:=by
 unfold ZU at h;simp only[ig,beq_iff_eq]at h;obtain⟨h1,h2⟩:=h;subst h1;cases d with
 |str y=>rw[r.str];rfl
 |lst xs=>obtain⟨a,vs,e,c,_⟩:=r.lst le;subst e;exact .inl ⟨rfl,vs,c⟩
 |dK ks vs=>obtain⟨a,kvs,e,⟨ep,c⟩,_⟩:=r.dK le;subst e;exact .inr<|.inr<|.inl ⟨rfl,.inl ⟨kvs,ep,c⟩⟩
 |dT ks vs=>obtain⟨a,kvs,e,⟨ep,bs,c⟩,_⟩:=r.dT le;subst e;exact .inr<|.inr<|.inl ⟨rfl,.inr ⟨kvs,ep,bs,c⟩⟩
 |non=>exact dt (show("?"=="str" || "?"=="list" || "?"=="dict")=aC from h2) Γ
 |bl b=>exact dt (show("?"=="str" || "?"=="list" || "?"=="dict")=aC from h2) Γ
 |int i=>exact dt (show("int"=="str" || "int"=="list" || "int"=="dict")=aC from h2) Γ
 |tup xs=>exact dt (show("?"=="str" || "?"=="list" || "?"=="dict")=aC from h2) Γ
 |exc C ks vs=>exact dt (show("?"=="str" || "?"=="list" || "?"=="dict")=aC from h2) Γ
@[simp]def Md(T:String)(g:List D->Option SV)(fo:FE)(fa:FA):FE:=λδ=>(fo δ).bind λp=>(rdv p.1 p.2).bind λa=>match ZU T a with|true=>(fa p.2).bind λq=>(Ae (p.1::q.1) q.2).bind λds=>(g ds).bind λsv=>some (.tmp sv,q.2)|false=>none
def K9(Z:dP K)(r:V->À V->Hp->VK->Prop)(g:À D->Á SV):Prop:=Ox Z (λvs H Q=>∃x xs,vs=x::xs/\r x xs H Q) g
theorem YE(G:K9 Z r g)(h:liftE Z (Md T g fo fa) σ H Q):tBM K T r (liftE Z fo) (liftA Z fa) σ H Q:=by
 obtain⟨F,δ,own,rv,δ',s,e,k⟩:=h;refine L2.dO e λz δ1 O e=>?_;refine L2.dN e λW N e=>?_;split at e
 .rename_i i;refine L2.dO e λy δ2 M e=>?_;refine L2.dN e λds J e=>?_;refine L2.dN e λsv I e=>?_;cases e;refine⟨F,δ,own,z,δ1,s,O,λv H1 Y m p w L X=>?_⟩;obtain⟨A,j,c,l⟩:=L.settleR X;refine⟨OE c.le (c.rd l N) i,A,δ1,m,y,δ2,c,M,λvs H2 U a o f B P=>?_⟩;obtain⟨x,xs,ex,q⟩:=G U H2 σ δ2 a (v::vs) ds sv Q B (B.rdAll (.cons (l.mono f) P) J) I λq R F4 ns n u E C=>
   k q R F4 a (p.trans<|o.trans n) (w.trans<|j.trans<|f.trans u) E ⟨ns,C⟩
  injection ex with ex1 ex2;subst ex1 ex2;exact q
 .cases e
end
@[simp]noncomputable def xu:List D->Option (List Str)
 | []=>aA []
 | .str x::r=>(xu r).bind λt=>aA (x::t)
 |_=>aB
theorem Fx:∀{ds:À D} {xs:À Str} {vs:À V},xu ds=aA xs->dJ K F ds vs->vs=xs.map V.str
 | [],_,_,e,r=>by cases e;cases r;rfl
 |d::r,xs,vs,e,q=>by
  obtain⟨_,_,rfl,h,t⟩:=q.consI;unfold xu at e;split at e
  .rename_i a;cases a
  .rename_i x j a;cases a;refine L2.dN e λys f c=>?_;cases c;cases h;rw[Fx f t];rfl
  .cases e
variable{Z:dP K}
@[simp]noncomputable def D.pyTy:D->String
 | .non=>"NoneType"
 | .bl _=>"bool"
 | .int _=>"int"
 | .str _=>"str"
 | .tup _=>"tuple"
 | .lst _=>"list"
 | .dK _ _=>"dict"
 | .dT _ _=>"dict"
 | .exc _ _ _=>"?"
@[simp]noncomputable def D.isExc:D->Bool
 | .exc _ _ _=>aC
 |_=>aE
@[simp]noncomputable def Mn(c:String)(d:D):Option SV:=match d.isExc with|true=>none|false=>some (.fz<|.bl (d.pyTy==c|| (c=="int" &&d.pyTy=="bool")))
theorem xL(l:∀d:D,d.isExc=aE->og K (.type d.pyTy) (.type c)=aA (d.pyTy==c|| (c=="int" &&d.pyTy=="bool"))):UK Z (λx H Q=>RJ K c [x,.ty c] H Q)<|Mn c:=by
 intro F H σ δ own x d sv Q s r e k;unfold Mn at e;split at e
 .cases e
 .rename_i j;cases e;have h:=j;exact⟨x,_,_,rfl,(by
   cases d with
   |exc C ks vs=>cases h
   |non=>rw[r.non];exact .non
   |bl b=>rw[r.bl];exact .bl b
   |int i=>rw[r.int];exact .int i
   |str y=>rw[r.str];exact .str y
   |tup xs=>obtain⟨a,vs,e,f,_⟩:=r.tup s.le;subst e;exact .tup f
   |lst xs=>obtain⟨a,vs,e,f,_⟩:=r.lst s.le;subst e;exact .lst f
   |dK ks vs=>obtain⟨a,kvs,e,⟨ep,f⟩,_⟩:=r.dK s.le;subst e;exact .dK f
   |dT ks vs=>obtain⟨a,kvs,e,⟨ep,bs,f⟩,_⟩:=r.dT s.le;subst e;exact .dT f),l d h,k.fz s<|.bl _⟩
@[simp]noncomputable def Qk:List D->Option SV
 | [.lst xs]=>aA<|.fz<|.int (xs.length:Nat)
 | [.tup xs]=>aA<|.fz<|.int (xs.length:Nat)
 | [.str x]=>if x.length<=dg then aA (.fz<|.int (x.length:Nat))else aB
 |_=>aB
theorem xK:Ox Z (λxs H Q=>(∃p ys,xs=[V.ref p]/\(W3 K H p ys\/Eu K H p ys)/\Q (.int ys.length) H)\/(∃z,xs=[V.str z]/\z.length<=dg/\Q (.int z.length) H)) Qk:=by
 intro F H σ δ own vs ds sv Q s r e k;unfold Qk at e;split at e
 .cases e;obtain⟨_,rfl,h⟩:=r.one;obtain⟨a,us,ex,f,c⟩:=h.lst s.le;subst ex;exact .inl ⟨a,us,rfl,.inl f,by rw[<-c.length];exact k.fz s<|.int _⟩
 .cases e;obtain⟨_,rfl,h⟩:=r.one;obtain⟨a,us,ex,f,c⟩:=h.tup s.le;subst ex;exact .inl ⟨a,us,rfl,.inr f,by rw[<-c.length];exact k.fz s<|.int _⟩
 .split at e
  .rename_i hz;cases e;obtain⟨_,rfl,h⟩:=r.one;exact .inr ⟨_,by rw[h.str],hz,k.fz s<|.int _⟩
  .cases e
 .cases e
@[simp]noncomputable def D3:List D->Option SV
 | [.lst xs]=>aA<|.ol xs
 | [.tup xs]=>aA<|.ol xs
 |_=>aB
theorem tX:Ox Z (λxs H Q=>∃p ys,xs=[V.ref p]/\(W3 K H p ys\/Eu K H p ys)/\∀l,H l=aB->Q (.ref l) (upd H l<|.lst ys)) D3:=by
 intro F H σ δ own vs ds sv Q s r e k;unfold D3 at e;split at e
 .cases e;obtain⟨_,rfl,h⟩:=r.one;obtain⟨a,us,ex,j,c⟩:=h.lst s.le;subst ex;exact⟨a,us,rfl,.inl j,λl f=>k.lst s c f⟩
 .cases e;obtain⟨_,rfl,h⟩:=r.one;obtain⟨a,us,ex,j,c⟩:=h.tup s.le;subst ex;exact⟨a,us,rfl,.inr j,λl f=>k.lst s c f⟩
 .cases e
@[simp]noncomputable def Rq:List D->Option SV
 | [.lst xs]=>aA<|.fz<|.tup xs
 |_=>aB
theorem pw:Ox Z (λxs H Q=>∃p ys,xs=[V.ref p]/\((W3 K H p ys/\∀l,H l=aB->Q (.ref l) (upd H l<|.tup ys))\/(Eu K H p ys/\Q (.ref p) H))) Rq:=by
 intro F H σ δ own vs ds sv Q s r e k;unfold Rq at e;split at e
 .cases e;obtain⟨_,rfl,h⟩:=r.one;obtain⟨a,us,ex,j,c⟩:=h.lst s.le;subst ex;exact⟨a,us,rfl,.inl ⟨j,λl f=>k.tup s c f⟩⟩
 .cases e
@[simp]noncomputable def XX:List D->Option SV
 | [.int i]=>aA<|.fz<|.int i
 | [.bl b]=>aA (.fz<|.int (if b then 1 else 0))
 |_=>aB
theorem xJ:Ox Z (λxs H Q=>(∃i,xs=[V.int i]/\Q (.int i) H)\/∃k,xs=[V.bl k]/\Q (.int (if k then 1 else 0)) H) XX:=by
 intro F H σ δ own vs ds sv Q s r e k;unfold XX at e;split at e
 .cases e;obtain⟨_,rfl,h⟩:=r.one;exact .inl ⟨_,by rw[h.int],k.fz s<|.int _⟩
 .cases e;obtain⟨_,rfl,h⟩:=r.one;exact .inr ⟨_,by rw[h.bl],k.fz s<|.int _⟩
 .cases e
section
variable{X:Cx}{Z:dP X.K}{a b c:dz}{fa fb fc:FE}{pos:Pos}
theorem Zc(i)(a:‹Vr X i x›)
 :PE X (.Name x pos)<|liftE Z<|Za i:=(Jy a).imp λ_ _ _ h=>xl h
theorem Zk:PE X (.Constant (.int i) j pos)<|liftE Z<|Zb<|.int i:=V2.imp λ_ _ _ h=>Mb (λ_=>.int _) h
theorem YX:PE X (.Constant (.bool i) j pos)<|liftE Z<|Zb<|.bl i:=w_.imp λ_ _ _ h=>Mb (λ_=>.bl _) h
theorem Wl:PE X (.Constant .none j pos)<|liftE Z<|Zb .non:=rE.imp λ_ _ _ h=>Mb (λ_=>.non) h
theorem Zx:PE X (.Constant (.str i) j pos)<|liftE Z<|Zb<|.str i:=V3.imp λ_ _ _ h=>Mb (λ_=>.str _) h
theorem nG(a:X.mg x=aA (.str y t))(c:‹Gl X x›)(hd:‹Nd x›):PE X (.Name x pos)<|liftE Z<|Zb<|.str y:=
 (KN (v:=.str y) c a ⟨t,rfl⟩ hd).imp λ_ _ _ h=>Mb (λ_=>.str _) h
theorem nF(a:X.mg x=aA (.int y t))(c:‹Gl X x›)(hd:‹Nd x›):PE X (.Name x pos)<|liftE Z<|Zb<|.int y:=
 (KN (v:=.int y) c a ⟨t,rfl⟩ hd).imp λ_ _ _ h=>Mb (λ_=>.int _) h
theorem D4(f:G5 X (sj op) r)(c:Wd Z r g)(l:PE X a<|liftE Z fa)(j:PE X b<|liftE Z fb):PE X (.BinOp a op b pos)<|liftE Z<|Zf g fa fb:=(wF f l j).imp λ_ _ _ h=>P5 c h
theorem Yo(f:PE X a<|liftE Z fa)(c:PE X b<|liftE Z fb):PE X (.BinOp a .Add b pos)<|liftE Z<|Zf Yu fa fb:=D4 oB xP f c
theorem D5(f:PE X a<|liftE Z fa)(c:PE X b<|liftE Z fb):PE X (.BinOp a .Sub b pos)<|liftE Z<|Zf K6 fa fb:=D4 sV wK f c
theorem Je(f:PE X a<|liftE Z fa)(c:PE X b<|liftE Z fb):PE X (.BinOp a .FloorDiv b pos)<|liftE Z<|Zf Qc fa fb:=D4 oY tj f c
theorem Wa(f:PE X a<|liftE Z fa)(c:PE X b<|liftE Z fb):PE X (.BinOp a .Mod b pos)<|liftE Z<|Zf We fa fb:=D4 sT wI f c
theorem Mx(f:G5 X (i3 op) r)(c:Wd Z r g)(m:PE X a<|liftE Z fa)(l:PE X b<|liftE Z fb)(j:nh op b=aE):PT X (.Compare a [op] [b] pos)<|liftT Z<|Zq<|Zf g fa fb:=
 (oW f m l j).imp λσ H Q h=>by obtain⟨F,δ,own,rv,δ',s,e,k⟩:=TN h;exact P5 c ⟨F,δ,own,rv,δ',s,e,k⟩
theorem YW(f:PE X a<|liftE Z fa)(c:PE X b<|liftE Z fb):PT X (.Compare a [.Lt] [b] pos)<|liftT Z<|Zq<|Zf ltD fa fb:=Mx wD gI f c<|C1 _
theorem gX(f:PE X a<|liftE Z fa)(c:PE X b<|liftE Z fb):PT X (.Compare a [.LtE] [b] pos)<|liftT Z<|Zq<|Zf leD fa fb:=Mx UJ VH f c<|C1 _
theorem Ft(f:PE X a<|liftE Z fa)(c:PE X b<|liftE Z fb):PT X (.Compare a [.Gt] [b] pos)<|liftT Z<|Zq<|Zf P7 fa fb:=Mx wC gH f c<|C1 _
theorem RI(f:PE X a<|liftE Z fa)(c:PE X b<|liftE Z fb):PT X (.Compare a [.GtE] [b] pos)<|liftT Z<|Zq<|Zf geD fa fb:=Mx wB gG f c<|C1 _
theorem Mz(f:PE X a<|liftE Z fa)(c:PE X b<|liftE Z fb):PT X (.Compare a [.Is] [b] pos)<|liftT Z<|Zq<|Zf Ey fa fb:=Mx sS xO f c<|C1 _
theorem La(f:PE X a<|liftE Z fa)(c:PE X b<|liftE Z fb):PT X (.Compare a [.IsNot] [b] pos)<|liftT Z<|Zq<|Zf I8 fa fb:=Mx oX tZ f c<|C1 _
theorem Xi(j:PT X a<|liftT Z f):PW X (.BoolOp .And [a] pos)<|liftT Z f:=by
 intro l dG s σ H Q I h;refine ID<|Wy (j dG s σ H Q I h) λc m e=>?_;cases c with
 |true=>exact isTrue_and_nil e
 |false=>exact e
theorem D6(j:PT X a<|liftT Z f):PW X (.BoolOp .Or [a] pos)<|liftT Z f:=by
 intro l dG s σ H Q I h;refine IP<|Wy (j dG s σ H Q I h) λc m e=>?_;cases c with
 |false=>exact isTrue_or_nil e
 |true=>exact e
theorem WC(u:PT X a<|liftT Z f)(r:PW X (.BoolOp .And (b::rest) pos)<|liftT Z g):PW X (.BoolOp .And (a::b::rest) pos)<|liftT Z<|YF f g:=(rC u r).imp λ_ _ _ h=>by
 obtain⟨F,δ,own,b,δ',s,e,k⟩:=h;refine L2.dO e λc δ1 v p=>?_;refine⟨F,δ,own,c,δ1,s,v,λH1 q j m n o=>?_⟩;cases c with
 |true=>exact⟨q,δ1,j,b,δ',o,p,λH2 w l a c d=>k H2 w l (m.trans a) (n.trans c) d⟩
 |false=>rw[dY df];cases p;exact k H1 q j m n o
theorem ZT(u:PT X a<|liftT Z f)(r:PW X (.BoolOp .Or (b::rest) pos)<|liftT Z g):PW X (.BoolOp .Or (a::b::rest) pos)<|liftT Z<|orF f g:=(w6 u r).imp λ_ _ _ h=>by
 obtain⟨F,δ,own,b,δ',s,e,k⟩:=h;refine L2.dO e λc δ1 v p=>?_;refine⟨F,δ,own,c,δ1,s,v,λH1 q j m n o=>?_⟩;cases c with
 |true=>rw[dZ rfl];cases p;exact k H1 q j m n o
 |false=>exact⟨q,δ1,j,b,δ',o,p,λH2 w l a c d=>k H2 w l (m.trans a) (n.trans c) d⟩
theorem Oy(j:PT X a<|liftT Z f):PT X (.UnaryOp .Not a pos)<|liftT Z<|Mm f:=(rB j).imp λ_ _ _ h=>by obtain⟨F,δ,own,b,δ',s,e,k⟩:=h;refine L2.dO e λc δ1 m l=>?_;cases l;exact⟨F,δ,own,c,δ1,s,m,k⟩
theorem Jn(h:PE X a<|liftE Z fa)(c:‹∀g,isTrue a X.e g=(do let v<-g;standAt a.pos;AA [v] (truthy v))›):PT X a<|liftT Z<|Zq fa:=(rD h c).imp λ_ _ _ h=>TN h
theorem OC(h:PE X a<|liftE Z fa):PE X (.BoolOp op [a] pos)<|liftE Z fa:=rA h
theorem OB(r:PE X a<|liftE Z fa)(q:PE X (.BoolOp .And (b::rest) pos)<|liftE Z fb):PE X (.BoolOp .And (a::b::rest) pos)<|liftE Z<|VJ fa fb:=(s_ r q).imp λ_ _ _ h=>by
 obtain⟨F,δ,own,rv,δ',s,e,k⟩:=h;refine L2.dO e λc δ1 u o=>?_;refine TN ⟨F,δ,own,c,δ1,s,u,λH1 p f l m n=>?_⟩;cases c with
 |true=>exact⟨p,δ1,f,rv,δ',n,o,λv H2 w j a c d=>k v H2 w j (l.trans a) (m.trans c) d⟩
 |false=>rw[dY df];cases o;exact k _ H1 p f l m n PN
theorem YV(r:PT X c<|liftT Z t)(w:PE X a<|liftE Z fa)(u:PE X b<|liftE Z fb):PE X (.IfExp c a b pos)<|liftE Z<|ifF t fa fb:=(lT r w u).imp λ_ _ _ h=>by
 obtain⟨F,δ,own,rv,δ',s,e,k⟩:=h;refine L2.dO e λc δ1 x p=>?_;refine⟨F,δ,own,c,δ1,s,x,λH1 q j m n o=>?_⟩;cases c with
 |true=>exact⟨q,δ1,j,rv,δ',o,p,λv H2 l f a c d=>k v H2 l f (m.trans a) (n.trans c) d⟩
 |false=>exact⟨q,δ1,j,rv,δ',o,p,λv H2 l f a c d=>k v H2 l f (m.trans a) (n.trans c) d⟩
theorem Zw:PA X []<|liftA Z Zh:=Wu.imp λσ H Q h=>by obtain⟨F,δ,own,a,δ',s,e,k⟩:=h;cases e;exact k [] H F own (Zm.refl H) (Zm.refl F) s .nil
theorem Zg(B:PE X a<|liftE Z fa)(A:PA X es<|liftA Z fr)(hs:‹Se X a es›):PA X (a::es)<|liftA Z<|Zd fa fr:=(Y8 B A hs).imp λ_ _ _ h=>by obtain⟨F,δ,own,u,δ',s,e,k⟩:=h;refine L2.dO e λrv δ1 K H=>?_;refine L2.dO H λw δ2 E C=>?_;cases C;refine⟨F,δ,own,rv,δ1,s,K,λv H1 T j n o r z=>?_⟩;obtain⟨Q,m,q,y⟩:=r.settleR z;exact⟨Q,δ1,j,w,δ2,q,E,λvs L P f l c p x=>k _ L P f (n.trans l) (o.trans<|m.trans c) p<|.cons (y.mono c) x⟩
theorem Ye:PA X []<|liftD Z Zp:=Wu.imp λ_ _ _ h=>P6 h
theorem Zv(f:PE X a<|liftE Z fa)(c:PA X es<|liftD Z fr)(hs:‹Se X a es›):PA X (a::es)<|liftD Z<|Zl fa fr:=(Y8 f c hs).imp λ_ _ _ h=>Tb h
theorem Ww(h:PA X es<|liftD Z fd):PE X (.Tuple es k pos)<|liftE Z<|tupF fd:=(sQ h).imp λ_ _ _ h=>by
 obtain⟨F,δ,own,rv,δ',s,e,k⟩:=h;refine L2.dO e λds δ1 r j=>?_;by_cases hz:ds.length<=dg
 .rw[dZ hz]at j;cases j;refine⟨F,δ,own,ds,δ1,s,r,λvs H1 w f m n o l=>⟨by rw[<-l.length];exact hz,λp q=>?_⟩⟩;exact B2.tup (λv H2 u ns a b c t=>k v H2 u f (m.trans a) (n.trans b) c ⟨ns,t⟩) o l q
 .rw[dY hz]at j;cases j
theorem Wi(h:PA X es<|liftD Z fd):PE X (.List es pos)<|liftE Z<|Qa fd:=(Kr h).imp λ_ _ _ h=>by
 obtain⟨F,δ,own,rv,δ',s,e,k⟩:=h;refine L2.dO e λds δ1 r j=>?_;by_cases hz:ds.length<=dg
 .rw[dZ hz]at j;cases j;refine⟨F,δ,own,ds,δ1,s,r,λvs H1 w f m n o l=>⟨by rw[<-l.length];exact hz,λp q=>?_⟩⟩;exact B2.lst (λv H2 u ns a b c t=>k v H2 u f (m.trans a) (n.trans b) c ⟨ns,t⟩) o l q
 .rw[dY hz]at j;cases j
theorem Te:PO X aB<|liftO Z Rp:=λdG s σ H Q I h=>oU dG s σ H Q I (by
 obtain⟨F,δ,own,o,δ',s,e,k⟩:=h;cases e;exact k H F own (Zm.refl H) (Zm.refl F) s)
theorem Qv(o:PE X a<|liftE Z fa):PO X (aA a)<|liftO Z<|Q4 fa:=λdG s σ H Q I h=>oS o dG s σ H Q I (by
 obtain⟨F,δ,own,b,δ',s,e,k⟩:=h;refine L2.dO e λrv δ1 p f=>?_;refine⟨F,δ,own,rv,δ1,s,p,λv H1 q c j l m n=>?_⟩;dsimp only at f;split at f
 .cases f;obtain⟨ns,t⟩:=n;cases Q0 t.sh;exact⟨_,rfl,k H1 q c j l m⟩
 .cases f)
theorem N7{lo:Á dz}(j:PE X a<|liftE Z fa)(c:PO X lo<|liftO Z fl)(f:PO X hi<|liftO Z fh):PE X (.Subscript a (.Slice lo hi aB p2) pos)<|liftE Z<|slF Dh fa fl fh:=
 (lM (oM.or tY) j c f).imp λ_ _ _ h=>gZ gY h
theorem Xj{id}{p}(q:Ou X (.builtin id) r)(l:Ox Z r g)(m:X.mg x=aB)(j:kq x=aA (.builtin id))(s:PA X (a::es)<|liftA Z fr)(n:‹Gl X x›)(hn:‹x≠"__name__"›)(f:‹Nd x›)(o:‹Se X a es›)(c:‹Bk X pos es›):PE X (.Call (.Name x p) (a::es) [] pos)<|liftE Z<|Yh g fr:=(Ks q n m j s hn f o c).imp λ_ _ _ h=>K3 l h
theorem Aj{p}(q:Ou X (.type T) r)(l:Ox Z r g)(m:X.mg x=aB)(j:kq x=aA (.type T))(s:PA X (a::es)<|liftA Z fr)(n:‹Gl X x›)(hn:‹x≠"__name__"›)(f:‹Nd x›)(o:‹Se X a es›)(c:‹Bk X pos es›):PE X (.Call (.Name x p) (a::es) [] pos)<|liftE Z<|Yh g fr:=(Pt q n m j s hn f o c).imp λ_ _ _ h=>K3 l h
theorem W4{p}(j:X.mg "len"=aB)(m:PE X a<|liftE Z fa)(l:‹Gl X "len"›)(f:‹Se X a []›)(c:‹Bk X pos []›):PE X (.Call (.Name "len" p) [a] [] pos)<|liftE Z<|Yh Qk<|Zd fa Zh:=
 Xj (Aa.or (by
  intro dG s σ H xs us Q I r h;obtain⟨z,rfl,hz,q⟩:=h;obtain⟨u,rfl,t,rfl⟩:=Jw r;have hn:=Kq;exact len_str Θ ⟨.int z.length,H,I.tok _,⟨_,rfl⟩,q⟩)) xK j FQ (Zg m Zw f) l Γ Γ f c
theorem tW{p}(h:X.mg "list"=aB)(l:PE X a<|liftE Z fa)(j:‹Gl X "list"›)(f:‹Se X a []›)(c:‹Bk X pos []›):PE X (.Call (.Name "list" p) [a] [] pos)<|liftE Z<|Yh D3<|Zd fa Zh:=
 Aj Xb tX h yq (Zg l Zw f) j Γ Γ f c
theorem Fy{p}(h:X.mg "tuple"=aB)(l:PE X a<|liftE Z fa)(j:‹Gl X "tuple"›)(f:‹Se X a []›)(c:‹Bk X pos []›):PE X (.Call (.Name "tuple" p) [a] [] pos)<|liftE Z<|Yh Rq<|Zd fa Zh:=
 Aj Mr pw h CJ (Zg l Zw f) j Γ Γ f c
theorem tT{p}(h:X.mg "int"=aB)(l:PE X a<|liftE Z fa)(j:‹Gl X "int"›)(f:‹Se X a []›)(c:‹Bk X pos []›):PE X (.Call (.Name "int" p) [a] [] pos)<|liftE Z<|Yh XX<|Zd fa Zh:=
 Aj jL xJ h boot_int (Zg l Zw f) j Γ Γ f c
theorem G2{c}{p p2}(r:X.mg "isinstance"=aB)(j:X.mg x=aB)(q:kq x=aA (.type c))(s:∀d:D,d.isExc=aE->og X.K (.type d.pyTy) (.type c)=aA (d.pyTy==c|| (c=="int" &&d.pyTy=="bool")))(v:PE X a<|liftE Z fa)(u:‹Gl X "isinstance"›)(l:‹Gl X x›)(hn:‹x≠"__name__"›)(n:‹Nd x›)(o:‹Se X a [.Name x p2]›)(m:‹Se X (.Name x p2) []›)(f:‹(qt pos<|jv [.Name x p2] X.e).any (·.1)=aE›):
  PE X (.Call (.Name "isinstance" p) [a,.Name x p2] [] pos) (liftE Z<|Af (Mn c) fa):=
 (Ks lA u r boot_isinstance (Y8 v (Y8 (λ_ _ _ H _ I h=>Rf I l j q ⟨(.ty c),H,I,rfl,h⟩ hn n) Wu m) o) Γ Γ o f).imp λσ H Q h=>by have h2:=RM (xL s) h;exact h2
theorem nE(ho:G5 X (i3 op) r)(hp:Wd Z r g)(zW:G5 X (i3 op') r')(Y:Wd Z r' g')(ha:PE X a<|liftE Z fa)(hb:PE X b<|liftE Z fb)(hc:PE X c<|liftE Z fc)(hm:IM [op,op'] [b,c]=aE:=by with_unfolding_all rfl):
  PE X (.Compare a [op,op'] [b,c] pos) (liftE Z<|MA g g' fa fb fc):=(lN ho zW ha hb hc hm).imp λσ H Q h=>by
   obtain⟨F,δ,own,rv,δ',s,e,k⟩:=h;refine L2.dO e λR δ1 e1 e=>?_;refine L2.dO e λO δ2 e2 e=>?_;refine L2.dN e λx e3 e=>?_;refine L2.dN e λy e4 e=>?_;refine L2.dN e λsv e5 e=>?_;refine⟨F,δ,own,R,δ1,s,e1,λv H1 F1 P C L s1 r1=>?_⟩;obtain⟨fC,j,M,U⟩:=s1.settleR r1;refine⟨fC,δ1,P,O,δ2,M,e2,λu H2 F2 f B o s2 r2=>?_⟩;obtain⟨F3,n,J,r3⟩:=s2.settleR r2;refine hp F3 H2 σ δ2 f v u x y sv _ J (J.rd (U.mono<|o.trans n) e3) (J.rd r3 e4) e5 λz H4 F4 ns A m s4 t4=>?_;dsimp only at e;split at e
   .cases Q0 t4.sh;refine⟨aC,rfl,?_⟩;rw[dZ rfl];refine L2.dO e λN p e6 e=>?_;refine L2.dN e λy' e7 e=>?_;refine L2.dN e λz' e8 e=>?_;refine L2.dN e λsv' e9 e=>?_;cases e;refine⟨F4,δ2,f,N,p,s4,e6,λw H5 F5 l i K s5 r5=>?_⟩;obtain⟨F6,E,I,r6⟩:=s5.settleR r5;refine Y F6 H5 σ p l u w y' z' sv' _ I (I.rd (r3.mono<|m.trans<|K.trans E) e7) (I.rd r6 e8) e9 λq H7 F7 W T G s7 t7=>?_;exact k q H7 F7 l (C.trans<|B.trans<|A.trans<|i.trans T) (L.trans<|j.trans<|o.trans<|n.trans<|m.trans<|K.trans<|E.trans G) s7 ⟨W,t7⟩
   .cases Q0 t4.sh;cases e;refine⟨aE,rfl,?_⟩;exact k _ H4 F4 f (C.trans<|B.trans A) (L.trans<|j.trans<|o.trans<|n.trans m) s4 PN
   .cases e
theorem Z6(i)(l:X.N.Nodup)(a:‹X.N[i]? =aA x›)(c:‹Loc X.e.scope x›)(hf:‹X.fn x=aC\/X.e.scope.names.lookup x=aA .local›):PG X (.Name x pos)<|liftG Z<|Zj i:=(oa l a c hf).imp λ_ _ _ _ h=>by obtain⟨F,δ,own,d,δ',s,r,e,k⟩:=h;obtain⟨a,rfl⟩:=Ag (x:=δ.set i<|aA<|.fz d) e;exact k _ _ (s.store (.fz r) (by rw[s.len];exact a)) λj f=>gj λz=>f (by rw[z];exact ac)
theorem Rr:PGs X []<|liftGs Z W0:=oZ.imp λ_ _ _ _ h=>t_ h
theorem Wx(h1:PG X a<|liftG Z g)(h2:PGs X es<|liftGs Z r)(hs:‹(pz (a::es) X.e).map (·.2)=AB a X.e::(pz es X.e).map (·.2)›):PGs X (a::es)<|liftGs Z<|Yj g r:=(lQ h1 h2 hs).imp λ_ _ _ _ h=>by
 obtain⟨F,δ,own,ds,δ',s,v,e,k⟩:=h;cases v with
 |nil=>cases e
 |cons h t=>refine L2.dN e λδ1 x w=>?_;exact⟨_,_,rfl,F,δ,own,_,δ1,s,h,x,λn f u p=>⟨F,δ1,f,_,δ',u,t,w,λl c q o=>k l c q λj m=>(o j λz=>m<|di _ z).trans<|p j λz=>m<|dr _ z⟩⟩
theorem I9{k:Nat}(c:X.calm=aC)(h:PGs X es<|liftGs Z g)(hn:‹(pz es X.e).length=n›)(a:‹(pz es X.e).findIdx? (·.1)=aB›):PG X (.Tuple es k pos)<|liftG Z<|W1 n g:=(sd c h hn a).imp λ_ _ _ _ h=>by
 obtain⟨F,δ,own,d,δ',s,r,e,k⟩:=h;dsimp only[W1]at e;split at e
 .rename_i xs;split at e
  .rename_i hn;replace hn:=Rm hn;obtain⟨_,_,rfl,h,r⟩:=r.tupI;exact⟨_,_,rfl,Ut s.le<|Iy h,by rw[<-r.length];exact hn,F,δ,own,_,δ',s,r,e,k⟩
  .cases e
 .cases e
theorem P8{tg}{p}(u:X.mg "range"=aB)(x:PE X a<|liftE Z fa)(w:‹Gl X "range"›)(hs:‹jv [a] X.e=[(aE,oz a X.e)]›):PI X tg (.Call (.Name "range" p) [a] [] pos)<|liftI Z<|ZW<|Zd fa Zh:=(jX w u (Zg x Zw hs) hs).imp λ_ _ _ h=>by
 obtain⟨F,δ,own,ds,δ',s,e,k⟩:=h;refine L2.dO e λm δ1 y c=>?_;refine⟨F,δ,own,m,δ1,s,y,λvs H1 z f o q n r=>?_⟩;dsimp only at c;split at c
 .rename_i j v;have rn:=n.rdAll r v;obtain⟨_,rfl,h⟩:=rn.one;by_cases l:Dy j
  .rw[dZ l]at c;cases c;exact⟨j,by rw[h.int],l.1,l.2,k _ H1 z f o q n Xg⟩
  .rw[dY l]at c;cases c
 .cases c
theorem Ez{elts}{k}{tp p}(q:X.mg "enumerate"=aB)(v:PE X a<|liftE Z fa)(u:‹Gl X "enumerate"›)(hs:‹jv [a] X.e=[(aE,oz a X.e)]›):PI X (.Tuple elts k tp) (.Call (.Name "enumerate" p) [a] [] pos)<|liftI Z<|K8<|Zl fa Zp:=(oA u q (Zv v Ye hs) hs).imp λ_ _ _ h=>by
 obtain⟨F,δ,own,ds,δ',s,e,k⟩:=h;refine L2.dO e λj δ1 w f=>?_;refine⟨F,δ,own,j,δ1,s,w,λvs H1 x c m n l o=>?_⟩;dsimp only at f;split at f
 .rename_i xs;cases f;obtain⟨_,rfl,h⟩:=o.one;obtain⟨_,_,rfl,h,_,r⟩:=h.lstI;exact⟨_,_,rfl,Yt l.le h,k _ H1 x c m n l<|D2 h r⟩
 .cases f
theorem E1{src:À BSrc}(f:scope.kind= .function)(a:(scope.names.all λy=>!(y.2== .cell))=aC)(names:(scope.names.all λy=>!(y.2== .local)|| (scope.names.lookup y.1==aA .local))=aC)(free:(scope.names.all λy=>!(y.2== .free)|| (X.e.kindOf y.1==aA .cell)|| (X.e.kindOf y.1==aA .free))=aC)(l:src.length=N'.length)(m:((gz src.length).all λk=>match src[k]?,N'[k]? with
   |some (.cap j),aA x=>(X.N[j]? ==aA x)&&((X.e.kindOf x==aA .cell)|| (X.e.kindOf x==aA .free))&&(scope.names.lookup x==aA .free)
   |some .acc,aA x=>scope.names.lookup x==aB
   |_,_=>aC)=aC):CompScope X N' scope src:=by
 have c:∀(k:Nat) (q:BSrc) (x:Str),src[k]? =aA q->N'[k]? =aA x->(match aA q,aA x with
   |some (.cap j),aA x=>(X.N[j]? ==aA x)&&((X.e.kindOf x==aA .cell)|| (X.e.kindOf x==aA .free))&&(scope.names.lookup x==aA .free)
   |some .acc,aA x=>scope.names.lookup x==aB
   |_,_=>aC)=aC:=λk q x h1 h2=>by
  have n:k<src.length:=(ci.mp h1).1;have:=gi.mp m k<|lh.mpr n;rw[h1,h2]at this;exact this
 refine⟨f,λy h e=>?_,λy h e=>?_,λy h e=>?_,l,λk j x h1 h2=>?_,λk x h1 h2=>?_⟩
 .have:=gi.mp a y h;rw[e]at this;cases this
 .have:=gi.mp names y h;rw[e]at this;simpa using this
 .have:=gi.mp free y h;rw[e]at this;simpa using this
 .have:=c k (.cap j) x h1 h2;simp only[ig,xo,beq_iff_eq]at this;exact⟨this.1.1,this.1.2,this.2⟩
 .have:=c k .acc x h1 h2;simpa using this
theorem UB{src:À BSrc}(k)(acc:src[k]? =aA .acc)(a:((gz src.length).all λi=>match src[i]? with
   |some .acc=>i==k
   |_=>aC)=aC):SrcOk src k:=⟨acc,λi h=>by
  have c:i<src.length:=(ci.mp h).1;have:=gi.mp a i<|lh.mpr c;rw[h]at this;simpa using this⟩
theorem Ug(K):∀d:D,d.isExc=aE->og K (.type d.pyTy) (.type "str")=aA (d.pyTy=="str" || ("str"=="int" &&d.pyTy=="bool")):=by intro d h;cases d<;> first| (cases h;done)|with_unfolding_all rfl
theorem m_(K):∀d:D,d.isExc=aE->og K (.type d.pyTy) (.type "list")=aA (d.pyTy=="list" || ("list"=="int" &&d.pyTy=="bool")):=by intro d h;cases d<;> first| (cases h;done)|with_unfolding_all rfl
theorem k_(K):∀d:D,d.isExc=aE->og K (.type d.pyTy) (.type "tuple")=aA (d.pyTy=="tuple" || ("tuple"=="int" &&d.pyTy=="bool")):=by intro d h;cases d<;> first| (cases h;done)|with_unfolding_all rfl
theorem xg(h:∀Z:dP X.K,PG X tg<|liftG Z g):PG X tg<|xG X.K g:=λdG s σ H v u Q I r ⟨Z,q⟩=>h Z dG s σ H v u Q I r q
theorem xe(h:∀Z:dP X.K,PE X e<|liftE Z f):PE X e<|xE X.K f:=λdG s σ H Q I ⟨Z,q⟩=>h Z dG s σ H Q I q
theorem xt(h:∀Z:dP X.K,PT X e<|liftT Z f):PTs X [e]<|xT X.K f:=λdG s σ H Q I ⟨Z,q⟩=>wpAny_tests_one<|(h Z) dG s σ H Q I q
theorem Xk:PTs X []<|xT X.K Y1:=λdG s σ H Q I ⟨Z,q⟩=>by obtain⟨F,δ,own,b,δ',a,e,k⟩:=q;cases e;exact wpAny_tests_nil ⟨H,I,(k H F own (Zm.refl H) (Zm.refl F) a)⟩
theorem Z4:Ma X []<|liftS Z Yb:=ov.imp λ_ _ _ h=>sB h
theorem Ze{st}{rest}{f g}(h1:PS X st<|liftS Z f)(h2:Ma X rest<|liftS Z g):Ma X (st::rest)<|liftS Z<|Zo f g:=(lS h1 h2).imp λ_ _ _ h=>by
 obtain⟨F,δ,own,fl,s,e,k⟩:=h;refine L2.dN e λj n c=>?_;refine⟨F,δ,own,j,s,n,?_⟩;cases j with
 |nx δ1=>exact λl H' F' a m s'=>⟨F',δ1,a,fl,s',c,k.mono m⟩
 |bk δ1=>cases c;exact k
 |ct δ1=>cases c;exact k
 |rt sv=>cases c;exact k
 |ex x δ1=>cases c;exact k
theorem Zi{st}(h:PS X st<|liftS Z f):Ma X [st]<|liftS Z f:=ot h
def Ql:FS:=λ_=>aB
theorem Wq{st}:PS X st<|liftS Z Ql:=lR.imp λ_ _ _ h=>by obtain⟨F,δ,own,fl,s,e,k⟩:=h;cases e
theorem NV(h:PE X a<|liftE Z fa)(hs:‹i6 a aB pos.line X.e=jh aE›):PS X (.Expr a pos)<|liftS Z<|WF fa:=(Q9 h hs).imp λ_ _ _ h=>sA h
theorem Z3(h:PE X a<|liftE Z fa):PS X (.Return (aA a) pos)<|liftS Z<|Ym fa:=(sq h).imp λ_ _ _ h=>wM h
theorem Ys(o:PT X c<|liftT Z t)(q:Ma X bt<|liftS Z f)(p:Ma X be<|liftS Z g):PS X (.If c bt be pos)<|liftS Z<|Wo t f g:=(wl o q p).imp λ_ _ _ h=>by
 obtain⟨F,δ,own,fl,s,e,k⟩:=h;refine L2.dO e λc δ1 r m=>?_;refine⟨F,δ,own,c,δ1,s,r,λH1 n a u j l=>?_⟩;cases c with
 |true=>rw[dZ rfl];exact⟨n,δ1,a,fl,l,m,k.mono j⟩
 |false=>rw[dY df];exact⟨n,δ1,a,fl,l,m,k.mono j⟩
theorem Zu(i){x}{pos'}(l:X.N.Nodup)(j:PE X a<|liftE Z fa)(f:‹X.N[i]? =aA x›)(c:‹Loc X.e.scope x›)(hs:‹i6 a (aA<|.Name x pos') pos.line X.e=jh aE›)(hf:‹X.fn x=aC\/X.e.scope.names.lookup x=aA .local›):
  PS X (.Assign [.Name x pos'] a pos) (liftS Z<|Z1 i fa):=(T_ l f c j hs hf).imp λ_ _ _ h=>WE h
theorem Wr(a:zi (dw X.p X.w) X.A X.e X.xe)(l:X.calm=aC)(c:PI X tg iter<|liftI Z fi)(j:PG X tg<|liftG Z g)(m:Ma X body<|liftS Z f)(hs:‹∀x,md iter X.e x=jh x›):
  PS X (.For tg iter body [] pos) (liftS Z<|Q3 fi g f):=(sX a l c j m hs).imp λ_ _ _ h=>wL h
theorem Ak(n)(a:zi (dw X.p X.w) X.A X.e X.xe)(j:PT X c<|liftT Z t)(l:Ma X body<|liftS Z f):PS X (.While c body [] pos)<|liftS Z<|Qj t f n:=(lP a j l).imp λ_ _ _ h=>oC h
theorem Ob(i){px ZA cpos}(f:PE X b<|liftE Z fb)(j:‹Vr X i x›)(c:‹Mc X (.Name x px) "append" ZA cpos b []›)(a:‹i6 (.Call (.Attribute (.Name x px) "append" ZA) [b] [] cpos) aB pos.line X.e=jh aE›):
  PS X (.Expr (.Call (.Attribute (.Name x px) "append" ZA) [b] [] cpos) pos) (liftS Z<|B3 i fb):=
 (Q9 (Ow gw mm mj Oo (Jy (i:=i) j) (Y8 f Wu c.st) c) a).imp λ_ _ _ h=>OH h
end
@[simp]noncomputable def Yf(f:FS)(n:Nat)(ds:List D):Option SV:=match f (Qu n ds)with
 |some (.rt sv)=>aA sv
 |some (.nx _)=>aA<|.fz .non
 |_=>aB
theorem Lb(h:Uv K n (Yf f N.length) vs H Q E):∃F,liftS (ent H F:dP K) f {nx:=λ_ H'=>Q .non H',rt:=Q} (L2.Qn N vs) H:=by
 obtain⟨F,ds,sv,le,r,hn,e,k⟩:=h;unfold Yf at e;split at e
 .rename_i sw hf;cases e;exact⟨F,F,_,_,.rt sv,Ah (N:=N) le r,hf,λv H' F' ns a b c d o m ok=>k v H' F' ns d a b c o m ok⟩
 .rename_i δ hf;cases e;exact⟨F,F,_,_,.nx δ,Ah (N:=N) le r,hf,λl H' F' j a s'=>k .non H' F' [] s'.old a s'.le s'.fro (.fz .non) gd λ_ h=>(nomatch h)⟩
 .cases e
theorem D7:∀ns:À Int,dJ K F (ns.map D.int) (ns.map V.int)
 | []=>.nil
 |n::r=>.cons (.int n)<|D7 r
end
abbrev YD(h:ie)(z TI TO:aq)(c a:am):Prop:=h.get? z=aA {cls:=.type "zip",dict:=aB,data:=.fields #[c,a,.bool aE,.ref TI,.ref TO],slots:= #[]}
theorem D8{TI TO T:aq}(hz:YD s.heap z TI TO (j4 (T:Nat)) f1)(j:s.heap.get? T=aA o)(h:∀h',(∃f,YD h' z TI TO (j4 (T:Nat)) f)->qi z s.heap h'->Q aE {s with heap:=h'}):de (dw prog w) A (Builtin.SmallTypes.ownedTupleIsFree<|.ref z) Q E s:=by
 refine af<|ny hz rfl (x:=j4 (T:Nat)) rfl ?_;show de _ _ (loadIfAlive (Int.toNat (T:Nat)) >>=_) _ _ _;refine af<|PySem.W.kdx_alive j ?_;refine af<|ny hz rfl (x:=f1) rfl ?_;by_cases e:(f1 != .bool aC)=aC
 .rw[dZ e];exact af<|wpAny_setField_rec hz Δ λh' a c=>ay<|h h' ⟨_,a⟩ c
 .rw[dY e];exact ay<|h _ ⟨_,hz⟩ ⟨rfl,λ_ _=>rfl⟩
theorem km{z TI TO T i1 i2 l1 l2:aq}(D:ve z TI TO i1 i2 l1 l2)(hz:YD s.heap z TI TO (j4 (T:Nat)) f1)(i:s.heap.get? T=aA o)(v:uz s.heap TI (.ref i1)<|.ref i2)(h1:s.heap.IsListIter i1 l1 k1)(h2:s.heap.IsListIter i2 l2 k2)(u:s.heap.IsList l1 xs)(r:s.heap.IsList l2 ys)(Z:xs[k1]? =aA x)(X:ys[k2]? =aA y)(hQ:∀h',(∃f,YD h' z TI TO (j4 (T:Nat)) f)->h'.IsListIter i1 l1 (k1+1)->h'.IsListIter i2 l2 (k2+1)->uz h' s.heap.objs.size x y->h'.objs.size=s.heap.objs.size+1->
   (∀c o,c≠z->c≠i1->c≠i2->s.heap.get? c=aA o->h'.get? c=aA o)->Q (aA<|.ref s.heap.objs.size) {s with heap:=h'}):
  de (dw prog w) A (qr<|.ref z) Q E s:=by
 have q:s.TypeIs (.ref z) "zip":=⟨_,hz,rfl⟩
 refine af<|ud<|p8 (name:=aa "__next__") q F.slot_zip_next<|jt F.slot_zip_next q F.entry_zip_next ?_<|F.args_zip_next_1 _;show de _ _ (field (.ref z) 2 >>=_) _ _ _;refine af<|ny hz rfl (x:=.bool aE) rfl ?_;refine af<|ny hz rfl (x:=.ref TI) rfl ?_;refine af<|vb v rfl ?_;refine af<|D8 hz i λL l a=>?_;simp only[j5,if_false];rw[<-t5];simp only[po,vh];obtain⟨f,l⟩:=l;refine af<|af<|af ?_;refine af<|zw (h1.extBut a.extBut D.i1z) (u.extBut a.extBut D.l1z) Z λK p h=>ay<|ay ?_;refine af<|af<|j6 ?_;refine af<|zw ((h2.extBut a.extBut D.i2z).extBut h.extBut D.i12.symm) ((r.extBut a.extBut D.l2z).extBut h.extBut D.l2i1) X λm n j=>ay<|ay<|ay ?_;show de _ _ (newTuple [x,y] >>=_) _ _ _;refine af<|FF ?_;have hsz:m.objs.size=s.heap.objs.size:=by rw[j.1,h.1,a.1]
 have g:∀c o,c≠z->c≠i1->c≠i2->s.heap.get? c=aA o->m.get? c=aA o:=λc o H C B e=>j.extBut _ _ B<|h.extBut _ _ C<|a.extBut _ _ H e;have P:=dn m (o:={cls:=.type "tuple",data:=.seq #[x,y]}) rfl;rw[hsz]at P;refine ay ⟨_,rfl,ay ?_⟩;show Q (aA<|.ref m.objs.size) _;rw[hsz];exact hQ _ ⟨f,aw _<|j.extBut _ _ D.i2z.symm<|h.extBut _ _ D.i1z.symm l⟩ ((p.extBut j.extBut D.i12).at λo e=>aw _ e) (n.at λo e=>aw _ e) P (by rw[FW,hsz]) λc o H C B e=>aw _<|g c o H C B e
theorem mu{z TI TO T i1 i2 l1 l2:aq}(y:A.handled=aB)(D:ve z TI TO i1 i2 l1 l2)(hz:YD s.heap z TI TO (j4 (T:Nat)) f1)(C:s.heap.get? T=aA o)(p:uz s.heap TI (.ref i1)<|.ref i2)(h1:s.heap.IsListIter i1 l1 k1)(m:s.heap.IsList l1 xs)(v:xs[k1]? =aB)(hQ:∀h',(∀c o,c≠z->c≠i1->s.heap.get? c=aA o->h'.get? c=aA o)->Q aB {s with heap:=h'}):de (dw prog w) A (qr<|.ref z) Q E s:=by
 have h:s.TypeIs (.ref z) "zip":=⟨_,hz,rfl⟩
 refine af<|ud<|p8 (name:=aa "__next__") h F.slot_zip_next<|jt F.slot_zip_next h F.entry_zip_next ?_<|F.args_zip_next_1 _;show de _ _ (field (.ref z) 2 >>=_) _ _ _;refine af<|ny hz rfl (x:=.bool aE) rfl ?_;refine af<|ny hz rfl (x:=.ref TI) rfl ?_;refine af<|vb p rfl ?_;refine af<|D8 hz C λr j a=>?_;simp only[j5,if_false];rw[<-t5];refine af<|af<|af ?_;refine af<|wpAny_nextOf_list_end y (h1.extBut a.extBut D.i1z) (m.extBut a.extBut D.l1z) v λq e f B=>?_;obtain⟨u,l,n⟩:=B;refine af<|uj (T:="StopIteration") (b:=aC) ⟨u,l,n⟩ FK ?_;exact ay<|hQ _ λc o K H e=>f _ _ H<|a.extBut _ _ K e
structure ZE(n0:Nat)(h:ie)(z TI TO i1 i2 l1 l2:aq)(i:Nat):Prop where
 zr:∃f0 f1,YD h z TI TO f0 f1/\(f0= .none/\f1= .bool aE\/∃T:Nat,f0=j4 (T:Nat)/\n0<=T/\∃o,h.get? T=aA o)
 ti:uz h TI (.ref i1)<|.ref i2
 to:∃a b,uz h TO a b
 a1:h.IsListIter i1 l1 i
 a2:h.IsListIter i2 l2 i
theorem ZE.keep{z TI TO i1 i2 l1 l2}(st:ZE n0 h z TI TO i1 i2 l1 l2 i)(k:∀b o,b=z\/b=TI\/b=TO\/b=i1\/b=i2\/n0<=b->h.get? b=aA o->h'.get? b=aA o):ZE n0 h' z TI TO i1 i2 l1 l2 i:=by obtain⟨⟨m,l,a,b⟩,f,⟨p,q,c⟩,r,n⟩:=st;refine⟨⟨m,l,k _ _ (.inl rfl) a,b.imp id λ⟨T,e,g,o,j⟩=>⟨T,e,g,o,k _ _ (by simp[g]) j⟩⟩,k _ _ Δ f,⟨p,q,k _ _ Δ c⟩,r.at λo e=>k _ _ Δ e,n.at λo e=>k _ _ Δ e⟩
theorem tS{z TI TO i1 i2 l1 l2}(D:ve z TI TO i1 i2 l1 l2)(st:ZE n0 s.heap z TI TO i1 i2 l1 l2 i)(hn:n0<=s.heap.objs.size)(H:z<n0/\TI<n0/\TO<n0/\i1<n0/\i2<n0)(l:s.heap.IsList l1 xs)(j:s.heap.IsList l2 ys)(P:xs[i]? =aA x)(L:ys[i]? =aA y)(hQ:∀h',ZE n0 h' z TI TO i1 i2 l1 l2 (i+1)->uz h' s.heap.objs.size x y->h'.objs.size=s.heap.objs.size+1->(∀c o,c∉[z,TO,i1,i2]->s.heap.get? c=aA o->h'.get? c=aA o)->Q (aA<|.ref s.heap.objs.size) {s with heap:=h'}):
  de (dw prog w) A (qr<|.ref z) Q E s:=by
 obtain⟨⟨M,J,hz,b⟩,m,⟨p,q,K⟩,G,Z⟩:=st;rcases b with⟨rfl,rfl⟩|⟨T,rfl,g,o,X⟩
 .refine AR D hz m K G Z l j P L λh' F I C B n v h=>?_;exact hQ h' ⟨⟨_,_,F,.inr ⟨_,rfl,hn,_,n⟩⟩,h _ _ D.TIz D.TITO D.TIi1 D.TIi2 m,⟨_,_,I⟩,C,B⟩ n v λc o a e=>by simp at a;exact h c o a.1 a.2.1 a.2.2.1 a.2.2.2 e
 .refine km D hz X m G Z l j P L λh' r C B n v h=>?_;obtain⟨f,F⟩:=r;have u:T≠z/\T≠i1/\T≠i2:=⟨ku<|dh H.1 g,ku<|dh H.2.2.2.1 g,ku<|dh H.2.2.2.2 g⟩
  exact hQ h' ⟨⟨_,f,F,.inr ⟨T,rfl,g,o,h _ _ u.1 u.2.1 u.2.2 X⟩⟩,h _ _ D.TIz D.TIi1 D.TIi2 m,⟨_,_,h _ _ D.TOz D.TOi1 D.TOi2 K⟩,C,B⟩ n v λc o a e=>by simp at a;exact h c o a.1 a.2.2.1 a.2.2.2 e
theorem xI{z TI TO i1 i2 l1 l2}(n:A.handled=aB)(D:ve z TI TO i1 i2 l1 l2)(st:ZE n0 s.heap z TI TO i1 i2 l1 l2 i)(f:s.heap.IsList l1 xs)(h:s.heap.IsList l2 ys)(m:xs[i]? =aB)(hQ:∀h',(∀c o,c∉[z,TO,i1,i2]->s.heap.get? c=aA o->h'.get? c=aA o)->Q aB {s with heap:=h'}):
  de (dw prog w) A (qr<|.ref z) Q E s:=by
 obtain⟨⟨B,y,hz,b⟩,l,⟨p,q,u⟩,r,x⟩:=st;rcases b with⟨rfl,rfl⟩|⟨T,rfl,g,o,v⟩
 .exact AY n D hz l u r x f h (.inl m) λh' j=>hQ h' λc o a e=>by simp at a;exact j c o a.1 a.2.1 a.2.2.1 a.2.2.2 e
 .exact mu n D hz v l r f m λh' j=>hQ h' λc o a e=>by simp at a;exact j c o a.1 a.2.2.1 e
section
variable{X:Cx}{dG:À (aq×Obj)}{σ:L2.St}{H:Hp}{s:au}
theorem dL.turnedZ{ch:À aq}{T:aq}(I:dL X dG σ H s)(k:∀b o,b∉ch->s.heap.get? b=aA o->h'.get? b=aA o)(f:∀b∈ch,Qy X dG H b)(w:T=s.heap.objs.size)(x:HV h' T dI.toArray)(rv:Yg xs dI)(hz:xs.length<=sizeLine):dL X dG σ (upd H T<|.tup xs) {s with heap:=h',toks:=t'}:=by
 have a:H T=aB:=by rw[w];exact I.hok.fresh<|cj _
 have p:∀b o,s.heap.get? b=aA o->b≠T:=λb o q=>by rw[w];exact eh<|cn q
 have l:∀b u,H b=aA u->b∉ch:=λb u q h=>by rw[(f b h).1]at q;cases q
 refine I.step (g':=s.gens) (d':=s.drawn) (ch:=ch) (λb h=>?_) (λb o _ _ j q _=>k b o j q) (λb o _ _ j q _=>⟨o.slots,k b o j q⟩) (λb o _ q n=>by rw[Zs<|p b o q];exact n)
  (λb o j q=>⟨o,k b o j q⟩) (λb ys q=>by rw[Zs<|Yw q a];exact q) (λb o u q=>by rw[Zs<|Yw q a];exact q)
  (λb ps q=>⟨#[],by rw[Zs<|Yw q a,q];simp⟩) (λm B=>?_) (λb u q=>?_) I.bare
 .obtain⟨_,K,_,F,E,C⟩:=f b h;exact⟨F,K,E,C⟩
 .obtain⟨o,es,ep,A,r⟩:=B;exact⟨o,es,ep,k _ o (λh=>(f _ h).2.1 rfl) A,r⟩
 .by_cases h:b=T
  .subst h;rw[Z8]at q;cases q;exact⟨hz,dI,rv,x⟩
  .rw[Zs h]at q;refine(I.hok b u q).stay (λc v j z=>?_) (λc z=>by rw[Zs<|Yw z a];exact z) λc ys z=>by rw[Zs<|Yw z a];exact z
   rcases j with y|y
   .rw[y]at z⊢;exact k _ _ (l b u q) z
   .exact k _ _ (l c _ y) z
theorem dL.turnedL{ch:À aq}(I:dL X dG σ H s)(k:∀b o,b∉ch->s.heap.get? b=aA o->h'.get? b=aA o)(f:∀b∈ch,Qy X dG H b):dL X dG σ H {s with heap:=h',toks:=t'}:=by
 have h:∀b u,H b=aA u->b∉ch:=λb u q j=>by rw[(f b j).1]at q;cases q
 refine I.step (g':=s.gens) (d':=s.drawn) (ch:=ch) (λb j=>?_) (λb o _ _ a q _=>k b o a q) (λb o _ _ a q _=>⟨o.slots,k b o a q⟩) (λ_ _ _ _ n=>n)
  (λb o a q=>⟨o,k b o a q⟩) (λ_ _ q=>q) (λ_ _ _ q=>q) (λb ps q=>⟨#[],by rw[q];simp⟩) (λm p=>?_) (λb u q=>?_) I.bare
 .obtain⟨_,B,_,A,x,w⟩:=f b j;exact⟨A,B,x,w⟩
 .obtain⟨o,es,ep,l,r⟩:=p;exact⟨o,es,ep,k _ o (λj=>(f _ j).2.1 rfl) l,r⟩
 .refine(I.hok b u q).stay (λc v a z=>?_) (λ_ z=>z) λ_ _ z=>z;rcases a with y|y
  .rw[y]at z⊢;exact k _ _ (h b u q) z
  .exact k _ _ (h c _ y) z
structure ZK(X:Cx)(dG:À (aq×Obj))(H:Hp)(n0:Nat)(z TI TO i1 i2 l1 l2:aq):Prop where
 ap:ve z TI TO i1 i2 l1 l2
 lt:z<n0/\TI<n0/\TO<n0/\i1<n0/\i2<n0
 fp:∀b∈[z,TI,TO,i1,i2],Qy X dG H b
theorem ZK.upd{z TI TO i1 i2 l1 l2 a:aq}(k:ZK X dG H n0 z TI TO i1 i2 l1 l2)(j:n0<=a\/∃u,H a=aA u):ZK X dG (L2.upd H a o) n0 z TI TO i1 i2 l1 l2:=by
 refine⟨k.ap,k.lt,λb c=>?_⟩;obtain⟨h,f⟩:=k.fp b c;refine⟨?_,f⟩;rw[Zs λe=>?_]
 .exact h
 .rcases j with g|⟨u,g⟩
  .have lt:b<n0:=by obtain⟨q,p,n,m,l⟩:=k.lt;simp at c;rcases c with z|z|z|z|z<;> rw[z]<;> assumption
   rw[<-e]at g;exact dt lt<|xz.mpr g
  .rw[e,g]at h;cases h
theorem NU{z TI TO i1 i2 l1 l2}(I:dL X dG σ H s)(k:ZK X dG H n0 z TI TO i1 i2 l1 l2)(st:ZE n0 s.heap z TI TO i1 i2 l1 l2 i)(hn:n0<=s.heap.objs.size)(h1:W3 X.K H l1 xs)(h2:W3 X.K H l2 ys)(q:xs[i]? =aA x)(o:ys[i]? =aA y)(h:∀T s' u v,T=s.heap.objs.size->s'.heap.objs.size=s.heap.objs.size+1->dL X dG σ (upd H T<|.tup [x,y]) s'->ZE n0 s'.heap z TI TO i1 i2 l1 l2 (i+1)->uz s'.heap T u v->Z9 x u->Z9 y v->Q (aA<|.ref T) s'):
  de (dw X.p X.w) A (qr<|.ref z) Q E s:=by
 obtain⟨us,m,n,_⟩:=I.list h1;obtain⟨vs,l,p2,_⟩:=I.list h2;obtain⟨u,B,c⟩:=m.get q;obtain⟨v,r,rv⟩:=l.get o;refine tS (xs:=us.toArray) (ys:=vs.toArray) (x:=u) (y:=v) k.ap st hn k.lt n.isList p2.isList (by simpa using B) (by simpa using r) λh' a f hs C=>?_;exact h _ _ u v rfl hs (I.turnedZ (t':=s.toks) (ch:=[z,TO,i1,i2]) (dI:=[u,v]) C (λb j=>k.fp b (by simp at j⊢;rcases j with e|e|e|e<;> simp[e])) rfl ⟨_,f,rfl,_,rfl⟩ (.cons c<|.cons rv .nil) χ) a f c rv
theorem NT{z TI TO i1 i2 l1 l2}(l:A.handled=aB)(I:dL X dG σ H s)(k:ZK X dG H n0 z TI TO i1 i2 l1 l2)(st:ZE n0 s.heap z TI TO i1 i2 l1 l2 xs.length)(h1:W3 X.K H l1 xs)(h2:W3 X.K H l2 ys)(h:∀s',dL X dG σ H s'->Q aB s'):de (dw X.p X.w) A (qr<|.ref z) Q E s:=by
 obtain⟨us,c,f,_⟩:=I.list h1;obtain⟨vs,m,p2,_⟩:=I.list h2;have n:=c.length;refine xI (xs:=us.toArray) (ys:=vs.toArray) l k.ap st f.isList p2.isList Ψ λh' j=>h _ (I.turnedL (t':=s.toks) (ch:=[z,TO,i1,i2]) j λb a=>k.fp b (by simp at a⊢;rcases a with e|e|e|e<;> simp[e]))
structure Tps(H0 H:Hp)(S:aq)(xs ys:À V)(ns:À aq):Prop where
 nd:ns.Nodup
 fr:∀b∈ns,H0 b=aB/\b≠S
 at':∀(j:Nat) (b:aq),ns[j]? =aA b->∃x y,xs[j]? =aA x/\ys[j]? =aA y/\H b=aA (.tup [x,y])
theorem nC{n0:Nat}{z TI TO i1 i2 l1 l2 S}{Q:Hp}(hh:A.handled=aB)(Y:Q S=aB)(W:S<n0)(hl:xs.length=ys.length)(hz:xs.length<=sizeLine)(q1:W3 X.K Q l1 xs)(q2:W3 X.K Q l2 ys):
  ∀k i s H ns,xs.length- i=k->i<=xs.length->dL X dG σ H s->ZK X dG H n0 z TI TO i1 i2 l1 l2->ZE n0 s.heap z TI TO i1 i2 l1 l2 i->n0<=s.heap.objs.size->Zm Q H->H S=aA (.lst<|ns.map V.ref)->ns.length=i->Tps Q H S xs ys ns->
  (∀s' H' ns',dL X dG σ H' s'->Zm Q H'->H' S=aA (.lst<|ns'.map V.ref)->ns'.length=xs.length->Tps Q H' S xs ys ns'->R (.ok<|.ret res) s')->
  rj (dw X.p X.w) A (.builtin "list.extend.loop" ⟨[.ref S,.ref z,res],[]⟩) R s:=by
 intro k;induction k with
 |zero=>
  intro i s H ns U hi I q st hn m h f C hR;have:i=xs.length:=by clear f hl;lia
  subst this;refine lw F.entry_extend_loop ?_;show de _ A.in1 (qr (.ref z) >>=_) _ _ s;exact af<|NT hh I q st (L2.Yt m q1) (L2.Yt m q2) λs' N=>ay<|hR s' H ns N m h f C
 |succ k ih=>
  intro i s H ns U hi I q st hn m h f C hR;have L:i<xs.length:=sw U;have hx:=cf L;have hy:=cf<|hl▸L;refine lw F.entry_extend_loop ?_;show de _ A.in1 (qr (.ref z) >>=_) _ _ s;refine af<|NU I q st hn (L2.Yt m q1) (L2.Yt m q2) hx hy λT s' u v eT es N O ht ru rv=>?_;have Z:H T=aB:=by rw[eT];exact I.hok.fresh<|cj _
  have E:∀b o,H b=aA o->b≠T:=λb o e y=>by rw[y,Z]at e;cases e
  have P:upd H T (.tup [xs[i],ys[i]]) S=aA (.lst<|ns.map V.ref):=by rw[Zs<|E _ _ h];exact h
  refine Wv λ_ zk=>?_;obtain⟨z0,dI,n,r,fP,e⟩:=N.lstM P;apply zk;refine af ?_;have M:dI.length=i:=by have:=r.length;simp at this;lia
  refine pf e rfl (ay ⟨o7 F.plain_extend_loop _,ih (i+1) _ _ (ns++[T]) (sx U) L (N.lset (its':=dI++[.ref T]) (ys:=(ns++[T]).map V.ref) P e Δ (by rw[cb];exact r.append<|.cons rfl .nil) (by simp;(clear M;lia))) ?_ ?_ ?_ ?_ Z8 (by simp[f]) ?_ hR⟩)
   Ψ Ψ
  .exact(q.upd<|.inl (by rw[eT];exact hn)).upd (.inr ⟨_,P⟩)
  .refine O.keep λb o l G=>(kz _ _ λy=>?_).trans G;rcases l with a|a|a|a|a|a
   .rw[<-y]at a;have:=(q.fp z Δ).1;rw[<-a,h]at this;cases this
   .rw[<-y]at a;have:=(q.fp TI Δ).1;rw[<-a,h]at this;cases this
   .rw[<-y]at a;have:=(q.fp TO Δ).1;rw[<-a,h]at this;cases this
   .rw[<-y]at a;have:=(q.fp i1 Δ).1;rw[<-a,h]at this;cases this
   .rw[<-y]at a;have:=(q.fp i2 Δ).1;rw[<-a,h]at this;cases this
   .rw[<-y]at a;exact dt W<|xz.mpr a
  .show n0<=(s'.heap.update S _).objs.size;rw[(mr s'.heap S _).1,es];exact me hn
  .intro b o G;rw[Zs λy=>?_,Zs<|E b o<|m b o G]
   .exact m b o G
   .rw[y,Y]at G;cases G
  .have J:∀b∈ns,b≠T:=λb l=>by obtain⟨j,B,ej⟩:=vv l;obtain⟨_,_,_,_,e1⟩:=C.at' j b (by rw[cf B,ej]);exact E b _ e1
   refine⟨iw.mpr ⟨C.nd,Δ,λb l c hc=>by rw[ao.mp hc];exact J b l⟩,λb l=>?_,λj b B=>?_⟩
   .rcases dm.mp l with g|g
    .exact C.fr b g
    .rw[ao.mp g];refine⟨m.free Z,λy=>?_⟩;rw[y,h]at Z;cases Z
   .by_cases g:j<ns.length
    .rw[ix g]at B;obtain⟨x,y,e1,e2,e3⟩:=C.at' j b B;refine⟨x,y,e1,e2,?_⟩;have l:=gh B;rw[Zs (C.fr b l).2,Zs<|J b l];exact e3
    .have ej:j=ns.length:=by have:=(ci.mp B).1;simp at this;clear M;lia
     subst ej;simp at B;subst B;subst f;refine⟨_,_,hx,hy,?_⟩;rw[Zs λy=>?_,Z8];rw[y,h]at Z;cases Z
end
theorem iM:si (.type "zip") "__len__"=jh aB:=by rw[u3,qj];kernel_rfl
theorem D9:si (.type "zip") "__length_hint__"=jh aB:=by rw[u3,qj];kernel_rfl
section
variable{z TI TO i1 i2 l1 l2:aq}
theorem ZE.ty{s:au}(st:ZE n0 s.heap z TI TO i1 i2 l1 l2 i):s.TypeIs (.ref z) "zip":=let⟨f,c,a,_⟩:=st.zr;⟨_,a,rfl⟩
theorem ZE.iter{X:Cx}(st:ZE n0 s.heap z TI TO i1 i2 l1 l2 i)(h:Q (.ref z) s):de (dw X.p X.w) A (CC<|.ref z) Q E s:=by have a:=st.ty;refine DD a F.slot_zip_iter<|jt F.slot_zip_iter a F.entry_zip_iter ?_<|F.args_zip_iter_1 _;exact ay ⟨_,rfl,"zip",_,a,F.slot_zip_next.lookup,h⟩
theorem Zm.updN(a:Zm H H1)(h:H S=aB):Zm H<|upd H1 S o:=λb u e=>by rw[Zs λy=>by rw[y,h]at e;cases e];exact a b u e
theorem N8{σ:L2.St}(hh:A.handled=aB)(I:dL X dG σ H s)(ko:∀H',Zm H H'->(∀b,b<s.heap.objs.size->H b=aB->H' b=aB)->ZK X dG H' (s.heap.objs.size+1) z TI TO i1 i2 l1 l2)(st:∀n,ZE n s.heap z TI TO i1 i2 l1 l2 0)(hl:xs.length=ys.length)(hz:xs.length<=sizeLine)(q1:W3 X.K H l1 xs)(q2:W3 X.K H l2 ys)(h:∀S s' H' ns,dL X dG σ H' s'->Zm H H'->H S=aB->H' S=aA (.lst<|ns.map V.ref)->ns.length=xs.length->Tps H H' S xs ys ns->Q (.ref S) s'):
  de (dw X.p X.w) A (call (.type "list") [.ref z]) Q E s:=by
 have c:H s.heap.objs.size=aB:=I.hok.fresh<|cj _;have M:z<s.heap.objs.size:=let⟨_,_,a,_⟩:=(st 0).zr;cn a;generalize B:s.heap.objs.size=S at*;have I0:=I.lnew (ys:=[]) (dI:=[]) (t':=s.toks) .nil<|gr _;rw[B]at I0;refine FN (Q₁:=λC v=>C= .ref S/\v={s with heap:=s.heap.push {cls:=.type "list",data:=.seq #[]}}) PySem.F.called_list (PySem.F.typeCall_list_1 _) PySem.F.entry_list_init
  (code_list_new _ ⟨by rw[B],rfl⟩) λC v L=>?_
 obtain⟨rfl,rfl⟩:=L;have Z:(s.heap.push {cls:=.type "list",data:=.seq #[]}).get? S=aA {cls:=.type "list",data:=.seq #[]}:=by rw[<-B];exact dn _ rfl
 refine⟨⟨_,Z,rfl⟩,PySem.F.args_list_init_2 _ _,?_⟩;show de _ _ (do let old<-Builtin.List.listItems (.ref S);Builtin.List.listUpdate (.ref S) (λ_=> #[]);letGo old.toList.reverse;rm (.ref S) (.ref z) .none) _ _ _;refine af ?_;refine af<|vb Z rfl (ay ?_);refine af<|pf Z rfl ?_;have I1:=I0.lset (dI:=[]) (its':=[]) (ys:=[]) (f:=λ_=> #[]) (t':=s.toks) Z8 Z rfl .nil (gr _);have u:=lq (gp<|λ_=>(#[]:Array am)) Z rfl;have m:=mr (s.heap.push {cls:=.type "list",data:=.seq #[]}) S<|gp<|λ_=>(#[]:Array am);generalize (s.heap.push {cls:=.type "list",data:=.seq #[]}).update S (gp<|λ_=>(#[]:Array am))=h1 at I1 u m⊢;refine af<|HA ?_;have x:ZE (S+1) h1 z TI TO i1 i2 l1 l2 0:=(st<|S+1).keep λb o _ e=>(m.2 b (λy=>by have:=cn e;rw[B,y]at this;exact dt this<|g6 _)).trans<|aw _ e;have i:h1.objs.size=S+1:=by rw[m.1,FW,B]
 have P:S≠z:=ku M;unfold rm;have U:({s with heap:=h1}:au).TypeIs (.ref z) "zip":=ZE.ty x;refine af<|we U ?_;have g1:yn (.ref S) (.ref z)=aE:=by simp[yn,P]
 have g2:(sk "zip"==sk "list")=aE:=Γ
 have g3:(sk "zip"==sk "tuple")=aE:=Γ
 simp only[g1,g2,g3,GI,j5,if_false];refine af<|ZE.iter (X:=X) (s:={s with heap:=h1}) x ?_;refine af<|j6 ?_;unfold Builtin.List.listLengthHint;refine af<|xh U iM ?_;show de _ _ (specialOf (g0 z) (aa "__length_hint__") >>=_) _ _ _;refine af<|xh U D9 ?_;refine ay ?_;show de _ _ (rule "list.extend.makes-room" >>=λ_=>Builtin.List.listTouch (.ref S) >>=λ_=>again<|.builtin "list.extend.loop" ⟨[.ref S,.ref z,.none],[]⟩) _ _ _;refine af<|uw ?_;refine af ?_;show de _ _ (IK S (·.push .none) >>=λ_=>IK S (·.pop)) _ _ _;refine af<|pf u rfl ?_;have I2:=I1.lset (dI:=[]) (its':=[.none]) (ys:=[.non]) (f:=(·.push .none)) (t':=s.toks) Z8 u rfl (.cons rfl .nil) (by show 1<=sizeLine;decide);have r:=lq (gp (·.push ik)) u rfl;have l:=mr h1 S (gp (·.push ik));generalize h1.update S (gp (·.push ik))=h2 at I2 r l⊢;refine pf (hz:=by seq_fits) r rfl ?_;have I3:=I2.lset (dI:=[.none]) (its':=[]) (ys:=[]) (f:=(·.pop)) (t':=s.toks) Z8 r rfl .nil (gr _);have W:=lq (gp (·.pop)) r rfl;have j:=mr h2 S (gp (·.pop));generalize h2.update S (gp (·.pop))=h3 at I3 W j⊢;have G:ZE (S+1) h3 z TI TO i1 i2 l1 l2 0:=by
  refine x.keep λb o hb e=>?_;have T:b≠S:=λy=>?_
  .exact(j.2 b T).trans ((l.2 b T).trans e)
  .have l1:=cn (st 0).ti;have l2:TO<s.heap.objs.size:=let⟨_,_,q⟩:=(st 0).to;cn q;have O:i1<s.heap.objs.size:=let⟨_,q,_⟩:=(st 0).a1;cn q;have N:i2<s.heap.objs.size:=let⟨_,q,_⟩:=(st 0).a2;cn q;rw[B]at l1 l2 O N;rw[y]at hb;rcases hb with q|q|q|q|q|q
   .exact P q
   .rw[<-q]at l1;exact g6 _ l1
   .rw[<-q]at l2;exact g6 _ l2
   .rw[<-q]at O;exact g6 _ O
   .rw[<-q]at N;exact g6 _ N
   .exact g6 _ q
 have sm:Zm H<|upd (upd (upd (upd H S<|.lst []) S<|.lst []) S<|.lst [.non]) S<|.lst []:=((((Zm.refl H).updN c).updN c).updN c).updN c;refine ay ⟨o7 F.plain_extend_loop _,nC (A:=A.in1) hh c (uo S) hl hz q1 q2 _ 0 _ _ [] rfl (gr _) I3 (ko _ sm λb lb e=>?_) G (by show S+1<=h3.objs.size;rw[j.1,l.1,i];exact cj _) sm Z8 rfl ⟨gd,(λ_ h=>nomatch h),(λ_ _ h=>by simp at h)⟩ λs' H' ns' I' J Y R g=>⟨rfl,h S s' H' ns' I' J c Y R g⟩⟩;have:b≠S:=eh lb;rw[Zs this,Zs this,Zs this,Zs this];exact e
end
theorem ip:si (.type "zip") "keys"=jh aB:=by rw[u3,qj];kernel_rfl
theorem ki:si (.type "zip") "__getattr__"=jh aB:=by rw[u3,qj];kernel_rfl
theorem Xl:entryFor table "zip.__getattribute__"=aA pv.«object.__getattribute__»:=
 entryFor_alias (id':="object.__getattribute__") Φ Ξ Ξ Φ
theorem Lc(z u fs):
  DP (pv.«object.__getattribute__» ⟨[.ref z,.str "keys" u],[]⟩) (λA R s=>s.heap.get? z=aA {cls:=.type "zip",dict:=aB,data:=.fields fs,slots:= #[]}/\raisesAttr (.ref z) "keys" A R s):=
 Meets.of_wp λprog w A R s hs=>by
  obtain⟨a,g,d,tk,os⟩:=s;obtain⟨h0,hs⟩:=hs;have c:(⟨a,g,d,tk,os⟩:au).TypeIs (.ref z) "zip":=⟨_,h0,rfl⟩
  have f:=ip;unfold pv.«object.__getattribute__»
  repeat (any_goals (first|assumption|wp_step))
  exact wpAny_raiseAttrError (name:="keys") hs.1 hs.2 (attrMsg_fits Ξ<|by size_fits)
theorem mn(h0:s.heap.get? z=aA {cls:=.type "zip",dict:=aB,data:=.fields fs,slots:= #[]})(l:A.handled=aB)(h:∀h' tk,(∀b u,s.heap.get? b=aA u->h'.get? b=aA u)->Q aB {s with heap:=h',toks:=tk}):de (dw prog w) A (getAttr? (.ref z) "keys") Q E s:=by
 obtain⟨f,g,d,tk,os⟩:=s;have j:∀t,(⟨f,g,d,t,os⟩:au).TypeIs (.ref z) "zip":=λ_=>⟨_,h0,rfl⟩
 have r:=sub_AttributeError;have q:=F.slot_zip_getattribute.lookup;have p:=F.slot_zip_getattribute.bind<|.ref z;have o:=ki;unfold getAttr? getAttrBy? getAttrBy
 repeat (any_goals (first|assumption| ((with_reducible show de _ _ (call (Value.builtin "zip.__getattribute__") _ _) _ _ _);refine j8 F.slot_zip_getattribute (j _) Xl (F.args_zip_getattribute_2 _ _) (Lc z _ fs) ⟨h0,l,λh' c e a=>?_⟩)|wp_step))
 obtain⟨t',m,n⟩:=a.there;show de _ _ (CF _ _ _ _ _ _ _) _ _ _;unfold CF
 repeat (any_goals (first|assumption|wp_step))
 exact h _ _ a.keeps
theorem G3:entryFor table "dict.update.loop"=aA pv.«dict.update.loop»:=entryFor_of_tree Φ
theorem Ja:plainId "dict.update.loop"=aC:=Ξ
section
variable{X:Cx}{dG:À (aq×Obj)}{σ:L2.St}{H:Hp}{s:au}{n0:Nat}{z TI TO i1 i2 l1 l2:aq}{ks:À Key}{ys:À V}
theorem nB{C:Hp}(hh:A.handled=aB)(M:C S=aB)(J:S<n0)(hl:ks.length=ys.length)(nd:ks.Nodup)(hz:ks.length<sizeLine)(W:W3 X.K C l1<|ks.map kV)(U:W3 X.K C l2 ys):
  ∀k i s H,ks.length- i=k->i<=ks.length->dL X dG σ H s->ZK X dG H n0 z TI TO i1 i2 l1 l2->ZE n0 s.heap z TI TO i1 i2 l1 l2 i->n0<=s.heap.objs.size->Zm C H->(∃ep,H S=aA (.dK ((ks.zip ys).take i) ep))->
  (∀s' H' ep,dL X dG σ H' s'->Zm C H'->H' S=aA (.dK (ks.zip ys) ep)->R (.ok<|.ret res) s')->
  rj (dw X.p X.w) A (.builtin "dict.update.loop" ⟨[.ref S,.ref z,j4 (i:Nat),res],[]⟩) R s:=by
 intro k;induction k with
 |zero=>intro i s H E hi I h st hn l f N;have:=Nat.le_antisymm hi<|Nat.le_of_sub_eq_zero E;subst this;refine lw G3 ?_;rw[mi Ja _];show de _ A.in1 (qr (.ref z) >>=_) _ _ s;obtain⟨ep,f⟩:=f;rw[kx (by rw[l5];lia)]at f;refine af<|NT (xs:=ks.map kV) hh I h (by rw[aj];exact st) (L2.Yt l W) (L2.Yt l U) λs' L=>?_;exact ay<|N s' H ep L l f
 |succ k ih=>
  intro i s H E hi I h st hn l f N;have c:i<ks.length:=sw E;have hx:(ks.map kV)[i]? =aA (kV ks[i]):=by rw[c8,cf c];rfl
  have hy:=cf<|hl▸c;refine lw G3 ?_;rw[mi Ja _];show de _ A.in1 (qr (.ref z) >>=_) _ _ s;refine af<|NU I h st hn (L2.Yt l W) (L2.Yt l U) hx hy λT s' u v eT es L P Y ru rv=>?_;have hT:H T=aB:=by rw[eT];exact I.hok.fresh<|cj _
  refine Wv λ_ zk=>?_;obtain⟨ep,f⟩:=f;have r:∀b o,H b=aA o->b≠T:=λb o e y=>by rw[y,hT]at e;cases e
  have m:upd H T (.tup [kV ks[i],ys[i]]) S=aA (.dK ((ks.zip ys).take i) ep):=by rw[Zs<|r _ _ f];exact f
  obtain⟨z0,hd,vs,n,dd⟩:=Dp L.hok ⟨ep,m⟩;apply zk;have Q:vs.length<=sizeLine:=by rw[<-n.length];exact z0
  show de _ A.in1 (AA [g0 T] _ >>=_) _ _ _;refine af<|j6<|af<|wpAny_tryCatch ?_;unfold Builtin.Dict.pairItems;have G:s'.TypeIs (.ref T) "tuple":=⟨_,Y,rfl⟩
  refine af<|we G ?_;rw[dZ Γ];refine af<|vb Y rfl (ay ?_);show de _ A.in1 (AA [u,v]<|dictSet S u v) _ _ _;refine j6<|wpAny_dictSet_pairs (hsz:=Q) (Ms ru) dd λh' B hs=>?_;have he:∃q,h'.get? S=aA q:=let⟨q,_,_,hq,_⟩:=B;⟨q,hq⟩
  have ek:Qi ((ks.zip ys).take i) ks[i] ys[i]=(ks.zip ys).take (i+1):=by
   rw[Ab _ (by
    unfold Jz;rw[AG,DA];intro p hp;obtain⟨j,hj,ej⟩:=vv hp;rw[DQ,EK]at ej;have x:j<i:=dh hj<|BT _ _;have g:=AI x c;have e2:p.1=ks[j]:=by rw[<-ej]
    rw[e2];have:ks[j]≠ks[i]:=List.pairwise_iff_getElem.mp nd j i g c x;simpa using this),List.take_add_one,cf (by rw[l5];exact Nat.lt_min.2 ⟨c,hl▸c⟩),EK];rfl
  have Z:((ks.zip ys).take<|i+1).length<=sizeLine:=fg (BT _ _) Θ;obtain⟨O,ok⟩:=Xd (kvs:=(ks.zip ys).take<|i+1) Z hd (ek▸n.put ks[i] rv) B;have I2:=Ac (t':=s'.toks+1) L (by rw[m];exact j9) hs he<|ok _;refine ay ⟨o7 Ja _,ih (i+1) _ _ (sx E) c I2 ((h.upd<|.inl (by rw[eT];exact hn)).upd<|.inr ⟨_,m⟩) ?_ ?_ ?_ ⟨O,Z8⟩ N⟩
  .refine P.keep λb o hb F=>(hs.2 b λy=>?_).trans F;rcases hb with a|a|a|a|a|a
   .rw[y]at a;have:=(h.fp z Δ).1;rw[<-a,f]at this;cases this
   .rw[y]at a;have:=(h.fp TI Δ).1;rw[<-a,f]at this;cases this
   .rw[y]at a;have:=(h.fp TO Δ).1;rw[<-a,f]at this;cases this
   .rw[y]at a;have:=(h.fp i1 Δ).1;rw[<-a,f]at this;cases this
   .rw[y]at a;have:=(h.fp i2 Δ).1;rw[<-a,f]at this;cases this
   .rw[y]at a;exact dt J<|xz.mpr a
  .show n0<=h'.objs.size;rw[hs.1,es];exact me hn
  .exact Zm.updN (λb o F=>by rw[Zs<|r b o<|l b o F];exact l b o F) M
end
theorem N9{σ:L2.St}{z TI TO i1 i2 l1 l2:aq}{ks:À Key}(C:A.handled=aB)(I:dL X dG σ H s)(i:∀H',Zm H H'->(∀b,b<s.heap.objs.size->H b=aB->H' b=aB)->ZK X dG H' (s.heap.objs.size+1) z TI TO i1 i2 l1 l2)(st:∀n,ZE n s.heap z TI TO i1 i2 l1 l2 0)(G:ks.length=ys.length)(Z:ks.Nodup)(hz:ks.length<sizeLine)(T:W3 X.K H l1<|ks.map kV)(P:W3 X.K H l2 ys)(h:∀S s' H' ep,dL X dG σ H' s'->Zm H H'->H S=aB->H' S=aA (.dK (ks.zip ys) ep)->Q (.ref S) s'):
  de (dw X.p X.w) A (call (.type "dict") [.ref z]) Q E s:=by
 have f:H s.heap.objs.size=aB:=I.hok.fresh<|cj _;have a:(s.heap.push {cls:=.type "dict",data:=.dict #[]}).DictOf (Yr X.p X.w) s.heap.objs.size []:=Heap.DictOf.new s.heap;have R:=I.laid (t':=s.toks) (λ_ _ q=>aw _ q) (cj _)<|Ku s.heap I.big;obtain⟨Y,W,L,_⟩:=(st 0).zr;generalize N:s.heap.objs.size=S at*;refine FN (Q₁:=λm c=>m= .ref S/\c={s with heap:=s.heap.push {cls:=.type "dict",data:=.dict #[]}}) PySem.F.kt_called_dict (PySem.F.kt_typeCall_dict_1 _) PySem.F.entry_dict_init
  (kt_code_dict_new _ ⟨by rw[N],rfl⟩) λm c r=>?_
 obtain⟨rfl,rfl⟩:=r;refine⟨a.typeIs,PySem.F.args_dict_init_2 _ _,?_⟩;refine af ?_;refine af<|nj a.typeIs ?_;refine ay ?_;show de _ _ (Builtin.Dict.updateFrom "dict.__init__" S (.ref z) [] .none) _ _ _;have l:ZE (S+1) (s.heap.push {cls:=.type "dict",data:=.dict #[]}) z TI TO i1 i2 l1 l2 0:=(st<|S+1).keep λb o _ e=>aw _ e;have u:=aw {cls:=.type "dict",data:=.dict #[]} L;generalize s.heap.push {cls:=.type "dict",data:=.dict #[]}=h1 at*;have M:({s with heap:=h1}:au).TypeIs (.ref z) "zip":=ZE.ty l;refine af<|we M ?_;refine af<|mn (s:={s with heap:=h1}) u C λh2 tk keep=>?_;rw[dZ<|show(aB:Á am).isNone=aC from rfl];refine af<|uw ?_;have O:=R.kept (t':=tk) keep;have j:ZE (S+1) h2 z TI TO i1 i2 l1 l2 0:=l.keep λb o _ e=>keep _ _ e;refine af<|ZE.iter (X:=X) (s:={s with heap:=h2,toks:=tk}) j ?_;have B:Zm H<|upd H S<|.dK [] 0:=(Zm.refl H).updN f;refine ay ⟨o7 Ja _,nB (A:=A.in1) C f (uo S) G Z hz T P _ 0 _ _ rfl (gr _) O (i _ B λb g e=>?_) j ?_ B ⟨0,by rw[List.take_zero];exact Z8⟩ λs' H' y U v x=>⟨rfl,h S s' H' y U v f x⟩⟩
 .rw[Zs<|eh g];exact e
 .show S+1<=h2.objs.size;obtain⟨_,_,_,J,_⟩:=a;exact cn<|keep _ _ J
theorem ma:kq "zip"=aA (.type "zip"):=Φ
section
variable{X:Cx}{a b:dz}{t:TA}{pos ZF p p2:Pos}
theorem IV{σ:L2.St}(L:Gl X "zip")(E:X.mg "zip"=aB)(P:PA X [a,b] t)(I:dL X dG σ H s)(h:t σ H Qz)(C:∀vs H1,Qz vs H1->∃l1 l2 xs ys,vs=[.ref l1,.ref l2]/\W3 X.K H1 l1 xs/\W3 X.K H1 l2 ys/\∀g z TI TO i1 i2,dL X dG σ H1 g->z<g.heap.objs.size->ve z TI TO i1 i2 l1 l2->(∀b∈[z,TI,TO,i1,i2],b<g.heap.objs.size/\Qy X dG H1 b)->IsZip g.heap z TI TO .none->uz g.heap TI (.ref i1) (.ref i2)->(∃a b,uz g.heap TO a b)->g.heap.IsListIter i1 l1 0->g.heap.IsListIter i2 l2 0->R (.ref z) g)(hs:‹Se X a [b]›)(j:‹Bk X pos [b]›):de (dw X.p X.w) X.A (oz (.Call (.Name "zip" p) [a,b] [] pos) X.e) R X.xe s:=by
 refine Call_<|Rf I L E ma<|kt (Wy (P pos dG s σ H _ I h) λus g ⟨vs,H1,c,y,B⟩=>?_) hs j;refine Wv λ_ v=>?_;obtain⟨l1,l2,xs,ys,e,h1,h2,q⟩:=C _ _ B;subst e;obtain⟨u,w,rfl,x,f⟩:=UI y;cases x;cases f;obtain⟨dI,_,m,_⟩:=c.list h1;obtain⟨n,_,p2,_⟩:=c.list h2;apply v;have M:l1<g.heap.objs.size:=let⟨_,e,_⟩:=m.isList;cn e;have J:l2<g.heap.objs.size:=let⟨_,e,_⟩:=p2.isList;cn e;refine call_zip_2 m.isList p2.isList λh' G i Z T Q r F=>?_;refine q _ _ _ _ _ _ (c.kept (t':=g.toks) F) (by show _<h'.objs.size;rw[r];exact uo _) (zipApart_new M J) (λb o=>?_) G i ⟨_,_,Z⟩ T Q;have l:g.heap.objs.size<=b/\b<g.heap.objs.size+5:=by simp at o;rcases o with e|e|e|e|e<;> rw[e]<;> constructor<;> first|exact cj _|exact EJ _ _|exact Nat.add_lt_add_left Γ _|exact Nat.lt_add_of_pos_right Γ
 exact⟨by show b<h'.objs.size;rw[r];exact l.2,c.fpOk l.1<|c.hok.fresh l.1⟩
end
def gW(K:ak)(r:À V->À V->Hp->VK->Prop)(t:TA):TE:=λσ H Q=>t σ H λvs H1=>∃l1 l2 xs ys,vs=[.ref l1,.ref l2]/\W3 K H1 l1 xs/\W3 K H1 l2 ys/\r xs ys H1 Q
theorem Ld{pos ZF p p2:Pos}(F:∀dG s (σ:L2.St) H z TI TO i1 i2 l1 l2 xs ys Q,dL X dG σ H s->(∀H',Zm H H'->(∀b,b<s.heap.objs.size->H b=aB->H' b=aB)->ZK X dG H' (s.heap.objs.size+1) z TI TO i1 i2 l1 l2)->(∀n,ZE n s.heap z TI TO i1 i2 l1 l2 0)->
   W3 X.K H l1 xs->W3 X.K H l2 ys->r xs ys H Q->de (dw X.p X.w) X.A (call (.type T) [.ref z]) (EP X dG σ Q) X.xe s)(C:Gl X x)(B:X.mg x=aB)(y:kq x=aA (.type T))(m:Gl X "zip")(l:X.mg "zip"=aB)(L:PA X [a,b] t)(hn:‹x≠"__name__"›)(o:‹Nd x›)(hs:‹Se X a [b]›)(j:‹Bk X ZF [b]›)(E:‹Se X (.Call (.Name "zip" p2) [a,b] [] ZF) []›)(c:‹Bk X pos []›):
  PE X (.Call (.Name x p) [.Call (.Name "zip" p2) [a,b] [] ZF] [] pos) (gW X.K r t):=by
 intro dG s σ H Q I h;refine my<|Rf I C B y ?_ hn o;refine kt ?_ E c;show de _ _ (GN ((aE,oz (.Call (.Name "zip" p2) [a,b] [] ZF) X.e)::qt pos (jv [] X.e))) _ _ s;refine p6<|IV m l L I h (λvs H1 ⟨l1,l2,xs,ys,e,h1,h2,q⟩=>⟨l1,l2,xs,ys,e,h1,h2,λv z TI TO i1 i2 N hz M fp J G i g Z=>ub ?_⟩) hs j;refine F dG v σ H1 z TI TO i1 i2 l1 l2 xs ys Q N (λH' O hf=>⟨M,?_,λb u=>?_⟩) (λn=>⟨⟨_,_,J,.inl ⟨rfl,rfl⟩⟩,G,i,g,Z⟩) h1 h2 q
 .have f:∀b∈[z,TI,TO,i1,i2],b<v.heap.objs.size+1:=λb u=>DO (fp b u).1;exact⟨f z Δ,f TI Δ,f TO Δ,f i1 Δ,f i2 Δ⟩
 .obtain⟨lt,P,f⟩:=fp b u;exact⟨hf b lt P,f⟩
def xH:À V->À V->Hp->VK->Prop:=λxs ys H Q=>xs.length=ys.length/\xs.length<=sizeLine/\∀(S:aq) (H':Hp) (ns:À aq),Zm H H'->H S=aB->H' S=aA (.lst<|ns.map V.ref)->ns.length=xs.length->Tps H H' S xs ys ns->Q (.ref S) H'
def xF:À V->À V->Hp->VK->Prop:=λxs ys H Q=>∃ks:À Key,xs=ks.map kV/\ks.length=ys.length/\ks.Nodup/\ks.length<sizeLine/\∀(S:aq) (H':Hp) (ep:Nat),Zm H H'->H S=aB->H' S=aA (.dK (ks.zip ys) ep)->Q (.ref S) H'
def Itz(K:ak)(a b:aq):It:=
 ⟨λi H=>∃xs ys x y,W3 K H a xs/\W3 K H b ys/\xs[i]? =aA x/\ys[i]? =aA y,λi H x H'=>∃p v w,x= .ref p/\H p=aB/\H'=upd H p (.tup [v,w])/\(∀xs,W3 K H a xs->xs[i]? =aA v)/\∀ys,W3 K H b ys->ys[i]? =aA w,λi H=>∃xs ys,W3 K H a xs/\W3 K H b ys/\xs.length<=i⟩
theorem mZ{P:eg}{w:gq}{K:ak}{r:À dz}{Z:Nat}{p:Pos}{z TI TO i1 i2 l1 l2:aq}(D:ve z TI TO i1 i2 l1 l2):
  Turn P w K (.Tuple r Z p) (Itz K l1 l2) [z,TI,TO,i1,i2] z (λi h=>IsZip h z TI TO .none/\uz h TI (.ref i1) (.ref i2)/\(∃a b,uz h TO a b)/\h.IsListIter i1 l1 i/\h.IsListIter i2 l2 i)where
 mem:=Δ
 obj:=λi h st b c=>by
  obtain⟨n,f,⟨x,y,m⟩,⟨o1,l,_,N⟩,⟨o2,j,_,M⟩⟩:=st;simp at c;rcases c with e|e|e|e|e<;> subst e
  .exact⟨_,n,λv y=>nomatch y⟩
  .exact⟨_,f,λv y=>nomatch y⟩
  .exact⟨_,m,λv y=>nomatch y⟩
  .exact⟨_,l,λv y=>by rw[N]at y;cases y⟩
  .exact⟨_,j,λv y=>by rw[M]at y;cases y⟩
 keep:=λi h h' ⟨n,f,⟨x,y,m⟩,l,j⟩ k=>⟨k z Δ _ n,k TI Δ _ f,⟨x,y,k TO Δ _ m⟩,l.at λo q=>k i1 Δ o q,j.at λo q=>k i2 Δ o q⟩
 item:=by
  intro X J g hK W i dG s σ H E I hf st G;subst J g hK;refine Wv λ_ Y=>?_;obtain⟨xs,ys,x,y,B,A,U,R⟩:=G;obtain⟨us,F,L,_⟩:=I.list B;obtain⟨vs,O,p2,_⟩:=I.list A;obtain⟨u,hu,ru⟩:=F.get U;obtain⟨v,hv,rv⟩:=O.get R;obtain⟨n,f,⟨a0,b0,m⟩,l,j⟩:=st;apply Y;refine AR (x:=u) (y:=v) D n f m l j L.isList p2.isList (by simpa using hu) (by simpa using hv) λh' d1 d2 d3 N M d6 C=>⟨_,rfl,?_⟩
  refine wpAny_letOwnedTupleGo_zip d1 λh2 e1 hs=>?_;have lt:∀b∈[z,TI,TO,i1,i2],b<s.heap.objs.size:=λb c=>by
   simp at c;rcases c with e|e|e|e|e<;> rw[e]
   .exact cn n
   .exact cn f
   .exact cn m
   .obtain⟨_,q,_⟩:=l;exact cn q
   .obtain⟨_,q,_⟩:=j;exact cn q
  have Z:∀b o,b∉[z,TO,i1,i2]->s.heap.get? b=aA o->h2.get? b=aA o:=λb o c q=>by simp at c;exact(hs.2 b c.1).trans (C b o c.1 c.2.1 c.2.2.1 c.2.2.2 q)
  have Q:s.heap.objs.size≠z:=ku<|lt z Δ;have I2:=I.turnedZ (h':=h2) (t':=s.toks) (ch:=[z,TO,i1,i2]) (T:=s.heap.objs.size) (xs:=[x,y]) (dI:=[u,v]) Z (λb c=>hf b (by simp at c⊢;rcases c with e|e|e|e<;> simp[e])) rfl ⟨_,(hs.2 _ Q).trans M,rfl,_,rfl⟩ (.cons ru<|.cons rv .nil) χ;refine⟨.ref s.heap.objs.size,_,I2,rfl,⟨_,x,y,rfl,I.hok.fresh (cj _),rfl,(λzs h=>by rw[I.list_inj h B];exact U),λzs h=>by rw[I.list_inj h A];exact R⟩,⟨e1,?_,⟨u,v,?_⟩,d3.at λo q=>(hs.2 _ D.i1z).trans q,N.at λo q=>(hs.2 _ D.i2z).trans q⟩,λb c=>?_⟩
  .exact(hs.2 _ D.TIz).trans (C _ _ D.TIz D.TITO D.TIi1 D.TIi2 f)
  .exact(hs.2 _ D.TOz).trans d2
  .rw[Zs<|eh<|lt b c];exact(hf b c).1
 done:=by intro X J g hK W i dG s σ H E I hf st G;subst J g hK;obtain⟨xs,ys,B,A,hl⟩:=G;obtain⟨us,F,L,_⟩:=I.list B;obtain⟨vs,O,p2,_⟩:=I.list A;obtain⟨n,f,⟨a0,b0,m⟩,l,j⟩:=st;have:=F.length;exact AY (I.ok.hd W) D n f m l j L.isList p2.isList (.inl Ψ) λh' C=>⟨rfl,I.turnedL (t':=s.toks) (ch:=[z,TO,i1,i2]) (λb o c q=>by simp at c;exact C b o c.1 c.2.1 c.2.2.1 c.2.2.2 q) λb c=>hf b (by simp at c⊢;rcases c with e|e|e|e<;> simp[e])⟩
 self:=λ_ _ _ _ _ st h=>DY st.1 h
def gV(K:ak)(c:TA):TI:=λσ H R=>c σ H λvs H1=>∃a b xs ys,vs=[.ref a,.ref b]/\W3 K H1 a xs/\W3 K H1 b ys/\R (Itz K a b) H1
theorem tR{elts}{kk}{tpos p pos}(l:Gl X "zip")(j:X.mg "zip"=aB)(n:PA X [a,b] ta)(hs:‹Se X a [b]›)(c:‹Bk X pos [b]›):
  PI X (.Tuple elts kk tpos) (.Call (.Name "zip" p) [a,b] [] pos) (gV X.K ta):=by
 intro dG s σ H R I h;exact IV l j n I h (λvs H1 ⟨a,b,xs,ys,e,h1,h2,q⟩=>⟨a,b,xs,ys,e,h1,h2,λy z TI TO i1 i2 x hz w fp f v u r o=>DY f ⟨z,[z,TI,TO,i1,i2],_,_,H1,rfl,x,mZ w,⟨f,v,u,r,o⟩,λb m=>(fp b m).2,q⟩⟩) hs c
section
variable{K:ak}
noncomputable def B4(xs ys:À D):À D:=(xs.zip ys).map λp=>.tup [p.1,p.2]
theorem IU{i:Nat}(h:(B4 xs ys)[i]? =aA d):E2 λx y=>A3 (xs[i]? =aA x) (ys[i]? =aA y)<|d= .tup [x,y]:=by unfold B4 at h;rw[c8]at h;obtain⟨⟨x,y⟩,j,f⟩:=je.mp h;obtain⟨c,a⟩:=jz.mp j;exact⟨x,y,c,a,f.symm⟩
theorem IT(h:xs.length=ys.length):(B4 xs ys).length=xs.length:=by unfold B4;rw[aj,l5];lia
theorem iL(h1:W3 K F a us)(h2:W3 K F b vs)(q:dJ K F xs us)(A:dJ K F ys vs)(L:xs.length=ys.length):Td K (Itz K a b) F<|B4 xs ys:=λF' H c h i=>by
 have l:W3 K H a us:=Yt (c.trans h) h1;have j:W3 K H b vs:=Yt (c.trans h) h2;refine⟨λd hd=>?_,λm=>⟨us,vs,l,j,by rw[<-q.length,<-IT L];exact m⟩⟩;refine Wv λ_ w=>?_;obtain⟨x,y,C,B,rfl⟩:=IU hd;obtain⟨u,g1,g2⟩:=q.get C;obtain⟨v,k1,k2⟩:=A.get B;apply w;refine⟨⟨us,vs,u,v,l,j,g1,k1⟩,λz H' f=>?_⟩;obtain⟨p,g,Z,X,n,T,Q,P⟩:=f;subst X T;have s:=Q us l;have r:=P vs j;rw[g1]at s;cases s;rw[k1]at r;cases r;have E:F' p=aB:=h.free n;have o:Zm F'<|J1 F' [(p,.tup [u,v])]:=Qf λz hz=>by obtain rfl:=ao.mp hz;exact E
 refine⟨Wz n,[(p,.tup [u,v])],Fs,λz hz=>?_,.tup Z8<|.cons (g2.mono<|c.trans o)<|.cons (k2.mono<|c.trans o) .nil⟩;obtain rfl:=ao.mp hz;exact⟨n,Z8⟩
section
variable{Z:dP K}
@[simp]def RH(fd:FD):FD:=λδ=>(fd δ).bind λp=>match p.1 with
 | [.lst xs,.lst ys]=>if xs.length=ys.length then aA (B4 xs ys,p.2)else aB
 |_=>aB
def rZ(K:ak)(r:À V->À V->Hp->VK->Prop):À V->Hp->VK->Prop:=λvs H1 Q=>∃l1 l2 xs ys,vs=[.ref l1,.ref l2]/\W3 K H1 l1 xs/\W3 K H1 l2 ys/\r xs ys H1 Q
def XG:List D->Option SV
 | [.lst xs,.lst ys]=>if xs.length=ys.length/\xs.length<=dg then aA (.ol<|B4 xs ys)else aB
 |_=>aB
def XF:List D->Option SV
 | [.lst xs,.lst ys]=>(xu xs).bind λks=>if ks.length=ys.length/\ks.Nodup/\ks.length<dg then aA (.oK (ks.map Sum.inr) ys)else aB
 |_=>aB
def B5(ns:À aq)(us vs:À V):Zy:=(ns.zip<|us.zip vs).map λp=>(p.1,HO.tup [p.2.1,p.2.2])
theorem iK(h1:ns.length=us.length)(h2:us.length=vs.length):Jj (B5 ns us vs)=ns:=by unfold B5 Jj;rw[f7];exact ut (by rw[l5];lia)
theorem iJ(h:p∈B5 ns us vs):E3 λ(j:Nat) u v=>A4 (ns[j]? =aA p.1) (us[j]? =aA u) (vs[j]? =aA v)<|p.2= .tup [u,v]:=by obtain⟨⟨b,u,v⟩,a,rfl⟩:=av.mp h;obtain⟨j,c⟩:=qk.mp a;obtain⟨n,m⟩:=jz.mp c;obtain⟨l,f⟩:=jz.mp m;exact⟨j,u,v,n,l,f,rfl⟩
theorem kh{j:Nat}(h:ns[j]? =aA b)(c:us[j]? =aA u)(a:vs[j]? =aA v):(b,HO.tup [u,v])∈B5 ns us vs:=
 av.mpr ⟨(b,u,v),qk.mpr ⟨j,jz.mpr ⟨h,jz.mpr ⟨c,a⟩⟩⟩,rfl⟩
theorem J':∀{ds:À D} {vs:À V},ds.length=vs.length->(∀(j:Nat) d v,ds[j]? =aA d->vs[j]? =aA v->dS K F d v)->dJ K F ds vs
 | [],[],_,_=>.nil
 |d::ds,v::vs,h,g=>.cons (g 0 d v rfl rfl) (J' η λj x v a b=>g (j+1) x v ν<|by simpa using b)
 | [],_::_,h,_=>nomatch h
 |_::_,[],h,_=>nomatch h
theorem tQ:Ox Z (rZ K xH) XG:=by
 intro F H σ δ own vs ds sv Q s r e k;unfold XG at e;split at e
 .rename_i xs ys;split at e
  .rename_i J;cases e;obtain⟨_,_,rfl,h,t⟩:=r.consI;obtain⟨_,_,rfl,h',t⟩:=t.consI;cases t;obtain⟨a,us,rfl,W,g⟩:=h.lst s.le;obtain⟨b,ws,rfl,U,X⟩:=h'.lst s.le;have l1:=g.length;have l2:=X.length;refine⟨a,b,us,ws,rfl,W,U,Θ,by clear l2;lia,λS H' ns T E C hn o=>?_⟩;have ad:=iK (ns:=ns) (us:=us) (vs:=ws) hn Θ;have G:(Jj<|B5 ns us ws).Nodup:=by rw[ad];exact o.nd
   have A:∀p∈B5 ns us ws,p.1∈ns:=λp f=>by rw[<-ad];exact List.mem_map_of_mem f
   have L:∀p∈B5 ns us ws,H p.1=aB:=λp f=>(o.fr _<|A p f).1;have M:∀p∈B5 ns us ws,F p.1=aB:=λp f=>s.le.free<|L p f;have fH:∀p∈B5 ns us ws,H' p.1=aA p.2:=λp f=>by obtain⟨j,u,v,P,e2,e3,e4⟩:=iJ f;obtain⟨x,y,g1,g2,Y⟩:=o.at' j _ P;rw[e2]at g1;rw[e3]at g2;cases g1;cases g2;rw[e4];exact Y
   have l:∀(i:Nat) (p q:aq×HO),H p.1=aB->q∈own i->p.1≠q.1:=λi p q f n z=>by have:=(s.ok i q n).2.2;rw[<-z,f]at this;cases this
   have N:=(s.grow T).addF G M fH (λp f=>s.old.free<|L p f) λi p q f n=>l i p q (L p f) n;have m:=Qf M;have B:S∉Jj (B5 ns us ws):=λz=>by rw[ad]at z;exact(o.fr S z).2 rfl
   refine k (.ref S) H' _ [(S,.lst<|ns.map V.ref)] T m N ⟨.ol<|J' (by rw[IT J.1,aj];(clear J;lia)) λj d v hd I=>?_,Fs,λp f=>?_,λi p q f n=>?_⟩
   .obtain⟨x,y,R,O,rfl⟩:=IU hd;obtain⟨u,g1,g2⟩:=g.get R;obtain⟨w,k1,k2⟩:=X.get O;rw[c8]at I;obtain⟨c,P,rfl⟩:=je.mp I;exact .tup (Rl G<|kh P g1 k1)<|.cons (g2.mono m)<|.cons (k2.mono m) .nil
   .obtain rfl:=ao.mp f;exact⟨by rw[Uu B];exact s.le.free E,s.old.free E,C⟩
   .obtain rfl:=ao.mp f;exact l i _ q E n
  .cases e
 .cases e
theorem tP:Ox Z (rZ K xF) XF:=by
 intro F H σ δ own vs ds sv Q s r e k;unfold XF at e;split at e
 .rename_i xs ys;refine L2.dN e λks C o=>?_;split at o
  .rename_i w;cases o;obtain⟨_,_,rfl,h,t⟩:=r.consI;obtain⟨_,_,rfl,h',t⟩:=t.consI;cases t;obtain⟨a,us,rfl,A,x⟩:=h.lst s.le;obtain⟨b,ws,rfl,y,v⟩:=h'.lst s.le;have l2:=v.length;have B:=Fx C x;refine⟨a,b,us,ws,rfl,A,y,ks.map Sum.inr,by rw[B,f7];rfl,by rw[aj];lia,wr _ (λ_ _ n z=>n<|Sum.inr.inj z) w.2.1,by rw[aj];exact w.2.2,λS H' ep u m l=>?_⟩;have c:∀(i:Nat) (q:aq×HO),q∈own i->S≠q.1:=λi q f z=>by have:=(s.ok i q f).2.2;rw[<-z,m]at this;cases this
   refine k (.ref S) H' F [(S,.dK ((ks.map Sum.inr).zip ws) ep)] u (Zm.refl F) (s.grow u) ⟨.oK (ut Ω) (by rw[ur Ω];exact v),Fs,λp j=>?_,λi p q j f=>?_⟩
   .obtain rfl:=ao.mp j;exact⟨s.le.free m,s.old.free m,l⟩
   .obtain rfl:=ao.mp j;exact c i q f
  .cases o
 .cases e
end
section
variable{X:Cx}{Z:dP X.K}{a b:dz}{fa fb:FE}{pos ZF p p2:Pos}
theorem xD{elts}{k}{tp}(w:X.mg "zip"=aB)(A:PE X a<|liftE Z fa)(z:PE X b<|liftE Z fb)(y:‹Gl X "zip"›)(hs:‹Se X a [b]›)(l:‹Se X b []›)(m:‹Bk X pos [b]›):
  PI X (.Tuple elts k tp) (.Call (.Name "zip" p) [a,b] [] pos) (liftI Z<|RH<|Zl fa<|Zl fb Zp):=(tR y w (Zv A (Zv z Ye l) hs) hs m).imp λ_ _ _ h=>by
   obtain⟨F,δ,own,ds,δ',s,e,k⟩:=h;refine L2.dO e λn δ1 B c=>?_;refine⟨F,δ,own,n,δ1,s,B,λvs H1 C f o q j u=>?_⟩;dsimp only at c;split at c
   .split at c
    .rename_i x;cases c;obtain⟨_,_,rfl,h,t⟩:=u.consI;obtain⟨_,_,rfl,h',t⟩:=t.consI;cases t;obtain⟨_,_,rfl,h,_,r⟩:=h.lstI;cases h' with
     |lst h' _ v=>exact⟨_,_,_,_,rfl,Yt j.le h,Yt j.le h',k _ H1 C f o q j<|iL h h' r v x⟩
    .cases c
   .cases c
theorem kg(A:X.calm=aC)(v:X.mg "list"=aB)(l:X.mg "zip"=aB)(C:PE X a<|liftE Z fa)(B:PE X b<|liftE Z fb)(x:‹Gl X "list"›)(m:‹Gl X "zip"›)(hs:‹Se X a [b]›)(f:‹Se X b []›)(j:‹Bk X ZF [b]›)(y:‹Se X (.Call (.Name "zip" p2) [a,b] [] ZF) []›)(c:‹Bk X pos []›):
  PE X (.Call (.Name "list" p) [.Call (.Name "zip" p2) [a,b] [] ZF] [] pos) (liftE Z<|Yh XG<|Zd fa<|Zd fb Zh):=
 (Ld (λdG s σ H z TI TO i1 i2 l1 l2 xs ys Q I u st h1 h2 ⟨K,F,q⟩=>N8 (I.ok.hd A) I u st K F h1 h2 λS s' H' ns L r E n w o=>⟨.ref S,H',L,rfl,q S H' ns r E n w o⟩) x v yq m l (Zg C (Zg B Zw f) hs) Γ Γ hs j y c).imp λ_ _ _ h=>K3 tQ h
theorem kZ(x:X.calm=aC)(u:X.mg "dict"=aB)(l:X.mg "zip"=aB)(A:PE X a<|liftE Z fa)(y:PE X b<|liftE Z fb)(v:‹Gl X "dict"›)(m:‹Gl X "zip"›)(hs:‹Se X a [b]›)(f:‹Se X b []›)(j:‹Bk X ZF [b]›)(w:‹Se X (.Call (.Name "zip" p2) [a,b] [] ZF) []›)(c:‹Bk X pos []›):
  PE X (.Call (.Name "dict" p) [.Call (.Name "zip" p2) [a,b] [] ZF] [] pos) (liftE Z<|Yh XF<|Zd fa<|Zd fb Zh):=
 (Ld (λdG s σ H z TI TO i1 i2 l1 l2 xs ys Q I r st h1 h2 ⟨ks,K,F,E,C,q⟩=>N9 (I.ok.hd x) I r st F E C (K▸h1) h2 λS s' H' ep L o B n=>⟨.ref S,H',L,rfl,q S H' ep o B n⟩) v u Φ m l (Zg A (Zg y Zw f) hs) Γ Γ hs j w c).imp λ_ _ _ h=>K3 tP h
end
end
section
variable{K:ak}
@[simp]noncomputable def Am(f:D->D->Option Bool):List D->List D->Option Bool
 |x::xs,y::ys=>(f x y).bind λb=>(Am f xs ys).bind λc=>aA<|b&&c
 |_,_=>aA aC
@[simp]def Rs(f:D->D->Option Bool):D->D->Option Bool
 | .lst xs,.lst ys=>if xs.length=ys.length then Am f xs ys else aA aE
 | .tup xs,.tup ys=>(Am f xs ys).bind λb=>aA<|b&&decide (xs.length=ys.length)
 | .lst _,.tup _=>aA aE
 | .tup _,.lst _=>aA aE
 |d1,d2=>eqS d1 d2
@[simp]def Fu:Nat->D->D->Option Bool
 |0=>λ_ _=>aB
 |n+1=>Rs<|Fu n
theorem An(e:eqS d1 d2=aA b)(c:Yz K F H d1 x)(a:Yz K F H d2 y):Y7 x=aC/\Y7 y=aC/\b=Df x y:=by cases d1<;> (try cases e)<;> cases d2<;> cases e<;> (first|obtain rfl:=c.non|obtain rfl:=c.int|obtain rfl:=c.bl|obtain rfl:=c.str)<;> (first|obtain rfl:=a.non|obtain rfl:=a.int|obtain rfl:=a.bl|obtain rfl:=a.str)<;> refine⟨rfl,rfl,?_⟩<;> first|rfl|simp[Df]
section
variable{X:Cx}{dG:À (aq×Obj)}{σ:L2.St}{F H:Hp}{s:au}
theorem iI{h:ie}(h1:h.IsList a i1)(h2:h.IsList a i2):i1=i2:=by obtain⟨o,j,r,p,l⟩:=h1;obtain⟨m,c,q,n,f⟩:=h2;rw[j]at c;cases c;rw[l]at f;cases f;rfl
theorem ib{h:ie}(h1:h.IsTuple a i1)(h2:h.IsTuple a i2):i1=i2:=by obtain⟨o,j,r,p,l⟩:=h1;obtain⟨m,c,q,n,f⟩:=h2;rw[j]at c;cases c;rw[l]at f;cases f;rfl
theorem LX(hf:∀i g b x y v,dS X.K F i x->Z9 x v->dS X.K F g y->Z9 y v->f i g=aA b->b=aC):∀{ys:À D} {vs ws:À V} {us:À am} {b:Bool},dJ X.K F xs vs->Yg vs us->dJ X.K F ys ws->Yg ws us->Am f xs ys=aA b->b=aC:=by
 induction xs with
 |nil=>intro ys vs ws us b _ _ _ _ e;cases e;rfl
 |cons x xs q=>
  intro ys vs ws us b p l o j e;cases p with
  |cons h1 n=>
   cases l with
   |cons A h=>
    cases j with
    |cons z a=>
     cases o with
     |cons h2 m=>obtain⟨b,w,u⟩:=gc.mp e;obtain⟨c,s,r⟩:=gc.mp u;cases r;rw[hf _ _ _ _ _ _ h1 A h2 z w,q n h m a s];rfl
theorem P9(I:dL X dG σ H s)(le:Zm F H)(w:∀i g b x y v,dS X.K F i x->Z9 x v->dS X.K F g y->Z9 y v->f i g=aA b->b=aC)(i g b x y v)(r:dS X.K F i x)(j:Z9 x v)(q:dS X.K F g y)(h:Z9 y v)(e:Rs f i g=aA b):b=aC:=by
  unfold Rs at e;split at e
  .rename_i xs ys;obtain⟨_,_,rfl,o,_,p⟩:=r.lstI;obtain⟨_,_,rfl,n,_,p2⟩:=q.lstI;cases j;cases h;obtain⟨i1,m,l1,_⟩:=I.list<|Yt le o;obtain⟨i2,l,l2,_⟩:=I.list<|Yt le n;have z:=iI l1.isList l2.isList;have z:i1=i2:=by simpa using z
   subst z;split at e
   .exact LX (w) p m p2 l e
   .rename_i A;have h1:=m.length;have h2:=l.length;have C:=p.length;have B:=p2.length;exact dt Θ A
  .rename_i xs ys;obtain⟨_,_,rfl,o,p⟩:=r.tupI;obtain⟨_,_,rfl,n,p2⟩:=q.tupI;cases j;cases h;obtain⟨i1,m,l1,_⟩:=I.tuple<|Ut le<|Iy o;obtain⟨i2,l,l2,_⟩:=I.tuple<|Ut le<|Iy n;have z:=ib l1 l2;have z:i1=i2:=by simpa using z
   subst z;refine L2.dN e λc P L=>?_;cases L;have h1:=m.length;have h2:=l.length;have C:=p.length;have B:=p2.length;rw[LX (w) p m p2 l P,d_ Θ];rfl
  .obtain⟨_,_,rfl,o,_,p⟩:=r.lstI;obtain⟨_,_,rfl,n,p2⟩:=q.tupI;cases j;cases h;obtain⟨i1,m,l1,_⟩:=I.list<|Yt le o;obtain⟨i2,l,l2,_⟩:=I.tuple<|Ut le<|Iy n;exact dt rfl (AC (s:=s) l1.isList l2)
  .obtain⟨_,_,rfl,o,p⟩:=r.tupI;obtain⟨_,_,rfl,n,_,p2⟩:=q.lstI;cases j;cases h;obtain⟨i1,m,l1,_⟩:=I.tuple<|Ut le<|Iy o;obtain⟨i2,l,l2,_⟩:=I.list<|Yt le n;exact dt rfl (AC (s:=s) l2.isList l1)
  .obtain⟨E,u,rfl⟩:=An (H:=H) e (Yz.of r)<|Yz.of q;cases x with
   |non=>cases j;cases y with
    |non=>rfl
    |bl b=>cases h
    |int b=>obtain⟨t,e⟩:=h;cases e
    |str b=>obtain⟨t,e⟩:=h;cases e
    |_=>cases u
   |bl a=>cases j;cases y with
    |non=>cases h
    |bl b=>cases h;simp[Df]
    |int b=>obtain⟨t,e⟩:=h;cases e
    |str b=>obtain⟨t,e⟩:=h;cases e
    |_=>cases u
   |int a=>obtain⟨t,rfl⟩:=j;cases y with
    |non=>cases h
    |bl b=>cases h
    |int b=>obtain⟨t,e⟩:=h;cases e;simp[Df]
    |str b=>obtain⟨t,e⟩:=h;cases e
    |_=>cases u
   |str a=>obtain⟨t,rfl⟩:=j;cases y with
    |non=>cases h
    |bl b=>cases h
    |int b=>obtain⟨t,e⟩:=h;cases e
    |str b=>obtain⟨t,e⟩:=h;cases e;simp[Df]
    |_=>cases u
   |_=>cases E
theorem J_(I:dL X dG σ H s)(le:Zm F H):∀n i g b x y v,dS X.K F i x->Z9 x v->dS X.K F g y->Z9 y v->Fu n i g=aA b->b=aC
 |0,_,_,_,_,_,_,_,_,_,_,e=>by cases e
 |n+1,i,g,b,x,y,v,r1,v1,r2,v2,e=>P9 I le (J_ I le n) i g b x y v r1 v1 r2 v2 e
theorem JZ(hf:∀G i b x y v u,dS X.K F G x->Z9 x v->dS X.K F i y->Z9 y u->f G i=aA b->n8 A s v u b):∀{ys:À D} {vs ws:À V} {us zs:À am} {b:Bool},dJ X.K F xs vs->Yg vs us->dJ X.K F ys ws->Yg ws zs->Am f xs ys=aA b->
  ∃e,(∀j h1 (h2:j<zs.length),n8 A s us[j] zs[j] (e j))/\(gz<|min us.length zs.length).all e=b:=by
 induction xs with
 |nil=>intro ys vs ws us zs b h a _ _ e;cases h;cases a;cases e;exact⟨λ_=>aC,λj h1=>dt h1<|lz _,by rw[pj,Nat.zero_min];rfl⟩
 |cons x xs r=>
  intro ys vs ws us zs b h a l o e;cases h with
  |cons h1 q=>
   cases a with
   |cons H n=>
    cases o with
    |nil=>cases l;cases e;exact⟨λ_=>aC,λj _ h2=>dt h2<|lz _,by rw[pj,Nat.min_zero];rfl⟩
    |cons E m=>
     cases l with
     |cons h2 p=>
      obtain⟨b,C,B⟩:=gc.mp e;obtain⟨c,z,w⟩:=gc.mp B;cases w;obtain⟨g,g1,g2⟩:=r q n p m z;refine⟨λj=>Nat.casesOn j b g,λj h1 h2=>?_,?_⟩
      .cases j with
       |zero=>exact hf _ _ _ _ _ _ _ (by assumption:_) H (by assumption:_) E C
       |succ j=>exact g1 j (m7 h1)<|m7 h2
      .rw[ca,ca,Nat.succ_min_succ,ux,mo,ky,<-g2];rfl
theorem rcN(I:dL X dG σ H s)(le:Zm F H)(Z:∀G i b x y v u,dS X.K F G x->Z9 x v->dS X.K F i y->Z9 y u->f G i=aA b->n8 A.in1 s v u b)(E:Yz X.K F H G x)(P:Z9 x v)(C:Yz X.K F H i y)(L:Z9 y u)(e:Rs f G i=aA b)(h:A.units<jf)(B:Y7 x=aE\/Y7 y=aE):(E2 λa c=>v= .ref a/\u= .ref c)/\CK A s v u b/\AD A s v u (!b):=by
 unfold Rs at e;split at e
 .obtain⟨T,o,rfl,q,r⟩:=E.lst le;obtain⟨Q,n,rfl,p,p2⟩:=C.lst le;cases P;cases L;obtain⟨i1,m,l1,_⟩:=I.list q;obtain⟨i2,l,l2,_⟩:=I.list p;have h1:=m.length;have h2:=l.length;have M:=r.length;have J:=p2.length;refine⟨⟨_,_,rfl,rfl⟩,?_⟩;split at e
  .rename_i O;obtain⟨g,g1,g2⟩:=JZ Z r m p2 l e;have N:min i1.length i2.length=i1.toArray.size:=by simp;lia
   rw[N]at g2;subst g2;have hz:i1.toArray.size=i2.toArray.size:=by simp;lia
   exact⟨SeqAt.RcAt.lists l1.isList l2.isList hz h (λj z w=>by simpa using g1 j ζ<|by simpa using w),SeqAt.RcNeAt.lists l1.isList l2.isList hz h<|λj z w=>by simpa using g1 j ζ<|by simpa using w⟩
  .rename_i O;cases e;have hz:(i1.toArray.size !=i2.toArray.size)=aC:=by simp;lia
   exact⟨SeqAt.RcAt.lists_lengths l1.isList l2.isList hz h,SeqAt.RcNeAt.lists_lengths l1.isList l2.isList hz h⟩
 .rename_i xs ys;obtain⟨T,o,rfl,q,r⟩:=E.tup le;obtain⟨Q,n,rfl,p,p2⟩:=C.tup le;cases P;cases L;obtain⟨i1,m,l1,_⟩:=I.tuple q;obtain⟨i2,l,l2,_⟩:=I.tuple p;have h1:=m.length;have h2:=l.length;have M:=r.length;have J:=p2.length;refine L2.dN e λc e1 Y=>?_;cases Y;refine⟨⟨_,_,rfl,rfl⟩,?_⟩;obtain⟨g,g1,g2⟩:=JZ Z r m p2 l e1;subst g2;have W:((gz<|min i1.length i2.length).all g&&decide (xs.length=ys.length))=((gz<|min i1.toArray.size i2.toArray.size).all g&&i1.toArray.size==i2.toArray.size):=by
   have:(i1.toArray.size==i2.toArray.size)=decide (xs.length=ys.length):=by rw[c9,c9,<-h1,<-h2,<-M,<-J];rfl
   rw[this];simp
  rw[W];exact⟨SeqAt.RcAt.tuples l1 l2 h (λj z w=>by simpa using g1 j ζ<|by simpa using w),SeqAt.RcNeAt.tuples l1 l2 h<|λj z w=>by simpa using g1 j ζ<|by simpa using w⟩
 .obtain⟨T,o,rfl,q,r⟩:=E.lst le;obtain⟨Q,n,rfl,p,p2⟩:=C.tup le;cases P;cases L;cases e;obtain⟨i1,m,l1,_⟩:=I.list q;obtain⟨i2,l,l2,_⟩:=I.tuple p;exact⟨⟨_,_,rfl,rfl⟩,SeqAt.RcAt.list_tuple l1.isList l2 h,SeqAt.RcNeAt.list_tuple l1.isList l2 h⟩
 .obtain⟨T,o,rfl,q,r⟩:=E.tup le;obtain⟨Q,n,rfl,p,p2⟩:=C.lst le;cases P;cases L;cases e;obtain⟨i1,m,l1,_⟩:=I.tuple q;obtain⟨i2,l,l2,_⟩:=I.list p;exact⟨⟨_,_,rfl,rfl⟩,SeqAt.RcAt.tuple_list l1 l2.isList h,SeqAt.RcNeAt.tuple_list l1 l2.isList h⟩
 .obtain⟨U,R,_⟩:=An e E C;rcases B with B|B
  .rw[U]at B;cases B
  .rw[R]at B;cases B
theorem TJ(I:dL X dG σ H s)(le:Zm F H):∀n A i g b x y v u,A.units+n<jf->dS X.K F i x->Z9 x v->dS X.K F g y->Z9 y u->Fu n i g=aA b->n8 A s v u b
 |0,_,_,_,_,_,_,_,_,_,_,_,_,_,e=>by cases e
 |n+1,A,i,g,b,x,y,v,u,hu,r1,v1,r2,v2,e=>by
  by_cases hf:Y7 x=aC/\Y7 y=aC
  .have w:eqS i g=aA b:=by
    unfold Fu Rs at e;split at e
    .cases r1;cases hf.1
    .cases r1;cases hf.1
    .cases r1;cases hf.1
    .cases r1;cases hf.1
    .exact e
   obtain⟨r,q,rfl⟩:=An (H:=H) w (Yz.of r1)<|Yz.of r2;exact TV v1 v2 r q
  .have j:Y7 x=aE\/Y7 y=aE:=by
    cases h1:Y7 x with
    |false=>exact .inl rfl
    |true=>cases h2:Y7 y with
     |false=>exact .inr rfl
     |true=>exact dt ⟨h1,h2⟩ hf
   obtain⟨⟨a,c,rfl,rfl⟩,h1,_⟩:=rcN I le (A:=A) (f:=Fu n) (λi g b x y v u p m o l e=>TJ I le n A.in1 i g b x y v u (by have:A.in1.units=A.units+1:=rfl;lia) p m o l e) (Yz.of r1) v1 (Yz.of r2) v2 e Θ j;by_cases h:a=c
   .subst h;rw[J_ I le (n+1) i g b x y _ r1 v1 r2 v2 e];exact u5 _
   .exact CO h h1
end
@[simp]noncomputable def D.isFlat:D->Bool
 | .non=>aC| .bl _=>aC| .int _=>aC| .str _=>aC|_=>aE
theorem Le(r:Yz K F H d x)(h:d.isFlat=aE):Y7 x=aE:=by
 obtain⟨sv,ns,e,n,c,f⟩:=r;cases c with
 |fz r=>cases e;cases r<;> first|rfl|cases h
 |ol r=>rfl
 |oK a r=>rfl
 |oT kb a r=>rfl
 |oN a r=>rfl
 |oR a r=>rfl
 |oL _ r=>rfl
 |oQ a r=>rfl
@[simp]noncomputable def Mo:D->Option SV
 | .int i=>aA<|.fz<|.int<|-i
 |_=>aB
theorem xC{Z:dP K}:UK Z (rU λi=>.int<|-i) Mo:=by
 intro F H σ δ own x d sv Q s r e k;unfold Mo at e;split at e
 .cases e;exact⟨_,r.int,k.fz s<|.int _⟩
 .cases e
section
variable{X:Cx}{Z:dP X.K}{a b c:dz}{fa fb fc:FE}{pos:Pos}
theorem Cm(c:PE X a<|liftE Z fa):PE X (.UnaryOp .USub a pos)<|liftE Z<|Af Mo fa:=(PZ No c).imp λ_ _ _ h=>RM xC h
end
end
section
variable{X:Cx}{tg:dz}
noncomputable def Its(z:Str):It:=⟨λi _=>i<z.length,λi H x H'=>H'=H/\∃c,z.cps[i]? =aA c/\x= .str ⟨#[c]⟩,λi _=>z.length<=i⟩
theorem kY{P:eg}{w:gq}{K:ak}{tg:dz}(z:Str)(t:Tok)(it:aq):Turn P w K tg (Its z) [it] it (λi h=>h.IsStrIter it (i9 z) z t i)where
 mem:=Δ
 obj:=λi h st b f=>by
  have e:b=it:=by simpa using f
  subst e;obtain⟨o,e,c,d⟩:=st;exact⟨o,e,λv q=>by rw[d]at q;cases q⟩
 keep:=λi h h' st k=>by obtain⟨o,e,c,d⟩:=st;exact⟨o,k it Δ o e,c,d⟩
 item:=by
  intro X g F hK Z i dG s σ H E I hf st T;subst g F hK;obtain⟨C,B,N,y,r,n⟩:=hf it Δ;have L:i<z.cps.size:=T;have l:z.cps[i]? =aA z.cps[i]:=by simp[L]
  have fin:∀h',h'.IsStrIter it (i9 z) z t (i+1)->qi it s.heap h'->∃u,aA (wv ⟨#[z.cps[i]]⟩ s.toks)=aA u/\de (dw X.p X.w) X.A (rh tg (.ref it) u) (λ_ J=>∃x H',dL X dG σ H' J/\Z9 x u/\(Its z).yld i H x H'/\J.heap.IsStrIter it (i9 z) z t (i+1)/\∀b∈[it],H' b=aB) E {s with heap:=h',toks:=s.toks+1}:=λh' m M=>by
   have O:dL X dG σ H {s with heap:=h',toks:=s.toks+1}:=I.turned (t':=s.toks+1) (λb o f q=>(M.2 b f).trans q) C B y r n;obtain⟨o,e,c,d⟩:=id m;have hn:["enumerate","zip","dict_itemiterator","dict_reverseitemiterator","odict_iterator","itertools.zip_longest","itertools.pairwise"].contains (i9 z)=aE:=by unfold i9;split<;> decide
   exact⟨_,rfl,WJ (s:={s with heap:=h',toks:=s.toks+1}) e c d hn ⟨.str ⟨#[z.cps[i]]⟩,H,O,⟨_,rfl⟩,⟨rfl,_,l,rfl⟩,m,λb f=>(hf b f).1⟩⟩
  cases j:z.cps.all (· <128)with
  |false=>
   have a:i9 z="str_iterator":=by unfold i9;rw[j];rfl
   rw[a]at st fin;rw[a];exact wpAny_pyNext_wide_item st l fin
  |true=>
   have a:i9 z="str_ascii_iterator":=by unfold i9;rw[j];rfl
   rw[a]at st fin;rw[a];exact wpAny_pyNext_ascii_item st l fin
 done:=by
  intro X g F hK Z i dG s σ H E I hf st T;subst g F hK;obtain⟨C,B,N,y,r,n⟩:=hf it Δ;have Q:z.cps.size<=i:=T;have l:z.cps[i]? =aB:=by simp[Q]
  cases j:z.cps.all (· <128)with
  |false=>
   have a:i9 z="str_iterator":=by unfold i9;rw[j];rfl
   rw[a]at st;exact wpAny_pyNext_wide_end (I.ok.hd Z) st l λh' G=>⟨rfl,I.turned (t':=s.toks) (λb o f q=>G b o f q) C B y r n⟩
  |true=>
   have a:i9 z="str_ascii_iterator":=by unfold i9;rw[j];rfl
   rw[a]at st;exact wpAny_pyNext_ascii_end (I.ok.hd Z) st l λh' G=>⟨rfl,I.turned (t':=s.toks) (λb o f q=>G b o f q) C B y r n⟩
 self:=λ_ _ _ _ _ st h=>by
  cases j:z.cps.all (· <128)with
  |false=>
   have a:i9 z="str_iterator":=by unfold i9;rw[j];rfl
   rw[a]at st;exact wpAny_pyIter_striter_wide st h
  |true=>
   have a:i9 z="str_ascii_iterator":=by unfold i9;rw[j];rfl
   rw[a]at st;exact wpAny_pyIter_striter_ascii st h
def h_(K:ak)(c:TE):TI:=λσ H R=>c σ H λx H1=>(∃a,x= .ref a/\(∃xs,W3 K H1 a xs)/\R (Itl K a) H1)\/(∃a,x= .ref a/\(∃xs,Eu K H1 a xs)/\R (Itt K a) H1)\/(∃z,x= .str z/\R (Its z) H1)
theorem tO(w:PE X l tl):PI X tg l<|h_ X.K tl:=by
 intro dG s σ H R I h;refine Wy (w dG s σ H _ I h) λv c m=>?_;obtain⟨x,H1,f,n,u⟩:=m;rcases u with⟨a,e,⟨xs,r⟩,q⟩|⟨a,e,⟨xs,r⟩,q⟩|⟨z,e,q⟩
 .subst e;cases n;obtain⟨dI,rv,p,hz⟩:=f.list r;refine DE p.isList ?_;refine⟨c.heap.objs.size,[c.heap.objs.size],_,_,H1,rfl,f.kept (t':=c.toks) λb o e=>aw _ e,jY a _,⟨_,dn _ rfl,rfl,rfl⟩,λb j=>?_,q⟩;have e:b=c.heap.objs.size:=by simpa using j
  subst e;exact f.fpOk (cj _)<|f.hok.fresh<|cj _
 .subst e;cases n;obtain⟨dI,rv,p,hz⟩:=f.tuple r;refine wpAny_pyIter_tuple (show c.heap.IsTuple a dI.toArray from p) ?_;refine⟨c.heap.objs.size,[c.heap.objs.size],_,_,H1,rfl,f.kept (t':=c.toks) λb o e=>aw _ e,iW a _,⟨_,dn _ rfl,rfl,rfl⟩,λb j=>?_,q⟩;have e:b=c.heap.objs.size:=by simpa using j
  subst e;exact f.fpOk (cj _)<|f.hok.fresh<|cj _
 .subst e;obtain⟨t,rfl⟩:=n;refine wpAny_pyIter_strU ?_;refine⟨c.heap.objs.size,[c.heap.objs.size],_,_,H1,rfl,f.kept (t':=c.toks) λb o e=>aw _ e,kY z t _,⟨_,dn _ rfl,rfl,rfl⟩,λb j=>?_,q⟩;have e:b=c.heap.objs.size:=by simpa using j
  subst e;exact f.fpOk (cj _)<|f.hok.fresh<|cj _
theorem Sa:∀l,Yg ((l.map (·.1)).map V.str) (EC l)
 | []=>.nil
 | (x,t)::r=>.cons ⟨t,rfl⟩<|Sa r
def NQ:V->À V->Hp->VK->Prop:=λx xs H Q=>∃a b,x= .str a/\xs=[.str b]/\(b.length==0)=aE/\a.length<=sizeLine/\(qu a b).length<=sizeLine/\∀p,H p=aB->Q (.ref p) (upd H p<|.lst<|(qu a b).map V.str)
theorem mY:MtR X "str.split" NQ:=by
 intro dG s σ H x xs v us Q I j m h;obtain⟨a,b,rfl,rfl,f,n,hz,q⟩:=h;obtain⟨t,rfl⟩:=j;obtain⟨u,rfl,l⟩:=Jw m;obtain⟨t',rfl⟩:=l;have one:qu a b=[a]->∀tk,EP X dG σ Q (.ref s.heap.objs.size) {s with toks:=tk,heap:=s.heap.push {cls:=.type "list",data:=.seq #[.str a t]}}:=λe tk=>by rw[e]at q;exact⟨.ref _,_,I.lnew (t':=tk) (ys:=[.str a]) (dI:=[.str a t]) (.cons ⟨t,rfl⟩ .nil) (by show 1<=sizeLine;decide),rfl,q _ I.fresh⟩
 cases h1:(decide (a.length<b.length)||decide (o5 a<o5 b))
 .cases hf:(fq a b 0 a.length<|a.length+1).isEmpty
  .have e:qu a b=ym a (fq a b 0 a.length<|a.length+1) b.length:=(dY<|ne_true_of_eq_false h1).trans<|dY<|ne_true_of_eq_false hf;rw[e]at hz q;refine j8 F.slot_str_split (qo _ _ _) F.entry_str_split (F.args_str_split_2 _ _) (meets_str_split_sep a b t t' h1 f hf n hz) ?_;rw[strsFrom_eq];have c:=Sa<|numbered s.toks<|ym a (fq a b 0 a.length<|a.length+1) b.length;rw[numbered_texts]at c;exact⟨.ref _,_,I.lnew (t':=_) c (by rw[aj];exact hz),rfl,q _ I.fresh⟩
  .exact j8 F.slot_str_split (qo _ _ _) F.entry_str_split (F.args_str_split_2 _ _) (meets_str_split_not_found a b t t' h1 f hf) (one ((dY<|ne_true_of_eq_false h1).trans<|dZ hf) s.toks)
 .exact j8 F.slot_str_split (qo _ _ _) F.entry_str_split (F.args_str_split_2 _ _) (meets_str_split_cannot_occur a b t t' h1) (one (dZ h1) s.toks)
def OA:V->À V->Hp->VK->Prop:=λx xs H Q=>∃a b,x= .str a/\xs=[.str b]/\(b.length==0)=aE/\a.length<=sizeLine/\∀p,H p=aB->Q (.ref p) (upd H p<|.tup [.str (iu a b).1,.str (iu a b).2.1,.str (iu a b).2.2])
theorem dL.tnew{σ:L2.St}(I:dL X dG σ H s)(a:Yg ys dI)(hz:ys.length<=sizeLine):
  dL X dG σ (upd H s.heap.objs.size<|.tup ys) {s with heap:=s.heap.push {cls:=.type "tuple",data:=.seq dI.toArray},toks:=t'}:=
 I.laid (λ_ _ q=>aw _ q) (cj _) ⟨hz,dI,a,⟨_,dn _ rfl,rfl,_,rfl⟩⟩
theorem nA:MtR X "str.partition" OA:=by
 intro dG s σ H x xs v us Q I c j h;obtain⟨a,b,rfl,rfl,l,m,q⟩:=h;obtain⟨t,rfl⟩:=c;obtain⟨u,rfl,f⟩:=Jw j;obtain⟨t',rfl⟩:=f;refine j8 F.slot_str_partition (qo _ _ _) F.entry_str_partition (F.args_str_partition_2 _ _) (meets_str_partition a b t t' l m) ?_;unfold iu at q;cases e:fq a b 0 a.length 1 with
 |nil=>rw[e]at q;exact⟨.ref _,_,I.tnew (t':=s.toks+1) (ys:=[.str a,.str dy,.str dy]) (dI:=[.str a t,.str dy s.toks,.str dy s.toks]) (.cons ⟨_,rfl⟩<|.cons ⟨_,rfl⟩<|.cons ⟨_,rfl⟩ .nil) (by show 3<=sizeLine;decide),rfl,q _ I.fresh⟩
 |cons i r=>rw[e]at q;exact⟨.ref _,_,I.tnew (t':=s.toks+1+1) (ys:=[.str (tw a 0 i),.str b,.str<|tw a (i+b.length) a.length]) (dI:=[.str (tw a 0 i) s.toks,.str b t',.str (tw a (i+b.length) a.length)<|s.toks+1]) (.cons ⟨_,rfl⟩<|.cons ⟨_,rfl⟩<|.cons ⟨_,rfl⟩ .nil) (by show 3<=sizeLine;decide),rfl,q _ I.fresh⟩
def h9(K:ak):À V->Hp->VK->Prop:=λxs H Q=>∃(p:aq) (bs:À Bool),xs=[.ref p]/\W3 K H p (bs.map V.bl)/\Q (.bl<|bs.all id) H
theorem JY:∀{bs:À Bool} {us:À am},Yg (bs.map V.bl) us->us=bs.map nz
 | [],_,r=>by rw[mf]at r;cases r;rfl
 |b::bs,_,r=>by obtain⟨_,_,rfl,h,t⟩:=r.consI;cases(show _=nz b from h);rw[JY t];rfl
theorem Sb:∀bs:À Bool,(gz bs.length).all (λi=>(bs[i]?).getD aC)=bs.all id
 | []=>rfl
 |b::bs=>by rw[ca,ux,mo,ky,mo,<-Sb bs];rfl
end
section
variable{K:ak}
noncomputable def Xm(z:Str):À D:=z.cps.toList.map λc=>.str ⟨#[c]⟩
theorem iZ:Td K (Its z) F<|Xm z:=λF' H q p i=>by
 have f:(Xm z).length=z.length:=by unfold Xm;rw[aj];rfl
 refine⟨λd hd=>?_,λh=>by rw[f]at h;exact h⟩;have j:i<z.length:=by have:=(ci.mp hd).1;rw[f]at this;exact this
 refine⟨j,λx H' a=>?_⟩;obtain⟨o,c,n,m⟩:=a;subst o m;unfold Xm at hd;rw[c8]at hd;have l:z.cps.toList[i]? =aA c:=by simpa using n
 rw[l]at hd;cases hd;exact⟨Zm.refl _,[],gd,λ_ h=>(nomatch h),.str _⟩
section
variable{Z:dP K}{H:Hp}{σ:L2.St}{Q:VK}
@[simp]def Y9(fe:FE):FD:=λδ=>(fe δ).bind λp=>(frz p.1 p.2).bind λq=>match q.1 with
 | .lst xs=>aA (xs,q.2)
 | .tup xs=>aA (xs,q.2)
 | .str z=>aA (Xm z,q.2)
 |_=>aB
@[simp]noncomputable def inS(i j:Str):Bool:=!(fq j i 0 j.length 1).isEmpty
@[simp]def inD:D->D->Option SV
 | .str i,.str j=>aA<|.fz<|.bl<|inS i j
 |_,_=>aB
@[simp]def TH:D->D->Option SV
 | .str i,.str j=>aA<|.fz<|.bl<|!inS i j
 |_,_=>aB
theorem hZ:Wd Z (λx y H Q=>∃i j,x= .str i/\y= .str j/\Q (.bl<|!(fq j i 0 j.length 1).isEmpty) H) inD:=by
 intro F H σ δ own x y h f sv Q s c a e k;unfold inD at e;split at e
 .cases e;exact⟨_,_,c.str,a.str,k.fz s<|.bl _⟩
 .cases e
theorem o_:Wd Z (λx y H Q=>∃i j,x= .str i/\y= .str j/\Q (.bl<|!(!(fq j i 0 j.length 1).isEmpty)) H) TH:=by
 intro F H σ δ own x y h f sv Q s c a e k;unfold TH at e;split at e
 .cases e;exact⟨_,_,c.str,a.str,k.fz s<|.bl _⟩
 .cases e
@[simp]noncomputable def Rt:List D->Option SV
 | [.str a,.str b]=>if(b.length==0)=aE/\a.length<=dg/\(qu a b).length<=dg then aA (.ol<|(qu a b).map D.str)else aB
 |_=>aB
theorem Sd:∀xs:À Str,dJ K F (xs.map D.str) (xs.map V.str)
 | []=>.nil
 |x::r=>.cons (.str x)<|Sd r
theorem o4:K9 Z NQ Rt:=by
 intro F H σ δ own vs ds sv Q s r e k;unfold Rt at e;split at e
 .rename_i a b;split at e
  .rename_i h;cases e;obtain⟨_,_,rfl,h1,t⟩:=r.consI;cases t with
   |cons h2 t=>cases t;exact⟨_,_,rfl,a,b,h1.str,by rw[h2.str],h.1,h.2.1,h.2.2,λp c=>k.lst s (Sd _) c⟩
  .cases e
 .cases e
@[simp]noncomputable def Jf:List D->Option SV
 | [.str a,.str b]=>if(b.length==0)=aE/\a.length<=dg then aA (.fz<|.tup [.str (iu a b).1,.str (iu a b).2.1,.str (iu a b).2.2])else aB
 |_=>aB
theorem iY:K9 Z OA Jf:=by
 intro F H σ δ own vs ds sv Q s r e k;unfold Jf at e;split at e
 .rename_i a b;split at e
  .rename_i h;cases e;obtain⟨_,_,rfl,h1,t⟩:=r.consI;cases t with
   |cons h2 t=>cases t;exact⟨_,_,rfl,a,b,h1.str,by rw[h2.str],h.1,h.2,λp c=>k.tup s (.cons (.str _)<|.cons (.str _)<|.cons (.str _) .nil) c⟩
  .cases e
 .cases e
@[simp]noncomputable def bools?:List D->Option (List Bool)
 | []=>aA []
 | .bl x::r=>(bools? r).bind λt=>aA (x::t)
 |_=>aB
theorem JX:∀{ds:À D} {xs:À Bool} {vs:À V},bools? ds=aA xs->dJ K F ds vs->vs=xs.map V.bl
 | [],_,_,e,r=>by cases e;cases r;rfl
 |d::ds,_,_,e,r=>by
  obtain⟨_,_,rfl,h,t⟩:=r.consI;unfold bools? at e;split at e
  .rename_i a;cases a
  .rename_i x j a;cases a;refine L2.dN e λys f c=>?_;cases c;cases h;rw[JX f t];rfl
  .cases e
@[simp]def XZ:List D->Option SV
 | [.lst xs]=>(bools? xs).bind λbs=>aA<|.fz<|.bl<|bs.all id
 |_=>aB
theorem xB:Ox Z (h9 K) XZ:=by
 intro F H σ δ own vs ds sv Q s r e k;unfold XZ at e;split at e
 .refine L2.dN e λbs j h=>?_;cases h;obtain⟨_,rfl,h1⟩:=r.one;obtain⟨a,vs,rfl,c,f⟩:=h1.lst s.le;rw[JX j f]at c;exact⟨a,bs,rfl,c,k.fz s<|.bl _⟩
 .cases e
end
section
variable{X:Cx}{Z:dP X.K}{a b c:dz}{fa fb fc:FE}{pos:Pos}{tg:dz}
theorem Y4(B:PE X a<|liftE Z fa):PI X tg a<|liftI Z<|Y9 fa:=λdG s σ H R I h=>tO B dG s σ H R I (by
 obtain⟨F,δ,own,ds,δ',s,e,k⟩:=h;refine L2.dO e λrv δ1 K E=>?_;refine L2.dO E λd δ2 C l=>?_;refine⟨F,δ,own,rv,δ1,s,K,λv H1 P u n o y A=>?_⟩;obtain⟨L,j,w,z⟩:=y.settleR A;obtain⟨q,c,f,m,p⟩:=w.frzR z C;dsimp only at l;split at l
 .cases l;obtain⟨_,_,rfl,h,_,r⟩:=p.lstI;exact .inl ⟨_,rfl,⟨_,Yt m.le h⟩,k _ H1 q c n (o.trans<|j.trans f) m<|Dx h r⟩
 .cases l;obtain⟨_,_,rfl,h,r⟩:=p.tupI;exact .inr<|.inl ⟨_,rfl,⟨_,Ut m.le<|Iy h⟩,k _ H1 q c n (o.trans<|j.trans f) m<|iN (Iy h) r⟩
 .cases l;cases p with
  |str x=>exact .inr<|.inr ⟨_,rfl,k _ H1 q c n (o.trans<|j.trans f) m iZ⟩
 .cases l)
theorem Ao(j:PE X a<|liftE Z fa)(f:PE X b<|liftE Z fb)(c:‹Mc X a "split" ZA cpos b []›)
  :
  PE X (.Call (.Attribute a "split" ZA) [b] [] cpos) (liftE Z<|Md "str" Rt fa<|Zd fb Zh):=
 (Ow qc PySem.F.slot_str_split PySem.F.type_str_split mY j (Zg f Zw c.st) c).imp λ_ _ _ h=>YE o4 h
theorem Bi(j:PE X a<|liftE Z fa)(f:PE X b<|liftE Z fb)(c:‹Mc X a "partition" ZA cpos b []›)
  :
  PE X (.Call (.Attribute a "partition" ZA) [b] [] cpos) (liftE Z<|Md "str" Jf fa<|Zd fb Zh):=
 (Ow qc PySem.F.slot_str_partition PySem.F.type_str_partition nA j (Zg f Zw c.st) c).imp λ_ _ _ h=>YE iY h
theorem xA{p}(E:X.mg "all"=aB)(L:PE X a<|liftE Z fa)(r:‹X.calm=aC›)(K:‹Gl X "all"›)(n:‹Se X a []›)(l:‹Bk X pos []›):PE X (.Call (.Name "all" p) [a] [] pos)<|liftE Z<|Yh XZ<|Zd fa Zh:=
 Xj (by
  intro dG s σ H xs us Q I y h;obtain⟨p,bs,rfl,B,q⟩:=h;obtain⟨u,rfl,x⟩:=Jw y;cases x;obtain⟨dI,rv,j,hz⟩:=I.list B;have e:=JY rv;subst e;refine call_all_walk<|DE j.isList ?_;have m:p≠s.heap.objs.size:=λz=>by obtain⟨o,C,_⟩:=j.isList;have:=cn C;rw[z]at this;exact g6 _ this
  refine⟨s.heap.objs.size,_,_,_,_,_,λi=>(bs[i]?).getD aC,rfl,Walks.list (by first|exact I.ok.hd r| (rw[show X.A.in1.handled=X.A.handled from rfl];exact I.ok.hd r)) _ p m (bs.map nz).toArray,⟨⟨_,dn _ rfl,rfl,rfl⟩,j.isList.at λo e=>aw _ e⟩,?_,λh' tk F=>?_⟩
  .intro i v s' T g P hQ;have c:(bs.map nz)[i]? =aA v:=by simpa using P
   rw[c8]at c;cases f:bs[i]? with
   |none=>rw[f]at c;cases c
   |some b=>rw[f]at c;cases c;dsimp only at hQ;rw[f]at hQ;exact nv hQ
  .have e:(gz (bs.map nz).toArray.size).all (λi=>(bs[i]?).getD aC)=bs.all id:=by rw[c9,aj];exact Sb bs
   rw[e];refine⟨.bl _,H,I.kept (t':=tk) λb o f=>F b o (λz=>?_)<|aw _ f,rfl,q⟩;have w:b=s.heap.objs.size:=by simpa using z
   have:=cn f;rw[w]at this;exact g6 _ this) xB E boot_all (Zg L Zw n) K Γ Γ n l
end
end
def NP(K:ak):V->À V->Hp->VK->Prop:=λx xs H Q=>∃sep p ys,x= .str sep/\xs=[.ref p]/\(W3 K H p (ys.map V.str)\/Eu K H p (ys.map V.str))/\wb sep ys=aC/\Q (.str<|tf sep ys) H
theorem mX:MtR X "str.join"<|NP X.K:=by
 intro dG s σ H x xs v us Q I j m h;obtain⟨sep,p,ys,rfl,rfl,c,f,q⟩:=h;rcases c with c|c
 .exact p_ dG s σ H _ _ v us Q I j m ⟨sep,p,ys,rfl,rfl,c,f,q⟩
 .refine Wv λ_ r=>?_;obtain⟨t,rfl⟩:=j;obtain⟨u,rfl,w⟩:=Jw m;cases w;obtain⟨dI,rv,y,hz⟩:=I.tuple c;obtain⟨l,C,B⟩:=Xh rv;subst C B;have a:=f;unfold wb at a;rw[Bool.not_eq_true']at a;obtain⟨o,z,A,n,hd⟩:=(show s.heap.IsTuple p (EC l).toArray from y)
  apply r;exact j8 F.slot_str_join (qo _ _ _) F.entry_str_join (F.args_str_join_2 _ _) (meets_str_join_tuple sep t p l a) ⟨⟨o,n,z,A,hd⟩,post_join l ⟨joinFit_length a,λt' k=>⟨.str (tf sep (l.map (·.1))),H,I.tok _,⟨_,rfl⟩,q⟩⟩⟩
section
variable{K:ak}
@[simp]def Jo:List D->Option SV
 | [.str sep,.lst xs]=>(xu xs).bind λys=>if wb sep ys=aC then aA (.fz<|.str<|tf sep ys)else aB
 | [.str sep,.tup xs]=>(xu xs).bind λys=>if wb sep ys=aC then aA (.fz<|.str<|tf sep ys)else aB
 |_=>aB
theorem ow{Z:dP K}:K9 Z (NP K) Jo:=by
 intro F H σ δ own vs ds sv Q s r e k;unfold Jo at e;split at e
 .refine L2.dN e λys m f=>?_;split at f
  .rename_i c;cases f;obtain⟨_,_,rfl,h1,j⟩:=r.consI;obtain⟨_,rfl,h2⟩:=j.one;obtain⟨a,us,ex,h,l⟩:=h2.lst s.le;rw[Fx m l]at h;exact⟨_,_,rfl,_,a,ys,h1.str,by rw[ex],.inl h,c,k.fz s<|.str _⟩
  .cases f
 .refine L2.dN e λys m f=>?_;split at f
  .rename_i c;cases f;obtain⟨_,_,rfl,h1,j⟩:=r.consI;obtain⟨_,rfl,h2⟩:=j.one;obtain⟨a,us,ex,h,l⟩:=h2.tup s.le;rw[Fx m l]at h;exact⟨_,_,rfl,_,a,ys,h1.str,by rw[ex],.inr h,c,k.fz s<|.str _⟩
  .cases f
 .cases e
section
variable{X:Cx}{Z:dP X.K}{a b:dz}{fa fb:FE}
theorem Uh(j:PE X a<|liftE Z fa)(f:PE X b<|liftE Z fb)(c:‹Mc X a "join" ZA cpos b []›)
  :
  PE X (.Call (.Attribute a "join" ZA) [b] [] cpos) (liftE Z<|Md "str" Jo fa<|Zd fb Zh):=
 (Ow qc PySem.F.slot_str_join PySem.F.type_str_join mX j (Zg f Zw c.st) c).imp λ_ _ _ h=>YE ow h
end
end
def y_:R2:=λx y H Q=>∃a v,x= .ref a/\C2 H a y (aA v)/\Q v H
def YU:R2:=λy x H Q=>∃a o,x= .ref a/\C2 H a y o/\Q (.bl o.isSome) H
def Fz:R2:=λy x H Q=>∃a o,x= .ref a/\C2 H a y o/\Q (.bl<|!o.isSome) H
theorem Lf(j:X.A.units+1<jf):G5 X (i3 .In) YU:=by intro dG s σ H y x v u Q I c f h;obtain⟨a,o,rfl,g,q⟩:=h;cases f;exact gL j I g c λs' l=>⟨.bl o.isSome,H,l,rfl,q⟩
section
variable{K:ak}
@[simp]def D.key?:D->Option Key
 | .int i=>aA<|.inl i
 | .str x=>aA<|.inr x
 |_=>aB
@[simp]noncomputable def keys?:List D->Option (List Key)
 | []=>aA []
 |d::r=>d.key?.bind λk=>(keys? r).bind λt=>aA (k::t)
section
variable{κ:Type}[DecidableEq κ]
@[simp]noncomputable def Z5(ks:List κ)(vs:List D)(k:κ):Option D:=match ks,vs with
 |a::ks,v::vs=>if a=k then aA v else Z5 ks vs k
 |_,_=>aB
theorem Xn{F:Hp}(k:κ):∀(kvs:À (κ×V)) (ds:À D),dJ K F ds (kvs.map (·.2))->match Z5 (kvs.map (·.1)) ds k with
  |some d=>∃v,Jz kvs k=aA v/\dS K F d v
  |none=>Jz kvs k=aB
 | [],_,r=>by cases r;exact rfl
 |p::kvs,_,r=>by
  cases r with
  | @cons d v ds vs h t=>
   show match(if p.1=k then aA d else Z5 (kvs.map (·.1)) ds k)with
    |some d=>∃v,Jz (p::kvs) k=aA v/\dS K F d v
    |none=>Jz (p::kvs) k=aB
   by_cases e:p.1=k
   .rw[dZ e];exact⟨p.2,Rh e,h⟩
   .rw[dY e,Ci e];exact Xn k kvs ds t
@[simp]noncomputable def Y2(ks:À κ)(vs:À D)(k:κ)(v:D):À κ×À D:=
 if k∈ks then(ks,(ks.zip vs).map λp=>if p.1=k then v else p.2)else(ks++[k],vs++[v])
theorem dJ.length_map{α:Type}{kvs:À (α×V)}(r:dJ K F ds (kvs.map (·.2))):ds.length=kvs.length:=by rw[r.length,aj]
theorem LW(hd:dS K F d v):∀(kvs:À (κ×V)) ds,dJ K F ds (kvs.map (·.2))->
  dJ K F (((kvs.map (·.1)).zip ds).map λp=>if p.1=k then d else p.2) ((kvs.map λg=>if g.1=k then(g.1,v)else g).map (·.2))
 | [],_,r=>by cases r;exact .nil
 |p::kvs,_,r=>by
  cases r with
  | @cons d' v' ds vs h t=>
   have a:=LW (k:=k) hd kvs ds t;show dJ K F ((if p.1=k then d else d')::(((kvs.map (·.1)).zip ds).map λp=>if p.1=k then d else p.2)) ((if p.1=k then(p.1,v)else p).2::((kvs.map λg=>if g.1=k then(g.1,v)else g).map (·.2)));refine .cons ?_ a;by_cases e:p.1=k
   .rw[dZ e,dZ e];exact hd
   .rw[dY e,dY e];exact h
theorem LV(k)(kvs:À (κ×V)):(kvs.any λg=>decide (g.1=k))=aC↔k∈kvs.map (·.1):=by
 rw[EQ,av];constructor
 .rintro⟨p,h1,h2⟩;exact⟨p,h1,da h2⟩
 .rintro⟨p,h1,h2⟩;exact⟨p,h1,d_ h2⟩
theorem TF(hd:dS K F d v)(kvs:À (κ×V))(ds)(r:dJ K F ds (kvs.map (·.2))):
  (Qi kvs k v).map (·.1)=(Y2 (kvs.map (·.1)) ds k d).1/\dJ K F (Y2 (kvs.map (·.1)) ds k d).2 ((Qi kvs k v).map (·.2)):=by
 unfold Qi Y2;by_cases h:k∈kvs.map (·.1)
 .rw[dZ h,dZ<|(LV k kvs).mpr h];exact⟨(by
   rw[f7];refine kj λp _=>?_;show(if p.1=k then(p.1,v)else p).1=p.1;split<;> rfl),LW hd kvs ds r⟩
 .rw[dY h,dY λz=>h<|(LV k kvs).mp z,cb,cb];exact⟨rfl,r.snoc hd⟩
end
theorem E5(e:d.key? =aA k)(r:Yz K F H d y):y=kV k:=by
 cases d with
 |int i=>cases e;exact r.int
 |str x=>cases e;exact r.str
 |_=>cases e
theorem Ap:∀{ds:À D} {ks:À Key} {vs:À V},keys? ds=aA ks->dJ K F ds vs->vs=ks.map kV
 | [],_,_,e,r=>by cases e;cases r;rfl
 |d::ds,_,_,e,r=>by obtain⟨_,_,rfl,h,t⟩:=r.consI;refine L2.dN e λk j f=>?_;refine L2.dN f λt' c a=>?_;cases a;rw[(E5 (H:=F) j<|Yz.of h),Ap c t];rfl
theorem Yz.tupH(le:Zm F H)(h:Yz K F H (.tup xs) v):E2 λa vs=>A3 (v= .ref a) (H a=aA (.tup vs))<|dJ K F xs vs:=by
 obtain⟨sv,ns,e,n,f,j⟩:=h;cases f with
 |fz r=>cases e;cases r with|tup h r=>exact⟨_,_,rfl,le _ _ h,r⟩
 |ol r=>cases e
 |oK c r=>cases e
 |oT kb c r=>cases e
 |oN c r=>cases n
 |oR c r=>cases n
 |oL _ r=>cases n
 |oQ c r=>cases e
@[simp]def ZS:D->D->Option (Option D)
 | .dK ks vs,d=>d.key?.bind λk=>aA<|Z5 ks vs k
 | .dT ks vs,.tup xs=>(keys? xs).bind λk=>aA<|Z5 ks vs k
 |_,_=>aB
theorem Lg{F H:Hp}{r q:D}{x y:V}{o:Á D}(le:Zm F H)(e:ZS r q=aA o)(n:Yz K F H r x)(m:Yz K F H q y):
  ∃a,x= .ref a/\IsD H a/\match o with
   |some d=>∃v,C2 H a y (aA v)/\dS K F d v
   |none=>C2 H a y aB:=by
 unfold ZS at e;split at e
 .refine L2.dN e λk l j=>?_;obtain⟨a,kvs,rfl,c,rfl,h⟩:=n.dK le;refine⟨a,rfl,.inl ⟨kvs,c.rd⟩,?_⟩;rw[E5 l m];have z:=Xn k kvs _ h;have g:=C2.k (k:=k) c;rw[h8.inj j]at z;cases o with
  |none=>rw[show Jz kvs k=aB from z]at g;exact g
  |some d=>obtain⟨v,f,z2⟩:=z;rw[f]at g;exact⟨v,g,z2⟩
 .refine L2.dN e λk l j=>?_;obtain⟨a,kvs,rfl,c,rfl,h⟩:=n.dT le;obtain⟨b,vs,rfl,p,s⟩:=m.tupH le;refine⟨a,rfl,.inr ⟨kvs,c.rd⟩,?_⟩;rw[Ap l s]at p;have z:=Xn k kvs _ h;have g:=C2.t c p;rw[h8.inj j]at z;cases o with
  |none=>rw[show Jz kvs k=aB from z]at g;exact g
  |some d=>obtain⟨v,f,z2⟩:=z;rw[f]at g;exact⟨v,g,z2⟩
 .cases e
section
variable{Z:dP K}
@[simp]def UA(c a:D):Á SV:=(ZS c a).bind λo=>o.bind λd=>some<|.fz d
theorem tN:Wd Z y_ UA:=by intro F H σ δ own x y p n sv Q s f c e k;refine L2.dN e λo m l=>?_;refine L2.dN l λd j h=>?_;cases h;subst j;obtain⟨a,rfl,_,v,g,rv⟩:=Lg s.le m f c;exact⟨a,v,rfl,g,k.fz s rv⟩
@[simp]def RG(c a:D):Á SV:=(ZS a c).bind λo=>some<|.fz<|.bl o.isSome
@[simp]def LU(c a:D):Á SV:=(ZS a c).bind λo=>some<|.fz<|.bl<|!o.isSome
theorem sP:Wd Z YU RG:=by
 intro F H σ δ own x y m l sv Q s f c e k;refine L2.dN e λo j h=>?_;cases h;obtain⟨a,rfl,_,g⟩:=Lg s.le j c f;cases o with
 |none=>exact⟨a,aB,rfl,g,k.fz s<|.bl _⟩
 |some d=>obtain⟨v,g,_⟩:=g;exact⟨a,aA v,rfl,g,k.fz s<|.bl _⟩
theorem kX:Wd Z Fz LU:=by
 intro F H σ δ own x y m l sv Q s f c e k;refine L2.dN e λo j h=>?_;cases h;obtain⟨a,rfl,_,g⟩:=Lg s.le j c f;cases o with
 |none=>exact⟨a,aB,rfl,g,k.fz s<|.bl _⟩
 |some d=>obtain⟨v,g,_⟩:=g;exact⟨a,aA v,rfl,g,k.fz s<|.bl _⟩
@[simp]noncomputable def D.isD:D->Bool
 | .dK _ _=>aC| .dT _ _=>aC|_=>aE
@[simp]def Yn(a c:D):Option SV:=match a.isD with|true=>UA a c|false=>ixD a c
@[simp]def inX(c a:D):Option SV:=match a.isD with|true=>RG c a|false=>inD c a
@[simp]def TC(c a:D):Option SV:=match a.isD with|true=>LU c a|false=>TH c a
theorem kW(m:∀G i sv,g G i=aA sv->g1 G i=aA sv\/g2' G i=aA sv)(h:liftE Z (Zf g fa fb) σ H Q):liftE Z (Zf g1 fa fb) σ H Q\/liftE Z (Zf g2' fa fb) σ H Q:=by
 obtain⟨F,δ,own,rv,δ',s,e,k⟩:=h;refine L2.dO e λl δ1 j o=>?_;refine L2.dN o λds f n=>?_;refine L2.dN n λsv a c=>?_;have:(g2 g1) ds=aA sv\/(g2 g2') ds=aA sv:=by
  unfold g2 at a⊢;split at a
  .exact m _ _ _ a
  .cases a
 rcases this with z|z
 .exact .inl ⟨F,δ,own,rv,δ',s,gc.mpr ⟨_,j,gc.mpr ⟨_,f,gc.mpr ⟨_,z,c⟩⟩⟩,k⟩
 .exact .inr ⟨F,δ,own,rv,δ',s,gc.mpr ⟨_,j,gc.mpr ⟨_,f,gc.mpr ⟨_,z,c⟩⟩⟩,k⟩
theorem y7:Wd Z (λx y H Q=>(∃i j,x= .str i/\y= .str j/\Q (.bl<|!(fq j i 0 j.length 1).isEmpty) H)\/YU x y H Q) inX:=by
 intro F H σ δ own x y h f sv Q s c a e k;unfold inX at e;split at e
 .exact .inr (sP F H σ δ own x y h f sv Q s c a e k)
 .exact .inl (hZ F H σ δ own x y h f sv Q s c a e k)
theorem mW:Wd Z (λx y H Q=>(∃i j,x= .str i/\y= .str j/\Q (.bl<|!(!(fq j i 0 j.length 1).isEmpty)) H)\/Fz x y H Q) TC:=by
 intro F H σ δ own x y h f sv Q s c a e k;unfold TC at e;split at e
 .exact .inr (kX F H σ δ own x y h f sv Q s c a e k)
 .exact .inl (o_ F H σ δ own x y h f sv Q s c a e k)
end
section
variable{X:Cx}{Z:dP X.K}{a b c:dz}{fa fb fc:FE}{pos:Pos}
theorem Zn(j:X.A.units+1<jf)(f:PE X a<|liftE Z fa)(c:PE X b<|liftE Z fb)(hs:‹KL b›):PE X (.Subscript a b pos)<|liftE Z<|Zf Yn fa fb:=λdG s σ H Q I h=>by
 rcases kW (g1:=UA) (g2':=ixD) (λm l sv e=>by
  unfold Yn at e;split at e
  .exact .inl e
  .exact .inr e) h with h|h
 .exact oH j f c hs dG s σ H Q I (P5 tN h)
 .exact UG rN f c hs dG s σ H Q I (P5 ga h)
end
end
def NO:V->À V->Hp->VK->Prop:=λx xs H Q=>∃a,x= .ref a/\((∃y o,xs=[y]/\C2 H a y o/\Q (o.getD .non) H)\/(∃y z o,xs=[y,z]/\C2 H a y o/\Q (o.getD z) H))
theorem pV(m:X.A.units+1<jf):MtR X "dict.get" NO:=by
 intro dG s σ H x xs v us Q I n l h;obtain⟨a,rfl,h⟩:=h;cases n;rcases h with⟨y,o,rfl,g,q⟩|⟨y,z,o,rfl,g,q⟩
 .obtain⟨u,rfl,p⟩:=Jw l;exact sG m I g p λj s' f c=>⟨_,H,f,c,q⟩
 .obtain⟨u,j,rfl,w,r⟩:=UI l;exact sE m I g w r λj s' f c=>⟨_,H,f,c,q⟩
section
variable{K:ak}
section
variable{Z:dP K}{H:Hp}{σ:L2.St}{Q:VK}
@[simp]def Fa:FE:=λδ=>some (.tmp<|.oK [] [],δ)
@[simp]def P':FE:=λδ=>some (.tmp<|.oT [] [],δ)
@[simp]noncomputable def SV.isOD:Option (Option SV)->Bool
 |some (aA<|.oK _ _)=>aC
 |some (aA<|.oT _ _)=>aC
 |some (aA<|.oQ _ _ _)=>aC
 |_=>aE
@[simp]def RF(a d:D):Option (Option SV)->Option SV
 |some (aA<|.oK ks vs)=>a.key?.bind λk=>if vs.length<dg then aA (.oK (Y2 ks vs k d).1 (Y2 ks vs k d).2)else aB
 |some (aA<|.oT ks vs)=>match a with
  | .tup xs=>(keys? xs).bind λk=>if vs.length<dg then aA (.oT (Y2 ks vs k d).1 (Y2 ks vs k d).2)else aB
  |_=>aB
 |some (aA<|.oQ q ks vs)=>a.key?.bind λk=>if vs.length<dg then aA (.oQ q (Y2 ks vs k d).1 (Y2 ks vs k d).2)else aB
 |_=>aB
@[simp]def Cn(i:Nat)(c fv:FE):FS:=λδ=>(fv δ).bind λp=>(frz p.1 p.2).bind λq=>match SV.isOD (q.2[i]?)with|true=>(c q.2).bind λr=>(rdv r.1 r.2).bind λa=>(RF a q.1<|r.2[i]?).bind λsv=>some (.nx<|r.2.set i<|some sv)|false=>none
theorem mV(h:dQ K F (.oK ks ds) v ns):E3 λa kvs ep=>A4 (v= .ref a) (ns=[(a,.dK kvs ep)]) (kvs.map (·.1)=ks) (dJ K F ds (kvs.map (·.2))):=by
 cases h with
 |oK e r=>exact⟨_,_,_,rfl,rfl,e,r⟩
theorem JW(h:dQ K F (.oQ q ks ds) v ns):E2 λkvs ep=>A4 (v= .ref q) (ns=[(q,.dK kvs ep)]) (kvs.map (·.1)=ks) (dJ K F ds (kvs.map (·.2))):=by
 cases h with
 |oQ e r=>exact⟨_,_,rfl,rfl,e,r⟩
theorem mU(h:dQ K F (.oT ks ds) v ns):E4 λa kvs ep bs=>A5 (v= .ref a) (ns=[(a,.dT kvs ep bs)]) (KB F kvs bs) (kvs.map (·.1)=ks) (dJ K F ds (kvs.map (·.2))):=by
 cases h with
 |oT kb e r=>exact⟨_,_,_,_,rfl,rfl,kb,e,r⟩
theorem KB.put(h:KB F kvs bs)(f:F b=aA (.tup<|k.map kV)):KB F (Qi kvs k v)<|Dl kvs bs k b:=by
 unfold Qi Dl;split
 .unfold KB at*;rename_i a;clear a;induction h with
  |nil=>exact .nil
  | @cons p c ps cs h1 t ih=>
   rw[cg];refine .cons ?_ ih;by_cases e:p.1=k
   .rw[dZ e];exact h1
   .rw[dY e];exact h1
 .exact BE h f
theorem Yz.tupF(h:Yz K F H (.tup xs) v):E2 λa vs=>A3 (v= .ref a) (F a=aA (.tup vs))<|dJ K F xs vs:=by
 obtain⟨sv,ns,e,n,f,j⟩:=h;cases f with
 |fz r=>cases e;cases r with|tup h r=>exact⟨_,_,rfl,h,r⟩
 |ol r=>cases e
 |oK c r=>cases e
 |oT kb c r=>cases e
 |oN c r=>cases n
 |oR c r=>cases n
 |oL _ r=>cases n
 |oQ c r=>cases e
theorem pU(h:SV.isOD o=aC):∃sv,o=aA (aA sv):=by
 unfold SV.isOD at h;split at h
 .exact⟨_,rfl⟩
 .exact⟨_,rfl⟩
 .exact⟨_,rfl⟩
 .cases h
theorem y4(h:liftS Z (Cn i fk fv) E σ H):PV (Bb i) (liftE Z fk) (liftE Z fv) E σ H:=by
 obtain⟨F,δ,own,fl,s,e,k⟩:=h;refine L2.dO e λrv δ1 e1 e=>?_;refine L2.dO e λd δ2 e2 e=>?_;dsimp only at e;split at e
 .rename_i WY;refine L2.dO e λrk T e3 e=>?_;refine L2.dN e λkd e4 e=>?_;refine L2.dN e λsv r e=>?_;cases e;refine⟨F,δ,own,rv,δ1,s,e1,λv H1 F1 ZR B_ A' s1 r1=>?_⟩;refine Wv λ_ zk=>?_;obtain⟨F2,A2,s2,r2⟩:=s1.settleR r1;obtain⟨F3,I,Y,s3,r3⟩:=s2.frzR r2 e2;obtain⟨W,J⟩:=pU WY;obtain⟨x,B,_⟩:=s3.at' i W J;apply zk;refine⟨x,B,F3,δ2,I,rk,T,s3,e3,λy H4 F4 l BV G s4 r4=>?_⟩;obtain⟨U,g,j,r5⟩:=s4.settleR r4;have A:=j.rd r5 e4;have rd:dS K U d v:=r3.mono<|G.trans g;have sF:Zm F U:=A'.trans<|A2.trans<|Y.trans<|G.trans g;generalize P:T[i]? =o at r;unfold RF at r;split at r
  .rename_i ks vs;refine L2.dN r λc N m=>?_;split at m
   .rename_i hz;cases m;obtain⟨x',f,X⟩:=j.at' i _ P;rw[B]at f;cases f;obtain⟨a,kvs,n,R,O,rfl,u⟩:=mV X;subst R;have w:(a,HO.dK kvs n)∈l i:=by rw[O];exact ac
    have Q:=(j.ok i _ w).2.2;have z:=TF (k:=c) rd kvs vs u;refine⟨a,rfl,?_⟩;rw[E5 N A];refine Xc.k ⟨_,Q⟩ ς λep=>?_;exact k σ _ U _ sF (j.change (sv':=.oK (Y2 (kvs.map (·.1)) vs c d).1 (Y2 (kvs.map (·.1)) vs c d).2) (o':=.dK (Qi kvs c v) ep) (ns':=[(a,.dK (Qi kvs c v) ep)]) P B w (.oK z.1 z.2) (λp M=>.inl<|ao.mp M) Fs)
   .cases m
  .rename_i ks vs;split at r
   .rename_i xs;refine L2.dN r λc N m=>?_;split at m
    .rename_i hz;cases m;obtain⟨x',f,X⟩:=j.at' i _ P;rw[B]at f;cases f;obtain⟨a,kvs,n,L,R,O,kb,rfl,u⟩:=mU X;subst R;have w:(a,HO.dT kvs n L)∈l i:=by rw[O];exact ac
     have Q:=(j.ok i _ w).2.2;have z:=TF (k:=c) rd kvs vs u;obtain⟨b,us,rfl,C,rb⟩:=A.tupF;rw[Ap N rb]at C;refine⟨a,rfl,Xc.t ⟨_,_,Q⟩ (j.le _ _ C) ς λep yE fZ hq=>?_⟩;rw[Q]at hq;cases hq;exact k σ _ U _ sF (j.change (sv':=.oT (Y2 (kvs.map (·.1)) vs c d).1 (Y2 (kvs.map (·.1)) vs c d).2) (o':=.dT (Qi kvs c v) ep<|Dl kvs L c b) (ns':=[(a,.dT (Qi kvs c v) ep<|Dl kvs L c b)]) P B w (.oT (kb.put C) z.1 z.2) (λp M=>.inl<|ao.mp M) Fs)
    .cases m
   .cases r
  .rename_i q ks vs;refine L2.dN r λc N m=>?_;split at m
   .rename_i hz;cases m;obtain⟨x',f,X⟩:=j.at' i _ P;rw[B]at f;cases f;obtain⟨kvs,n,R,O,rfl,u⟩:=JW X;subst R;have w:(q,HO.dK kvs n)∈l i:=by rw[O];exact ac
    have Q:=(j.ok i _ w).2.2;have z:=TF (k:=c) rd kvs vs u;refine⟨q,rfl,?_⟩;rw[E5 N A];refine Xc.k ⟨_,Q⟩ ς λep=>?_;exact k σ _ U _ sF (j.change (sv':=.oQ q (Y2 (kvs.map (·.1)) vs c d).1 (Y2 (kvs.map (·.1)) vs c d).2) (o':=.dK (Qi kvs c v) ep) (ns':=[(q,.dK (Qi kvs c v) ep)]) P B w (.oQ z.1 z.2) (λp M=>.inl<|ao.mp M) Fs)
   .cases m
  .cases r
 .cases e
@[simp]def Pa(T:String)(g:D->List D->Option SV)(fo:FE)(fd:FD):FE:=λδ=>(fo δ).bind λp=>(rdv p.1 p.2).bind λc=>match ZU T c with|true=>(fd p.2).bind λq=>(rdv p.1 q.2).bind λa=>(g a q.1).bind λsv=>some (.tmp sv,q.2)|false=>none
def PB(Z:dP K)(r:V->À V->Hp->VK->Prop)(g:D->À D->Á SV):Prop:=
 ∀(F H:Hp) (σ:L2.St) (δ:Y5) (own:Nat->Zy) (x:V) (d:D) (vs:À V) (ds:À D) (sv:SV) (Q:VK),SR Z F H σ δ own->Yz K F H d x->dJ K F ds vs->g d ds=aA sv->B2 Z F H σ δ own sv Q->r x vs H Q
theorem y2(X:PB Z r g)(h:liftE Z (Pa T g fo fd) σ H Q):tBM K T r (liftE Z fo) (liftD Z fd) σ H Q:=by
 obtain⟨F,δ,own,rv,δ',s,e,k⟩:=h;refine L2.dO e λx δ1 M e=>?_;refine L2.dN e λU J e=>?_;dsimp only at e;split at e
 .rename_i P;refine L2.dO e λds δ2 I e=>?_;refine L2.dN e λN G e=>?_;refine L2.dN e λsv i e=>?_;cases e;refine⟨F,δ,own,x,δ1,s,M,λv H1 W m p w C L=>?_⟩;obtain⟨y,j,c,l⟩:=C.settleR L;refine⟨OE c.le (c.rd l J) P,y,δ1,m,ds,δ2,c,I,λvs H2 R a o f z E=>?_⟩;exact X R H2 σ δ2 a v N vs ds sv Q z (z.rd (l.mono f) G) E i λq O F4 ns n u B A=>
   k q O F4 a (p.trans<|o.trans n) (w.trans<|j.trans<|f.trans u) B ⟨ns,A⟩
 .cases e
@[simp]def Oz:D->List D->Option SV
 |d,[y]=>(ZS d y).bind λo=>aA<|.fz<|o.getD .non
 |d,[y,z]=>(ZS d y).bind λo=>aA<|.fz<|o.getD z
 |_,_=>aB
theorem pT:PB Z NO Oz:=by
 intro F H σ δ own x d vs ds sv Q s l j e k;unfold Oz at e;split at e
 .refine L2.dN e λo f c=>?_;cases c;obtain⟨_,rfl,h⟩:=j.one;obtain⟨a,rfl,_,g⟩:=Lg s.le f l<|Yz.of h;cases o with
  |none=>exact⟨a,rfl,.inl ⟨_,aB,rfl,g,k.fz s .non⟩⟩
  |some d=>obtain⟨v,g,rv⟩:=g;exact⟨a,rfl,.inl ⟨_,aA v,rfl,g,k.fz s rv⟩⟩
 .refine L2.dN e λo f c=>?_;cases c;obtain⟨_,_,rfl,h,t⟩:=j.consI;obtain⟨_,rfl,h2⟩:=t.one;obtain⟨a,rfl,_,g⟩:=Lg s.le f l<|Yz.of h;cases o with
  |none=>exact⟨a,rfl,.inr ⟨_,_,aB,rfl,g,k.fz s h2⟩⟩
  |some d=>obtain⟨v,g,rv⟩:=g;exact⟨a,rfl,.inr ⟨_,_,aA v,rfl,g,k.fz s rv⟩⟩
 .cases e
end
section
variable{X:Cx}{Z:dP X.K}{a b c:dz}{fa fb fc:FE}{pos:Pos}
theorem C5:PE X (.Dict [] [] pos)<|liftE Z Fa:=Dq.imp λσ H Q h=>by obtain⟨F,δ,own,rv,δ',s,e,k⟩:=h;cases e;intro p j;have f:B2 Z F H σ δ own (.oK [] []) Q:=λv H' F' ns a b c t=>k v H' F' own a b c ⟨ns,t⟩;exact f.one s (.oK (kvs:=[]) rfl .nil) j
theorem pS:PE X (.Dict [] [] pos)<|liftE Z P':=lK.imp λσ H Q h=>by obtain⟨F,δ,own,rv,δ',s,e,k⟩:=h;cases e;intro p j;have f:B2 Z F H σ δ own (.oT [] []) Q:=λv H' F' ns a b c t=>k v H' F' own a b c ⟨ns,t⟩;exact f.one s (.oT (kvs:=[]) .nil rfl .nil) j
theorem Ru(c:X.A.units+1<jf)(j:PE X a<|liftE Z fa)(f:PA X (b::es)<|liftD Z fd)(l:‹Mc X a "get" ZA cpos b es›)
  :
  PE X (.Call (.Attribute a "get" ZA) (b::es) [] cpos) (liftE Z<|Pa "dict" Oz fa fd):=
 (Ow za nq PySem.F.type_dict_get (pV c) j f l).imp λ_ _ _ h=>y2 pT h
theorem Co(i){px p1}(f:X.A.units+1<jf)(j:PE X b<|liftE Z fb)(c:PE X a<|liftE Z fa)(l:‹Vr X i x›)(hs:‹i6 a (aA<|.Subscript (.Name x px) b p1) pos.line X.e=jh aE›):
  PS X (.Assign [.Subscript (.Name x px) b p1] a pos) (liftS Z<|Cn i fb fa):=(oG f (Jy (i:=i) l) j c hs).imp λ_ _ _ h=>y4 h
end
end
def UE:Option Key->am->Bool
 |none,.none=>aC
 |none,_=>aE
 |some k,v=>Rb k v
theorem Wj(h:UE k v=aC):(k=aB/\v= .none)\/∃j,k=aA j/\Rb j v=aC:=by
 cases k with
 |none=>cases v<;> first|exact .inl ⟨rfl,rfl⟩|cases h
 |some j=>exact .inr ⟨j,rfl,h⟩
theorem Lh(h:Rb j .none=aC):False:=by rcases Yv h with⟨i,t,_,e⟩|⟨x,t,_,e⟩<;> cases e
def Xo(prog:eg)(w:gq):GF prog w (Á Key)where
 is:=UE
 hash:=λ|none=>0xFCA86420|some k=>(Yr prog w).hash k
 inj:=λv a b m l=>by
  rcases Wj m with⟨rfl,rfl⟩|⟨i,rfl,c⟩
  .rcases Wj l with⟨rfl,_⟩|⟨j,rfl,f⟩
   .rfl
   .exact(Lh f).elim
  .rcases Wj l with⟨rfl,rfl⟩|⟨j,rfl,f⟩
   .exact(Lh c).elim
   .rw[(Yr prog w).inj v i j c f]
 byValue:=λk v h=>by
  rcases Wj h with⟨rfl,rfl⟩|⟨i,rfl,c⟩
  .rfl
  .exact(Yr prog w).byValue i v c
 pyHash:=fun{A E s k v Q} hv h=>by
  rcases Wj hv with⟨rfl,rfl⟩|⟨i,rfl,c⟩
  .have n:s.TypeIs .none "NoneType":=rfl;refine PySem.W.pyHash_slot (v:=.none) (Q:=Q) n F.slot_NoneType_hash F.entry_NoneType_hash (F.args_NoneType_hash_1 _) rfl (.inl rfl) ?_;show de (dw prog w) A.in1 (mkInt 0xFCA86420 >>=λv=>ret v) _ E s;refine af<|wpAny_mkInt ?_;exact ay ⟨_,_,rfl,h⟩
  .exact(Yr prog w).pyHash c h
 eqBool:=fun{A E s a b u v Q} hu hv h=>by
  rcases Wj hu with⟨rfl,rfl⟩|⟨i,rfl,c⟩
  .rcases Wj hv with⟨rfl,rfl⟩|⟨j,rfl,f⟩
   .exact u5 _ _ _ _ _ η
   .rw[d0<|λz=>nomatch z]at h;rcases Yv f with⟨i,t,rfl,rfl⟩|⟨x,t,rfl,rfl⟩
    .exact BO i t _ _ _ _ h
    .exact BN x t _ _ _ _ h
  .rcases Wj hv with⟨rfl,rfl⟩|⟨j,rfl,f⟩
   .rw[d0<|λz=>nomatch z]at h;rcases Yv c with⟨i,t,rfl,rfl⟩|⟨x,t,rfl,rfl⟩
    .exact BP i t _ _ _ _ h
    .exact BL x t _ _ _ _ h
   .refine(Yr prog w).eqBool c f ?_;have e:decide (aA i=aA j)=decide (i=j):=Δ
    rw[<-e];exact h
 «strs»:=λk x t v h=>by
  rcases Wj h with⟨rfl,e⟩|⟨i,rfl,c⟩
  .cases e
  .exact(Yr prog w).strs i x t v c
theorem LS{h:ie}(d:h.DictOf (Yr P w) a vs):h.MapOf (Xo P w) a (λ|none=>aB|some k=>vo vs k):=by
 obtain⟨o,es,ep,m,n,hd,l,hf⟩:=d.mapOf;refine⟨o,es,ep,m,n,hd,λe c=>?_,λk=>?_⟩
 .obtain⟨k,h1,h2⟩:=l e c;exact⟨aA k,h1,h2⟩
 .cases k with
  |some k=>exact hf k
  |none=>
   show(es.find? λe=>UE aB e.key).map (·.val)=aB;rw[Array.find?_eq_none.mpr λe c z=>?_]
   .rfl
   .obtain⟨k,h1,_⟩:=l e c;rcases Wj z with⟨_,f⟩|⟨j,f,_⟩
    .rw[f]at h1;exact Lh h1
    .cases f
def Li(c:Bool):R2:=λy x H Q=>∃a kvs,y= .non/\x= .ref a/\RdK H a kvs/\Q (.bl c) H
theorem Sf:G5 X (i3 .In)<|Li aE:=by intro dG s σ H y x v u Q I c f h;obtain⟨a,kvs,rfl,rfl,e,q⟩:=h;cases c;cases f;obtain⟨z,hd,vs,j,dd⟩:=Mt I.hok e;exact HC (knd:=Xo X.p X.w) (k:=aB) rfl hd (LS dd) ⟨.bl aE,H,I.tok _,rfl,q⟩
def Xp(es:Array ou)(kvs:À (Str×am)):Prop:=es.size=kvs.length/\∀(i:Nat) (p:Str×am),kvs[i]? =aA p->∃e t,es[i]? =aA e/\e.key= .str p.1 t/\e.val=p.2
def Aq(h:ie)(a:aq)(kvs:À (Str×am)):Prop:=∃o es ep,h.get? a=aA o/\o.ExactDict/\o.data= .dict es ep/\Xp es kvs
noncomputable def place(kvs:À (Str×am))(x:Str):Á Nat:=kvs.findIdx? λp=>decide (p.1=x)
theorem Xp.find(h:Xp es kvs)(x):(es.findIdx? λe=>e.key.isStr x)=place kvs x:=by
 have n:(es.findIdx? λe=>e.key.isStr x)=es.toList.findIdx? λe=>e.key.isStr x:=by obtain⟨l⟩:=es;simp
 rw[n];have:∀(es:À ou) (kvs:À (Str×am)),es.length=kvs.length->(∀(i:Nat) (p:Str×am),kvs[i]? =aA p->∃e t,es[i]? =aA e/\e.key= .str p.1 t/\e.val=p.2)->
   es.findIdx? (λe=>e.key.isStr x)=kvs.findIdx? λp=>decide (p.1=x):=by
  intro es;induction es with
  |nil=>intro kvs c _;cases kvs with
   |nil=>rfl
   |cons p r=>cases c
  |cons e es f=>
   intro kvs c a;cases kvs with
   |nil=>cases c
   |cons p r=>
    obtain⟨o,t,h1,h2,s⟩:=a 0 p rfl;obtain rfl:e=o:=by simpa using h1
    have m:e.key.isStr x=decide (p.1=x):=by
     rw[h2];show(p.1==x)=_;by_cases z:p.1=x
     .rw[z];simp
     .rw[d0 z];exact beq_eq_false_iff_ne.mpr z
    rw[lj,lj,m,f r μ<|λi q j=>a (i+1) q<|by simpa using j]
 exact this es.toList kvs (by rw[kn];exact h.1) (λi p a=>by
  obtain⟨e,t,h1,h2⟩:=h.2 i p a;exact⟨e,t,by rw[lr];exact h1,h2⟩)
theorem kU(h:s.heap.get? d=aA o)(hd:o.data= .dict es ep)(c:Xp es kvs)(q:Q (place kvs x) s):
  de (dw prog w) A (dictFind d (.str x t) n) Q E s:=by
 have a:(es.all λe=>isExactStrKey e.key)=aC:=by
  rw[Array.all_eq_true];intro i r;have p:i<kvs.length:=by rw[<-c.1];exact r
  obtain⟨e,t',h1,h2,_⟩:=c.2 i kvs[i] (by simp[p]);rw[Array.getElem?_eq_getElem r]at h1;cases h1;rw[h2];rfl
 try with_reducible refine j6 ?_
 refine af<|j7 h hd ?_;dsimp only;rw[dZ a];unfold foundByValue;rw[c.find x];cases m:place kvs x with
 |none=>rw[m]at q;exact ay q
 |some j=>rw[m]at q;obtain⟨l,u,_⟩:=wc.mp m;obtain⟨e,t',h1,h2,v⟩:=c.2 j kvs[j] (by simp[l]);have f:kvs[j].1=x:=da u;rw[f]at h2;dsimp only;rw[h1];dsimp only;refine af<|ng h hd ?_;rw[h2];refine af<|CM x t' x t prog w _ _ ?_;refine af<|ng h hd ?_;rw[dY Δ];simp only[beq_self_eq_true,if_true];exact af<|uw<|ay q
inductive SHits(A:fj)(s:au)(kb:List<|Str×am):List (Str×am)->Bool->Prop where
 |nil:SHits A s kb [] aC
 |miss {k:Str} {v:am} {r:List (Str×am)}:place kb k=aB->SHits A s kb ((k,v)::r) aE
 |hit {k:Str} {v:am} {r:List (Str×am)} {j:Nat} {p:Str×am} {e b:Bool}:place kb k=aA j->kb[j]? =aA p->n8 A s v p.2 e->SHits A s kb r b->SHits A s kb ((k,v)::r) (e&&b)
theorem Lj(M:(a==i7)=aE)(J:(b==i7)=aE)(U:Aq s.heap a ka)(R:Aq s.heap b kb)(B:ka.length=kb.length->SHits A s kb ka r)(q:Q (ka.length==kb.length&&r) s):de (dw prog w) A (AO nm a b) Q E s:=by
 obtain⟨Y,es,ep,F,_,c,X⟩:=U;obtain⟨W,T,O,P,_,m,H⟩:=R;have K:=X.1;have g:=H.1;unfold AO va;rw[dY (by rw[M];exact df),dY (by rw[J];exact df)];refine af<|ay<|af<|ay<|af<|j7 F c ?_;refine af<|j7 P m ?_;by_cases hz:es.size=T.size
 .have L:ka.length=kb.length:=Θ
  have C:Q r s:=by simpa[L]using q
  have I:=B L;rw[dY (by rw[hz];simp)];refine af<|ng F c<|af ?_;rw[Std.Legacy.Range.forIn_eq_forIn_range'];refine DZ _ (λh x s'=>s'=s/\x=(aB,())/\∃i,h=xc i (es.size- i)/\i<=es.size/\SHits A s kb (ka.drop i) r) _ ?_ ?_ _ _ ⟨rfl,rfl,0,Δ,gr _,I⟩
  .rintro x h y s' ⟨rfl,rfl,i,l,G,n⟩;have o:i<es.size:=by
    rcases oj i es.size with z|z
    .exact z
    .rw[AU z]at l;cases l
   rw[sy o,wz]at l;injection l with hx hrest;subst hx;have u:x<ka.length:=by clear hz L;lia
   obtain⟨e,t,h1,h2,Z⟩:=X.2 x ka[x] (by simp[u]);rw[ic u]at n;refine af<|j7 F c ?_;rw[h1];show de _ _ (AA [e.key,e.val] _ >>=_) _ _ _;rw[h2];refine af<|j6<|af<|kU P m H ?_;generalize hk:ka[x]=p at n h2 Z⊢;obtain⟨k,v⟩:=p;cases n with
   |miss hn=>rw[hn];refine ay ?_;show de _ _ (if(!aE)=aC then _ else _) _ _ _;rw[dZ Γ];exact ay<|ay C
   | @hit _ _ _ j p' eb bb hn hp he hr'=>
    rw[hn];obtain⟨f,t',g1,g2,N⟩:=H.2 j p' hp;refine af<|j7 P m ?_;rw[g1];rw[show e.val=v from Z];dsimp only;rw[N];refine j6<|he prog w _ _ ?_;cases eb with
    |false=>rw[vn]at C;show de _ _ (if(!aE)=aC then _ else _) _ _ _;rw[dZ Γ];exact ay<|ay C
    |true=>show de _ _ (if(!aC)=aC then _ else _) _ _ _;rw[dY Γ];refine af<|ng F c ?_;rw[dY Δ];exact ay ⟨rfl,rfl,x+1,hrest,o,by rw[Bool.true_and];exact hr'⟩
  .rintro x s' ⟨rfl,rfl,i,l,G,n⟩;have e:i=es.size:=by
    rcases oj i es.size with z|z
    .rw[sy z,wz]at l;cases l
    ·(clear hz K;lia)
   rw[e,K,w8]at n;cases n;exact ay C
 .rw[dZ<|by simpa using hz];have hf:(ka.length==kb.length)=aE:=by rw[<-K,<-g];simpa using hz
  rw[hf,vn]at q;exact af<|uw<|ay q
section
variable{s:au}{a b:aq}{ka kb:À (Str×am)}
theorem Aq.typeIs(d:Aq s.heap a ka):s.TypeIs (.ref a) "dict":=let⟨o,_,_,c,f,_⟩:=d;⟨o,c,f.1⟩
theorem JV(m:(a==i7)=aE)(l:(b==i7)=aE)(f:Aq s.heap a ka)(h:Aq s.heap b kb)(j:A.units<jf)(c:ka.length=kb.length->SHits A.in1 s kb ka r):CK A s (.ref a) (.ref b)<|ka.length==kb.length&&r:=λprog w E Q q=>by refine xp (op:=.Eq) f.typeIs h.typeIs BD (jt BD f.typeIs PySem.F.entry_dict_eq ?_<|PySem.F.args_dict_eq_2 _ _) j;show de _ _ (oy "__eq__" ⟨[.ref a,.ref b],[]⟩>>=_) _ _ s;refine af ?_;unfold oy;refine af<|nj f.typeIs ?_;show de _ _ (jh (g0 a,g0 b)) _ _ s;refine ay<|af<|uj (T:="dict") h.typeIs AT ?_;simp only[GJ,j5,if_false];refine af<|ay<|af<|ay<|af<|Lj m l f h c ?_;exact ay ⟨_,rfl,(λx=>nomatch x),by simpa using q⟩
theorem Lk(m:(a==i7)=aE)(l:(b==i7)=aE)(f:Aq s.heap a ka)(h:Aq s.heap b kb)(j:A.units<jf)(c:ka.length=kb.length->SHits A.in1 s kb ka r):AD A s (.ref a) (.ref b)<|!(ka.length==kb.length&&r):=λprog w E Q q=>by refine xp (op:=.NotEq) f.typeIs h.typeIs BC (jt BC f.typeIs PySem.F.entry_dict_ne ?_<|PySem.F.args_dict_ne_2 _ _) j;show de _ _ (oy "__ne__" ⟨[.ref a,.ref b],[]⟩>>=_) _ _ s;refine af ?_;unfold oy;refine af<|nj f.typeIs ?_;show de _ _ (jh (g0 a,g0 b)) _ _ s;refine ay<|af<|uj (T:="dict") h.typeIs AT ?_;simp only[GJ,j5,if_false];refine af<|ay<|af<|ay<|af<|Lj m l f h c ?_;exact ay ⟨_,rfl,(λx=>nomatch x),by simpa using q⟩
end
section
variable{K:ak}
@[simp]noncomputable def strK?:List Key->Option (List Str)
 | []=>aA []
 | .inr x::r=>(strK? r).bind λt=>aA (x::t)
 |_=>aB
@[simp]def Xq(f:D->D->Option Bool)(ys:List Str)(us:List D):List Str->List D->Option Bool
 |x::xs,v::vs=>match Z5 ys us x with
  |none=>aA aE
  |some u=>(f v u).bind λb=>(Xq f ys us xs vs).bind λc=>aA<|b&&c
 |_,_=>aA aC
@[simp]def Ar(f:D->D->Option Bool):D->D->Option Bool
 | .dK ks vs,.dK ks' Z_=>(strK? ks).bind λxs=>(strK? ks').bind λys=>if xs.length=ys.length then Xq f ys Z_ xs vs else aA aE
 |d1,d2=>Rs f d1 d2
@[simp]def Tz:Nat->D->D->Option Bool
 |0=>λ_ _=>aB
 |n+1=>Ar<|Tz n
theorem LR:∀{es:À ou} {kvs:À (Key×am)} {xs:À Str},Pairs (Yr P w) es kvs->strK? (kvs.map (·.1))=aA xs->
  ∃g:À (Str×am),g.map (·.1)=xs/\g.map (·.2)=kvs.map (·.2)/\es.length=g.length/\∀(i:Nat) p,g[i]? =aA p->∃e t,es[i]? =aA e/\e.key= .str p.1 t/\e.val=p.2
 |_,_,_,.nil,e=>by cases e;exact⟨[],rfl,rfl,rfl,λi p h=>by simp at h⟩
 |_,_,_,@Pairs.cons _ _ _ _ _ en kv es kvs hi hv t,e=>by
  obtain⟨k,v⟩:=kv;cases k with
  |inl i=>cases e
  |inr x=>
   refine Wv λ_ f=>?_;refine L2.dN e λxs q o=>?_;cases o;obtain⟨g,h1,h2,m,l⟩:=LR t q;apply f;refine⟨(x,v)::g,by rw[cg,h1],by rw[cg,cg,h2],by rw[ca,ca,m],λi p c=>?_⟩;cases i with
   |zero=>
    obtain rfl:(x,v)=p:=by simpa using c
    rcases Yv (show Rb (.inr x) en.key=aC from hi)with⟨j,t',a,_⟩|⟨y,t',a,n⟩
    .cases a
    .cases a;exact⟨en,t',rfl,n,hv⟩
   |succ i=>exact l i p μ
theorem pR{vs:À (Key×am)}(h:KV kvs vs):vs.map (·.1)=kvs.map (·.1)/\Yg (kvs.map (·.2)) (vs.map (·.2)):=by
 induction h with
 |nil=>exact⟨rfl,.nil⟩
 |cons h _ a=>exact⟨by rw[cg,cg,h.1,a.1],.cons h.2 a.2⟩
section
variable{X:Cx}{dG:À (aq×Obj)}{σ:L2.St}{F H:Hp}{s:au}
theorem Ll(I:dL X dG σ H s)(r:HK H a kvs)(e:strK? (kvs.map (·.1))=aA xs):
  (a==i7)=aE/\∃g,Aq s.heap a g/\g.map (·.1)=xs/\Yg (kvs.map (·.2)) (g.map (·.2))/\(kvs.map (·.1)).Nodup:=by
 refine Wv λ_ j=>?_;obtain⟨z,hd,vs,c,dd⟩:=Dp I.hok r;obtain⟨k1,k2⟩:=pR c;obtain⟨o,es,ep,n,q,h,_,m,l⟩:=dd;rw[<-k1]at e;obtain⟨g,h1,h2,v,u⟩:=LR m e;apply j;refine⟨hd,g,⟨o,es,ep,n,q,h,by rw[<-v];simp,λi p f=>?_⟩,h1,by rw[h2];exact k2,by rw[<-k1];exact l⟩;obtain⟨w,t,g1,g2⟩:=u i p f;exact⟨w,t,by rw[<-lr];exact g1,g2⟩
theorem Tf(x:Str):∀(a:À (Str×am)) (us:À D) (l:À V),dJ X.K F us l->Yg l (a.map (·.2))->match Z5 (a.map (·.1)) us x with
  |none=>place a x=aB
  |some u=>∃j p U,place a x=aA j/\a[j]? =aA p/\dS X.K F u U/\Z9 U p.2
 | [],_,_,r,v=>by cases v;cases r;rfl
 |p::a,_,_,r,v=>by
  cases v with
  | @cons U u' l us' hU tU=>
  cases r with
  | @cons d v' ds Z_ h t=>
   have c:=Tf x a ds l t tU;show match(if p.1=x then aA d else Z5 (a.map (·.1)) ds x)with
    |none=>place (p::a) x=aB
    |some u=>∃j q U,place (p::a) x=aA j/\(p::a)[j]? =aA q/\dS X.K F u U/\Z9 U q.2
   have f:place (p::a) x=if p.1=x then aA 0 else(place a x).map (· +1):=by unfold place;rw[lj];by_cases e:p.1=x<;> simp[e]
   by_cases e:p.1=x
   .rw[dZ e,f,dZ e];exact⟨0,p,U,rfl,rfl,h,hU⟩
   .rw[dY e,f,dY e];cases m:Z5 (a.map (·.1)) ds x with
    |none=>rw[m]at c;dsimp only at c⊢;rw[c];rfl
    |some u=>rw[m]at c;refine Wv λ_ n=>?_;obtain⟨j,q,w,h1,h2,s,o⟩:=c;apply n;exact⟨j+1,q,w,by rw[h1];rfl,by simpa using h2,s,o⟩
theorem LQ(n:∀I G b x y v u,dS X.K F I x->Z9 x v->dS X.K F G y->Z9 y u->f I G=aA b->n8 A s v u b)(m:dJ X.K F us Us)(l:Yg Us (skv2.map (·.2))):
  ∀g vs i r,dJ X.K F vs i->Yg i (g.map (·.2))->Xq f (skv2.map (·.1)) us (g.map (·.1)) vs=aA r->SHits A s skv2 g r
 | [],_,_,_,r,v,e=>by cases v;cases r;cases e;exact .nil
 |p::g,_,_,_,r,v,e=>by
  obtain⟨k,w⟩:=p;cases v with
  | @cons V0 u' i us' hV tV=>
  cases r with
  | @cons d v' ds Z_ h t=>
   have a:=Tf (X:=X) (F:=F) k skv2 us Us m l;have e:(match Z5 (skv2.map (·.1)) us k with
    |none=>aA aE
    |some u=>(f d u).bind λb=>(Xq f (skv2.map (·.1)) us (g.map (·.1)) ds).bind λc=>aA<|b&&c)=aA _:=e
   cases o:Z5 (skv2.map (·.1)) us k with
   |none=>rw[o]at a e;cases e;exact .miss a
   |some u=>rw[o]at a e;obtain⟨j,q,U,h1,h2,B,z⟩:=a;refine L2.dN e λb L H=>?_;refine L2.dN H λc E C=>?_;cases C;exact .hit h1 h2 (n _ _ _ _ _ _ _ h hV B z L)<|LQ n m l g ds i c t tV E
end
end
section
variable{K:ak}
theorem Sg:∀g,(g.map (·.1)).Nodup->∀q∈g,∃j,place g q.1=aA j/\g[j]? =aA q
 | [],_,_,h=>nomatch h
 |p::r,nd,q,h=>by
  obtain⟨l,f⟩:=fm.mp nd;have a:place (p::r) q.1=if p.1=q.1 then aA 0 else(place r q.1).map (· +1):=by unfold place;rw[lj];by_cases e:p.1=q.1<;> simp[e]
  rcases az.mp h with e|e
  .subst e;exact⟨0,by rw[a,dZ rfl],rfl⟩
  .obtain⟨j,h1,h2⟩:=Sg r f q e;have c:¬p.1=q.1:=λz=>l<|av.mpr ⟨q,e,z.symm⟩;exact⟨j+1,by rw[a,dY c,h1];rfl,by simpa using h2⟩
theorem JU:∀{ks:À Key} {xs:À Str},strK? ks=aA xs->ks=xs.map Sum.inr
 | [],_,e=>by cases e;rfl
 | .inr x::ks,_,e=>by refine L2.dN e λt c a=>?_;cases a;rw[JU c];rfl
 | .inl i::ks,_,e=>by cases e
theorem iS(e:strK? ks=aA xs)(a:ks.Nodup):xs.Nodup:=by rw[JU e]at a;have z:(xs.map Sum.inr:À Key).Pairwise (· ≠ ·):=a;rw[List.pairwise_map]at z;exact z.imp λh e=>h (by rw[e])
section
variable{X:Cx}{dG:À (aq×Obj)}{σ:L2.St}{F H:Hp}{s:au}
theorem Si(z:∀i g b x y v,dS X.K F i x->Z9 x v->dS X.K F g y->Z9 y v->f i g=aA b->b=aC)(s:dJ X.K F us Us)(o:Yg Us (skv.map (·.2))):
  ∀(a:À (Str×am)) vs Vs r,(∀q∈a,∃j,place skv q.1=aA j/\skv[j]? =aA q)->dJ X.K F vs Vs->Yg Vs (a.map (·.2))->Xq f (skv.map (·.1)) us (a.map (·.1)) vs=aA r->r=aC
 | [],_,_,_,_,r,v,e=>by cases v;cases r;cases e;rfl
 |p::a,_,_,_,hs,r,v,e=>by
  obtain⟨k,w⟩:=p;cases v with
  | @cons V0 u' Vs us' hV tV=>
  cases r with
  | @cons d v' ds Z_ h t=>
   have l:=Tf (X:=X) (F:=F) k skv us Us s o;obtain⟨j,m,n⟩:=hs (k,w) ac;have e:(match Z5 (skv.map (·.1)) us k with
    |none=>aA aE
    |some u=>(f d u).bind λb=>(Xq f (skv.map (·.1)) us (a.map (·.1)) ds).bind λc=>aA<|b&&c)=aA _:=e
   cases A:Z5 (skv.map (·.1)) us k with
   |none=>rw[A]at l;rw[show place skv k=aA j from m]at l;cases l
   |some u=>rw[A]at l e;obtain⟨T,q,U,h1,h2,E,C⟩:=l;rw[show place skv k=aA j from m]at h1;cases h1;rw[n]at h2;cases h2;refine L2.dN e λb Q P=>?_;refine L2.dN P λc L H=>?_;cases H;rw[z _ _ _ _ _ _ h hV E C Q,Si z s o a ds Vs c (λq B=>hs q<|ag _ B) t tV L];rfl
theorem Lm(I:dL X dG σ H s)(le:Zm F H):∀n i g b x y v,dS X.K F i x->Z9 x v->dS X.K F g y->Z9 y v->Tz n i g=aA b->b=aC
 |0,_,_,_,_,_,_,_,_,_,_,e=>by cases e
 |n+1,i,g,b,x,y,v,r1,v1,r2,v2,e=>by
  unfold Tz Ar at e;split at e
  .cases r1 with
   | @dK a ks ds kvs yE h1 e1 WP=>
   cases r2 with
   | @dK a' ks' ds' kvs' ep2 h2 e2 WO=>
   cases v1;cases(show g0 a=g0 a' from v2);rw[h1]at h2;cases h2;subst e1 e2;refine L2.dN e λxs h e=>?_;refine L2.dN e λys l e=>?_;rw[h]at l;cases l;rw[dZ rfl]at e;obtain⟨_,c,_,o,j,m⟩:=Ll I ⟨_,le _ _ h1⟩ h;have f:=iS h m;rw[<-o]at e f;exact Si (Lm I le n) WO j c _ _ b (Sg c f) WP j e
  .exact P9 I le (Lm I le n) i g b x y v r1 v1 r2 v2 e
theorem rcM(I:dL X dG σ H s)(le:Zm F H)(U:∀i g b x y v u,dS X.K F i x->Z9 x v->dS X.K F g y->Z9 y u->f i g=aA b->n8 A.in1 s v u b)(N:Yz X.K F H i x)(J:Z9 x v)(M:Yz X.K F H g y)(G:Z9 y u)(e:Ar f i g=aA b)(o:A.units<jf)(Y:Y7 x=aE\/Y7 y=aE):(E2 λa c=>v= .ref a/\u= .ref c)/\CK A s v u b/\AD A s v u (!b):=by
 unfold Ar at e;split at e
 .refine Wv λ_ W=>?_;obtain⟨a1,R,rfl,Z,rfl,C⟩:=N.dK le;obtain⟨a2,O,rfl,T,rfl,B⟩:=M.dK le;cases J;cases G;refine L2.dN e λxs f1 e=>?_;refine L2.dN e λys f2 e=>?_;obtain⟨w,h,n,q,L,_⟩:=Ll I Z f1;obtain⟨r,j,m,p,E,_⟩:=Ll I T f2;apply W;have l1:h.length=xs.length:=by rw[<-q,aj]
  have l2:j.length=ys.length:=by rw[<-p,aj]
  refine⟨⟨_,_,rfl,rfl⟩,?_⟩;split at e
  .rename_i P;rw[<-q,<-p]at e;have l:h.length=j.length->SHits A.in1 s j h b:=λ_=>LQ U B E h _ _ b C L e;have Q:b=(h.length==j.length&&b):=by rw[l1,l2,P];simp
   rw[Q];exact⟨JV w r n m o l,Lk w r n m o l⟩
  .rename_i P;cases e;have l:h.length=j.length->SHits A.in1 s j h aE:=λz=>dt Θ P;have Q:aE=(h.length==j.length&&aE):=Δ
   rw[Q];exact⟨JV w r n m o l,Lk w r n m o l⟩
 .exact rcN I le U N J M G e o Y
theorem Tl(I:dL X dG σ H s)(le:Zm F H):∀n A i g b x y v u,A.units+n<jf->dS X.K F i x->Z9 x v->dS X.K F g y->Z9 y u->Tz n i g=aA b->n8 A s v u b
 |0,_,_,_,_,_,_,_,_,_,_,_,_,_,e=>by cases e
 |n+1,A,i,g,b,x,y,v,u,hu,r1,v1,r2,v2,e=>by
  by_cases hf:Y7 x=aC/\Y7 y=aC
  .have w:eqS i g=aA b:=by
    unfold Tz Ar at e;split at e
    .cases r1;cases hf.1
    .unfold Rs at e;split at e
     .cases r1;cases hf.1
     .cases r1;cases hf.1
     .cases r1;cases hf.1
     .cases r1;cases hf.1
     .exact e
   obtain⟨r,q,rfl⟩:=An (H:=H) w (Yz.of r1)<|Yz.of r2;exact TV v1 v2 r q
  .have j:Y7 x=aE\/Y7 y=aE:=by
    cases h1:Y7 x with
    |false=>exact .inl rfl
    |true=>cases h2:Y7 y with
     |false=>exact .inr rfl
     |true=>exact dt ⟨h1,h2⟩ hf
   obtain⟨⟨a,c,rfl,rfl⟩,h1,_⟩:=rcM I le (A:=A) (f:=Tz n) (λi g b x y v u p m o l e=>Tl I le n A.in1 i g b x y v u (by have:A.in1.units=A.units+1:=rfl;lia) p m o l e) (Yz.of r1) v1 (Yz.of r2) v2 e Θ j;by_cases h:a=c
   .subst h;rw[Lm I le (n+1) i g b x y _ r1 v1 r2 v2 e];exact u5 _
   .exact CO h h1
def VN(K:ak)(a:Bool):R2:=λx y H Q=>∃F f c b,Zm F H/\Yz K F H f x/\Yz K F H c y/\Tz 48 f c=aA b/\(Y7 x=aE\/Y7 y=aE)/\Q (.bl (if a then !b else b)) H
theorem NY(E:X.A.units+64<jf):G5 X (i3 .Eq)<|VN X.K aE:=by intro dG s σ H x y v u Q I o n h;refine Wv λ_ j=>?_;obtain⟨F,c,a,b,le,z,r,e,hf,q⟩:=h;obtain⟨_,h1,_⟩:=rcM I le (A:=X.A) (f:=Tz 47) (λc a b x y v u C m B l e=>Tl I le 47 X.A.in1 c a b x y v u (by have:X.A.in1.units=X.A.units+1:=rfl;lia) C m B l e) z o r n e Θ hf;apply j;exact h1 X.p X.w X.xe _ ⟨.bl b,H,I,rfl,q⟩
end
end
section
variable{K:ak}
@[simp]def Cz(c a:D):Option SV:=match c.isFlat&&a.isFlat with|true=>eqD c a|false=>(Tz 48 c a).bind λb=>some<|.fz<|.bl b
@[simp]def neY(c a:D):Option SV:=match c.isFlat&&a.isFlat with|true=>neD c a|false=>(Tz 48 c a).bind λb=>some<|.fz<|.bl !b
@[simp]def inY(c a:D):Option SV:=match c,a with
 | .non,.dK _ _=>aA<|.fz<|.bl aE
 |_,_=>inX c a
@[simp]def TZ(c a:D):Option SV:=match c,a with
 | .non,.dK _ _=>aA<|.fz<|.bl aC
 |_,_=>TC c a
section
variable{Z:dP K}
theorem LP(c:Yz K F H d1 x)(a:Yz K F H d2 y)(hf:(d1.isFlat&&d2.isFlat)=aE):Y7 x=aE\/Y7 y=aE:=by
 cases h1:d1.isFlat with
 |false=>exact .inl<|Le c h1
 |true=>cases h2:d2.isFlat with
  |false=>exact .inr<|Le a h2
  |true=>rw[h1,h2]at hf;cases hf
theorem Q_:Wd Z (λx y H Q=>rEq x y H Q\/VN K aE x y H Q) Cz:=by
 intro F H σ δ own x y h f sv Q s c a e k;unfold Cz at e;split at e
 .exact .inl (ge F H σ δ own x y h f sv Q s c a e k)
 .rename_i hf;refine L2.dN e λb l j=>?_;cases j;exact .inr ⟨F,h,f,b,s.le,c,a,l,LP c a hf,k.fz s<|.bl _⟩
theorem xZ:Wd Z (λx y H Q=>rNe x y H Q\/VN K aC x y H Q) neY:=by
 intro F H σ δ own x y h f sv Q s c a e k;unfold neY at e;split at e
 .exact .inl (gb F H σ δ own x y h f sv Q s c a e k)
 .rename_i hf;refine L2.dN e λb l j=>?_;cases j;exact .inr ⟨F,h,f,b,s.le,c,a,l,LP c a hf,k.fz s<|.bl _⟩
theorem xY:Wd Z (λx y H Q=>((∃i j,x= .str i/\y= .str j/\Q (.bl<|!(fq j i 0 j.length 1).isEmpty) H)\/YU x y H Q)\/Li aE x y H Q) inY:=by
 intro F H σ δ own x y m l sv Q s f c e k;unfold inY at e;split at e
 .cases e;obtain⟨a,kvs,rfl,h,_,_⟩:=c.dK s.le;exact .inr ⟨a,kvs,f.non,rfl,h.rd,k.fz s<|.bl _⟩
 .exact .inl (y7 F H σ δ own x y m l sv Q s f c e k)
theorem lJ:Wd Z (λx y H Q=>((∃i j,x= .str i/\y= .str j/\Q (.bl<|!(!(fq j i 0 j.length 1).isEmpty)) H)\/Fz x y H Q)\/Li aC x y H Q) TZ:=by
 intro F H σ δ own x y m l sv Q s f c e k;unfold TZ at e;split at e
 .cases e;obtain⟨a,kvs,rfl,h,_,_⟩:=c.dK s.le;exact .inr ⟨a,kvs,f.non,rfl,h.rd,k.fz s<|.bl _⟩
 .exact .inl (mW F H σ δ own x y m l sv Q s f c e k)
end
section
variable{X:Cx}{Z:dP X.K}{a b c:dz}{fa fb fc:FE}{pos:Pos}
theorem UD(c:X.A.units+64<jf)(j:PE X a<|liftE Z fa)(f:PE X b<|liftE Z fb):PE X (.Compare a [.Eq] [b] pos)<|liftE Z<|Zf Cz fa fb:=(KM (PY.or<|NY c) j f<|C1 _).imp λ_ _ _ h=>P5 Q_ h
theorem Ws(c:X.A.units+64<jf)(h:PE X a<|liftE Z fa)(f:PE X b<|liftE Z fb):PT X (.Compare a [.Eq] [b] pos)<|liftT Z<|Zq<|Zf Cz fa fb:=Mx (PY.or<|NY c) Q_ h f<|C1 _
theorem As(P:X.A.units+64<jf)(L:PE X a<|liftE Z fa)(K:PE X b<|liftE Z fb):PT X (.Compare a [.NotEq] [b] pos)<|liftT Z<|Zq<|Zf neY fa fb:=Mx (wE.or (by
 intro dG s σ H x y v u Q I r o h;refine Wv λ_ l=>?_;obtain⟨F,j,c,b,le,B,z,e,hf,q⟩:=h;obtain⟨_,_,h1⟩:=rcM I le (A:=X.A) (f:=Tz 47) (λj c b x y v u E n C m e=>Tl I le 47 X.A.in1 j c b x y v u (by have:X.A.in1.units=X.A.units+1:=rfl;lia) E n C m e) B r z o e Θ hf;apply l;exact h1 X.p X.w X.xe _ ⟨.bl !b,H,I,rfl,q⟩)) xZ L K<|C1 _
end
end
section
variable{K:ak}
theorem SR.changeT{Z:dP K}(s:SR Z F H σ δ own)(t:dW Z F H own svT vT nsT)(e:δ[i]? =aA (aA sv))(g:σ[i]? =aA (aA v))(E:(a,o)∈own i)(hs:dQ K F sv' v ns')(A:∀p∈ns',p=(a,o')\/(p∈own i/\p.1≠a)\/p∈nsT)(X:(Jj ns').Nodup):SR Z F (upd H a o') σ (δ.set i<|aA sv')<|put own i ns':=by
 obtain⟨fa,B,J⟩:=s.ok i (a,o) E;have I:i<δ.length:=(ci.mp e).1;refine⟨λb u m=>?_,s.fro,λb u m=>?_,by rw[io];exact s.len,λj sw L=>?_,λj=>?_,λj p f=>?_,λj k p q n f h=>?_⟩
 .rw[Zs λz=>by rw[z]at m;rw[fa]at m;cases m];exact s.le b u m
 .rw[Zs λz=>by rw[z]at m;rw[B]at m;cases m];exact s.old b u m
 .by_cases c:j=i
  .subst c;rw[gv I]at L;cases L;rw[Yi];exact⟨v,g,hs⟩
  .rw[gj<|Ne.symm c]at L;rw[Yp c];exact s.at' j sw L
 .by_cases c:j=i
  .subst c;rw[Yi];exact X
  .rw[Yp c];exact s.nod j
 .by_cases c:j=i
  .subst c;rw[Yi]at f;rcases A p f with z|⟨z,T⟩|z
   .subst z;exact⟨fa,B,Z8⟩
   .obtain⟨x,y,w⟩:=s.ok j p z;exact⟨x,y,by rw[Zs T];exact w⟩
   .obtain⟨x,y,w⟩:=t.ok p z;exact⟨x,y,by rw[Zs<|t.sep j p (a,o) z E];exact w⟩
  .rw[Yp c]at f;obtain⟨x,y,w⟩:=s.ok j p f;exact⟨x,y,by rw[Zs<|s.sep j i p (a,o) c f E];exact w⟩
 .have C:∀(l:Nat) (r q:aq×HO),l≠i->r∈ns'->q∈own l->r.1≠q.1:=λl r q P G h=>by
   rcases A r G with z|⟨z,_⟩|z
   .subst z;exact s.sep i l (a,o) q (Ne.symm P) E h
   .exact s.sep i l r q (Ne.symm P) z h
   .exact t.sep l r q z h
  by_cases c:j=i
  .subst c;rw[Yi]at f;rw[Yp<|Ne.symm n]at h;exact C k p q (Ne.symm n) f h
  .by_cases Q:k=i
   .subst Q;rw[Yi]at h;rw[Yp c]at f;exact λz=>C j q p c h f z.symm
   .rw[Yp c]at f;rw[Yp Q]at h;exact s.sep j k p q n f h
theorem dR.snoc(k:dR K F xss ws ns)(r:dJ K F xs vs):dR K F (xss++[xs]) (ws++[.ref b])<|ns++[(b,.lst vs)]:=by
 induction k with
 |nil=>exact .cons r .nil
 |cons h _ a=>exact .cons h a
@[simp]def QZ:FE:=λδ=>some (.tmp<|.oN [] [],δ)
theorem dR.length(k:dR K F xss ws ns):xss.length=ws.length:=by
 induction k with
 |nil=>rfl
 |cons _ _ a=>exact congrArg (· +1) a
theorem dR.app:∀{xss:À (À D)} {ws:À V} {ns:Zy} {p:Nat} {b:aq},dR K F xss ws ns->ws[p]? =aA (.ref b)->(Jj ns).Nodup->
  E2 λxs vs=>A4 (xss[p]? =aA xs) ((b,HO.lst vs)∈ns) (dJ K F xs vs) (∀{d:D} {v:V},dS K F d v->∃ns',A3 (dR K F (xss.set p<|xs++[d]) ws ns') (Jj ns'=Jj ns) (∀q∈ns',q=(b,HO.lst<|vs++[v])\/(q∈ns/\q.1≠b)))
 |_,_,_,_,_,.nil,e,_=>by simp at e
 |_,_,_,0,b,@dR.cons _ _ xs xss b' vs ws ns r t,e,nd=>by
  have n:b'=b:=by simpa using e
  subst n;obtain⟨a,f⟩:=fm.mp nd;refine⟨xs,vs,rfl,ac,r,fun{d v} hd=>⟨(b',.lst<|vs++[v])::ns,.cons (r.snoc hd) t,rfl,λq c=>?_⟩⟩;rcases az.mp c with z|z
  .exact .inl z
  .exact .inr ⟨ag _ z,λw=>a<|av.mpr ⟨q,z,w⟩⟩
 |_,_,_,p+1,b,@dR.cons _ _ xs0 xss b' vs0 ws ns r t,e,nd=>by
  refine Wv λ_ h=>?_;obtain⟨a,f⟩:=fm.mp nd;obtain⟨xs,vs,h1,h2,m,l⟩:=dR.app (p:=p) (b:=b) t θ f;apply h;refine⟨xs,vs,by simpa using h1,ag _ h2,m,fun{d v} hd=>?_⟩;obtain⟨ns',k1,k2,k3⟩:=l hd;refine⟨(b',.lst vs0)::ns',by rw[CY];exact .cons r k1,by show b'::Jj ns'=b'::Jj ns;rw[k2],λq c=>?_⟩;rcases az.mp c with z|z
  .refine .inr ⟨by rw[z];exact ac,λw=>a ?_⟩;rw[z]at w;exact av.mpr ⟨_,h2,w.symm⟩
  .rcases k3 q z with w|⟨w,j⟩
   .exact .inl w
   .exact .inr ⟨ag _ w,j⟩
theorem dR.ref:∀{xss:À (À D)} {ws:À V} {ns:Zy} {p:Nat} {v:V},dR K F xss ws ns->ws[p]? =aA v->∃b,v= .ref b
 |_,_,_,_,_,.nil,e=>by simp at e
 |_,_,_,0,_,.cons _ _,e=>by simp at e;exact⟨_,e.symm⟩
 |_,_,_,p+1,_,.cons _ t,e=>t.ref (p:=p) θ
@[simp]noncomputable def Qm:List Key->Key->Option Nat
 | [],_=>aB
 |a::r,k=>if a=k then aA 0 else(Qm r k).map (· +1)
theorem E6:∀{kvs:À (Key×V)} {p:Nat},Qm (kvs.map (·.1)) k=aA p->∃v,(kvs.map (·.2))[p]? =aA v/\Jz kvs k=aA v
 | [],_,e=>by cases e
 |q::r,p,e=>by
  have e:(if q.1=k then aA 0 else(Qm (r.map (·.1)) k).map (· +1))=aA p:=e;by_cases h:q.1=k
  .rw[dZ h]at e;cases e;exact⟨q.2,rfl,Rh h⟩
  .rw[dY h]at e;obtain⟨f,c,a⟩:=je.mp e;subst a;obtain⟨v,h1,h2⟩:=E6 c;exact⟨v,by simpa using h1,by rw[Ci h];exact h2⟩
end
section
variable{K:ak}
section
variable{X:Cx}{Z:dP X.K}{a b c:dz}{pos:Pos}
theorem pQ:PE X (.Dict [] [] pos)<|liftE Z QZ:=Dq.imp λσ H Q h=>by obtain⟨F,δ,own,rv,δ',s,e,k⟩:=h;cases e;intro p j;have f:B2 Z F H σ δ own (.oN [] []) Q:=λv H' F' ns a b c t=>k v H' F' own a b c ⟨ns,t⟩;exact f.one s (.oN (kvs:=[]) rfl .nil) j
end
end
theorem lI(h:Yg xs us)(f:xs.all Y7=aC):us.findIdx? (V8 x)=xs.findIdx? λy=>Df y x:=by
 induction h with
 |nil=>rfl
 |cons r _ a=>rw[mo,ig]at f;rw[lj,lj,V9 r f.1,a f.2]
def LO(K:ak):V->À V->Hp->VK->Prop:=λx xs H Q=>∃p ys y j,x= .ref p/\xs=[y]/\W3 K H p ys/\Y7 y=aC/\ys.all Y7=aC/\(ys.findIdx? λz=>Df z y)=aA j/\Q (.int (j:Nat)) H
theorem lH:MtR X "list.index"<|LO X.K:=by
 intro dG s σ H x xs v us Q I B E h;refine Wv λ_ z=>?_;obtain⟨p,ys,y,j,rfl,rfl,P,fy,fs,f,q⟩:=h;cases B;obtain⟨u,rfl,C⟩:=Jw E;obtain⟨dI,r,⟨⟨Z,dd,o,A⟩,n,e,l,c,hd⟩,hz⟩:=I.list P;simp only at l c hd;subst l hd;rw[<-lI r fs]at f;obtain⟨h1,h2,T⟩:=wc.mp f;apply z;have i:dI.length<=sizeLine:=by rw[<-r.length];exact hz
 have hs:(sizeLine:Nat)<2^63- 1:=Γ
 refine j8 yx ⟨_,e,rfl⟩ PySem.F.entry_list_index (PySem.F.args_list_index_2 _ _) (PySem.SeqAt.list_indexAt p dI.toArray n dd A u (V8 y) j (by simpa using h1) Θ Γa (λm g a=>by have:=T m a;simpa using this)) ⟨e,λw L=>Ov C fy r fs w (by simpa using L),.int _,H,I.tok _,⟨_,rfl⟩,q⟩
def xX:R2:=λx y H Q=>∃a k,x= .str a/\y= .int k/\MulOk a k/\Q (.str<|GW a k) H
section
variable{K:ak}
@[simp]noncomputable def D.fv:D->V
 | .bl b=>.bl b
 | .int i=>.int i
 | .str x=>.str x
 |_=>.non
theorem XE(r:Yz K F H d x)(h:d.isFlat=aC):x=d.fv/\Y7 x=aC:=by
 cases d with
 |non=>rw[r.non];exact⟨rfl,rfl⟩
 |bl b=>rw[r.bl];exact⟨rfl,rfl⟩
 |int i=>rw[r.int];exact⟨rfl,rfl⟩
 |str y=>rw[r.str];exact⟨rfl,rfl⟩
 |_=>cases h
theorem Xr(r:dJ K F ds vs)(e:ds.all D.isFlat=aC):vs=ds.map D.fv/\vs.all Y7=aC:=by
 induction ds generalizing vs with
 |nil=>cases r;exact⟨rfl,rfl⟩
 |cons d ds a=>cases r with
  |cons h t=>rw[mo,ig]at e;obtain⟨l,j⟩:=XE (H:=F) (Yz.of h) e.1;obtain⟨f,c⟩:=a t e.2;refine⟨by rw[cg,<-l,<-f],by rw[mo,j,c];rfl⟩
def ZZ(y x:D):Bool:=Df y.fv x.fv
@[simp]theorem JT(a b):ZZ (.str a) (.str b)=decide (a=b):=by
 show(a==b)=decide (a=b);by_cases h:a=b
 .subst h;simp
 .rw[d0 h];exact beq_eq_false_iff_ne.mpr h
@[simp]theorem f_:ZZ .non .non=true:=rfl
@[simp]theorem dB(a):ZZ (.str a) .non=false:=rfl
def Pb(x:D)(xs:À D):Bool:=xs.any λy=>ZZ y x
theorem LN:inV d.fv (ds.map D.fv)=Pb d ds:=by unfold inV Pb;rw[List.any_map];rfl
noncomputable def D.seq?:D->Option (List D)
 | .lst xs=>aA xs
 | .tup xs=>aA xs
 |_=>aB
@[simp]theorem dA(xs):D.seq? (.lst xs)=some xs:=rfl
@[simp]theorem e_(xs):D.seq? (.tup xs)=some xs:=rfl
@[simp]theorem ew(x):D.seq? (.str x)=none:=rfl
@[simp]theorem eY(ks vs):D.seq? (.dK ks vs)=none:=rfl
@[simp]theorem eX(ks vs):D.seq? (.dT ks vs)=none:=rfl
@[simp]def inZ(a c:D):Option SV:=match c.seq? with
 |some xs=>if a.isFlat=aC/\xs.all D.isFlat=aC then aA (.fz<|.bl<|Pb a xs)else aB
 |none=>inY a c
@[simp]def Tg(a c:D):Option SV:=match c.seq? with
 |some xs=>if a.isFlat=aC/\xs.all D.isFlat=aC then aA (.fz<|.bl<|!Pb a xs)else aB
 |none=>TZ a c
section
variable{Z:dP K}{H:Hp}{σ:L2.St}{Q:VK}
theorem NX(le:Zm F H)(r:Yz K F H d x)(h:d.seq? =aA xs):E2 λa vs=>A3 (x= .ref a) ((W3 K H a vs\/Eu K H a vs))<|dJ K F xs vs:=by
 cases d with
 |lst ys=>cases h;obtain⟨a,vs,e,q,c⟩:=r.lst le;exact⟨a,vs,e,.inl q,c⟩
 |tup ys=>cases h;obtain⟨a,vs,e,q,c⟩:=r.tup le;exact⟨a,vs,e,.inr q,c⟩
 |_=>cases h
theorem QY:Wd Z (λx y H Q=>(((∃i j,x= .str i/\y= .str j/\Q (.bl<|!(fq j i 0 j.length 1).isEmpty) H)\/YU x y H Q)\/Li aE x y H Q)\/rIn K aE x y H Q) inZ:=by
 intro F H σ δ own x y u r sv Q s f c e k;unfold inZ at e;split at e
 .rename_i xs l;split at e
  .rename_i hf;cases e;obtain⟨a,vs,rfl,m,h⟩:=NX s.le c l;obtain⟨q,o⟩:=XE f hf.1;obtain⟨p,n⟩:=Xr h hf.2;refine .inr ⟨a,vs,rfl,m,o,n,?_⟩;rw[q,p,LN];exact k.fz s<|.bl _
  .cases e
 .exact .inl (xY F H σ δ own x y u r sv Q s f c e k)
theorem lG:Wd Z (λx y H Q=>(((∃i j,x= .str i/\y= .str j/\Q (.bl<|!(!(fq j i 0 j.length 1).isEmpty)) H)\/Fz x y H Q)\/Li aC x y H Q)\/rIn K aC x y H Q) Tg:=by
 intro F H σ δ own x y u r sv Q s f c e k;unfold Tg at e;split at e
 .rename_i xs l;split at e
  .rename_i hf;cases e;obtain⟨a,vs,rfl,m,h⟩:=NX s.le c l;obtain⟨q,o⟩:=XE f hf.1;obtain⟨p,n⟩:=Xr h hf.2;refine .inr ⟨a,vs,rfl,m,o,n,?_⟩;rw[q,p,LN];exact k.fz s<|.bl _
  .cases e
 .exact .inl (lJ F H σ δ own x y u r sv Q s f c e k)
@[simp]def E7:List D->Option SV
 | [.lst xs,x]=>if x.isFlat=aC/\xs.all D.isFlat=aC then(xs.findIdx? λy=>ZZ y x).bind λj=>aA (.fz<|.int (j:Nat))else aB
 |_=>aB
theorem pP:K9 Z (LO K) E7:=by
 intro F H σ δ own vs ds sv Q s r e k;unfold E7 at e;split at e
 .rename_i xs x;split at e
  .rename_i hf;refine L2.dN e λj n m=>?_;cases m;obtain⟨_,_,rfl,h1,t⟩:=r.consI;cases t with
   |cons h2 t=>cases t;obtain⟨a,us,rfl,f,c⟩:=h1.lst s.le;obtain⟨g1,l⟩:=XE h2 hf.1;obtain⟨g2,h⟩:=Xr c hf.2;refine⟨_,_,rfl,a,us,_,j,rfl,rfl,f,l,h,?_,k.fz s<|.int _⟩;rw[g1,g2,ua];exact n
  .cases e
 .cases e
open Classical in
noncomputable def XU(a:Str)(k:Int):Á SV:=if MulOk a k then aA (.fz<|.str<|GW a k)else aB
theorem pO(h:XU a k=aA sv):MulOk a k/\sv= .fz (.str<|GW a k):=by
 unfold XU at h;split at h
 .rename_i c;cases h;exact⟨c,rfl⟩
 .cases h
def WB(i j:Int):Prop:=YY i j=aC
open Classical in
noncomputable def ZY(i j:Int):Á SV:=if WB i j then aA (.fz<|.int<|i*j)else aB
theorem TY(h:-(2^64)<j/\j<2^64):ZY i j=aA (.fz<|.int<|i*j):=by unfold ZY;rw[dZ];unfold WB YY;rw[d_ h.1,d_ h.2];simp
theorem sO(h:-(2^64)<i/\i<2^64):ZY i j=aA (.fz<|.int<|i*j):=by unfold ZY;rw[dZ];unfold WB YY;rw[d_ h.1,d_ h.2];simp
def Xs:D->D->Option SV
 | .str a,.int k=>XU a k
 | .int i,.int j=>ZY i j
 |_,_=>aB
@[simp]theorem eo(a k):Xs (.str a) (.int k)=XU a k:=rfl
@[simp]theorem el(i j):Xs (.int i) (.int j)=ZY i j:=rfl
theorem sN:Wd Z (λx y H Q=>rI Y' (λi j=>V.int<|i*j) x y H Q\/xX x y H Q) Xs:=by
 intro F H σ δ own x y m l sv Q s c a e k;unfold Xs at e;split at e
 .obtain⟨h,rfl⟩:=pO e;exact .inr ⟨_,_,c.str,a.int,h,k.fz s<|.str _⟩
 .exact .inl (wJ F H σ δ own x y _ _ sv Q s c a (by
  unfold ZY at e;split at e
  .rename_i f;cases e;unfold WB at f;simp[f]
  .cases e) k)
 .cases e
@[simp]noncomputable def SV.ol?:RV->Option (List D)
 | .tmp (.ol ys)=>aA ys
 |_=>aB
@[simp]def YZ(i:Nat)(fe:FE):FS:=λδ=>match δ[i]? with
 |some (aA<|.ol _)=>(fe δ).bind λp=>(SV.ol? p.1).bind λys=>match p.2[i]? with
  |some (aA<|.ol xs)=>if xs.length+ys.length<=dg then aA (.nx<|p.2.set i<|aA<|.ol<|xs++ys)else aB
  |_=>aB
 |_=>aB
theorem ol?_ok(h:SV.ol? rv=aA ys):rv= .tmp (.ol ys):=by
 unfold SV.ol? at h;split at h
 .cases h;rfl
 .cases h
theorem xW(h:liftS Z (YZ i fe) E σ H):Ch (tBM K "list" KJ (Bb i)<|G1 (liftE Z fe) T7) E σ H:=by
 obtain⟨F,δ,own,fl,s,e,k⟩:=h;unfold YZ at e;split at e
 .rename_i L q;refine L2.dO e λrv δ1 O N=>?_;refine L2.dN N λys M f=>?_;obtain⟨v,r,P⟩:=s.at' i _ q;obtain⟨a,j,ev,G,Y⟩:=Qb P;refine⟨v,r,?_,F,δ,own,rv,δ1,s,O,λy H1 R l W Q o T=>?_⟩
  .subst ev;exact .inl ⟨rfl,j,.inl<|.inl (s.ok i (a,.lst j) (by rw[G];exact ac)).2.2⟩
  have C:=ol?_ok M;dsimp only at C f;subst C;obtain⟨ns,t⟩:=T;obtain⟨c,us,I,u,x⟩:=Qb t.sh;have g:H1 c=aA (.lst us):=(t.ok (c,.lst us) (by rw[u];exact ac)).2.2;split at f
  .rename_i xs B;split at f
   .rename_i hz;cases f;obtain⟨U,m,n⟩:=o.at' i _ B;rw[r]at m;cases m;obtain⟨b,vs,J,w,z⟩:=Qb n;have A:(b,HO.lst vs)∈l i:=by rw[w];exact ac
    subst J;refine⟨b,c,vs,us,rfl,by rw[I],(o.ok i _ A).2.2,g,by rw[<-z.length,<-x.length];exact hz,?_⟩;exact k σ _ R _ Q<|o.change (sv':=.ol<|xs++ys) (o':=.lst<|vs++us) (ns':=[(b,.lst<|vs++us)]) B r A (.ol<|z.append x) (λp X=>.inl<|ao.mp X) Fs
   .cases f
  .cases f
 .cases e
end
section
variable{X:Cx}{Z:dP X.K}{a b c:dz}{fa fb fc:FE}{pos:Pos}
theorem QX(c:X.A.units+1<jf)(l:PE X a<|liftE Z fa)(j:PE X b<|liftE Z fb)(f:‹nh .In b=aE›):PE X (.Compare a [.In] [b] pos)<|liftE Z<|Zf inZ fa fb:=(KM (((Po.or<|Lf c).or Sf).or Pu) l j f).imp λ_ _ _ h=>P5 QY h
theorem M0(c:X.A.units+1<jf)(j:PE X a<|liftE Z fa)(h:PE X b<|liftE Z fb)(f:‹nh .In b=aE›):PT X (.Compare a [.In] [b] pos)<|liftT Z<|Zq<|Zf inZ fa fb:=Mx (((Po.or<|Lf c).or Sf).or Pu) QY j h f
theorem Au(B:X.A.units+1<jf)(F:PE X a<|liftE Z fa)(E:PE X b<|liftE Z fb)(C:‹nh .NotIn b=aE›):PT X (.Compare a [.NotIn] [b] pos)<|liftT Z<|Zq<|Zf Tg fa fb:=Mx (((Xa.or (by
 intro dG s σ H y x v u Q I f c h;obtain⟨a,o,rfl,g,q⟩:=h;cases c;exact oJ B I g f λs' K=>⟨.bl<|!o.isSome,H,K,rfl,q⟩)).or (by
  intro dG s σ H y x v u Q I f c h;obtain⟨a,kvs,rfl,rfl,e,q⟩:=h;cases f;cases c;obtain⟨z,hd,vs,n,dd⟩:=Mt I.hok e;exact FC (knd:=Xo X.p X.w) (k:=aB) rfl hd (LS dd) ⟨.bl aC,H,I.tok _,rfl,q⟩)).or (by
 intro dG s σ H x y v u Q I c f h;obtain⟨p,xs,rfl,j,fx,fs,q⟩:=h;cases f;rcases j with j|j
 .obtain⟨dI,r,l,hz⟩:=I.list j;refine SeqAt.notIn_listAt (V8 x) l.isList (λw m=>Ov c fx r fs w<|by simpa using m) ⟨.bl _,H,I,rfl,?_⟩;rw[show dI.toArray.any (V8 x)=dI.any (V8 x) by simp,Fv r fs];exact q
 .obtain⟨dI,r,l,hz⟩:=I.tuple j;refine SeqAt.notIn_tupleAt (V8 x) l (λw m=>Ov c fx r fs w<|by simpa using m) ⟨.bl _,H,I,rfl,?_⟩;rw[show dI.toArray.any (V8 x)=dI.any (V8 x) by simp,Fv r fs];exact q)) lG F E C
theorem Xt(m:PE X a<|liftE Z fa)(l:PE X b<|liftE Z fb):PE X (.BinOp a .Mult b pos)<|liftE Z<|Zf Xs fa fb:=D4 (sU.or (by
 intro dG s σ H x y v u Q I f c h;obtain⟨a,k,rfl,rfl,j,q⟩:=h;obtain⟨t,rfl⟩:=f;obtain⟨t',rfl⟩:=c;exact SB.mul j λt' k=>⟨.str _,H,I.tok _,⟨_,rfl⟩,q⟩)) sN m l
theorem LM(j:PE X a<|liftE Z fa)(f:PE X b<|liftE Z fb)(c:‹Mc X a "index" ZA cpos b []›)
  :
  PE X (.Call (.Attribute a "index" ZA) [b] [] cpos) (liftE Z<|Md "list" E7 fa<|Zd fb Zh):=
 (Ow gw yx PySem.F.type_list_index lH j (Zg f Zw c.st) c).imp λ_ _ _ h=>YE pP h
theorem QW(i){px ZA cpos}(f:PE X b<|liftE Z fb)(j:‹Vr X i x›)(c:‹Mc X (.Name x px) "extend" ZA cpos b []›)(a:‹i6 (.Call (.Attribute (.Name x px) "extend" ZA) [b] [] cpos) aB pos.line X.e=jh aE›):
  PS X (.Expr (.Call (.Attribute (.Name x px) "extend" ZA) [b] [] cpos) pos) (liftS Z<|YZ i fb):=
 (Q9 (Ow gw uf ue jJ (Jy (i:=i) j) (Y8 f Wu c.st) c) a).imp λ_ _ _ h=>xW h
end
end
section
variable{K:ak}
@[simp]noncomputable def QV(f:FT):FT:=λδ=>(f δ).bind λp=>some (p.1,δ)
section
variable{X:Cx}{Z:dP X.K}{a:dz}{ft:FT}
theorem sM(j:PT X a<|liftT Z ft):PT X a<|liftT Z<|QV ft:=j.imp λ_ _ _ h=>by obtain⟨F,δ,own,b,δ',s,e,k⟩:=h;refine L2.dO e λn δ1 m l=>?_;cases l;exact⟨F,δ,own,n,δ1,s,m,λH' F' f c o s'=>k H' F own c (Zm.refl F)<|s.grow c⟩
end
end
section
variable{K:ak}
inductive RX where
 |v (rv:RV) (δ:Y5)|x (e:Exn) (δ:Y5)
inductive RL(α:Type)where
 |v (xs:List α) (δ:Y5)|x (e:Exn) (δ:Y5)
abbrev FX:=Y5->Á RX
abbrev FAX:=Y5->Á (RL RV)
def XOk(Z:dP K)(F:Hp)(σ:St)(e:Exn)(δ:Y5):Prop:=∀H' F' a c od,Zm F F'->SR Z F' H' σ δ a->TU K F' e c od->Z.x c od σ H'
theorem XOk.mono{Z:dP K}(s:Zm F F')(h:XOk Z F σ e δ):XOk Z F' σ e δ:=λH2 f own c od a=>h H2 f own c od<|s.trans a
inductive liftX(Z:dP K)(f:FX)(σ H) (Q:VK):Prop where
 |mk (F δ own r) (s:SR Z F H σ δ own) (e:f δ=aA r) (k:match(generalizing:=false) r with
 | .v rv δ'=>∀v H' F' ZD,Zm H H'->Zm F F'->SR Z F' H' σ δ' ZD->P4 Z F' H' σ ZD rv v->Q v H'
 | .x e δ'=>XOk Z F σ e δ')
inductive liftAX(Z:dP K)(f:FAX)(σ H) (Q:List V->Hp->Prop):Prop where
 |mk (F δ own r) (s:SR Z F H σ δ own) (e:f δ=aA r) (k:match(generalizing:=false) r with
 | .v ZH δ'=>∀vs H' F' ZD,Zm H H'->Zm F F'->SR Z F' H' σ δ' ZD->RVSs K F' σ ZH vs->Q vs H'
 | .x e δ'=>XOk Z F σ e δ')
@[simp]def FX.val(f:FX):FE:=λδ=>match f δ with
 |some (.v rv δ')=>aA (rv,δ')
 |_=>aB
section
variable{Z:dP K}{H:Hp}{σ:St}{Q:VK}
theorem JS{f:FX}(h:liftE Z f.val σ H Q):liftX Z f σ H Q:=by
 obtain⟨F,δ,own,rv,δ',s,e,k⟩:=h;unfold FX.val at e;split at e
 .rename_i a δ2 hf;cases e;exact⟨F,δ,own,_,s,hf,k⟩
 .cases e
@[simp]noncomputable def UC(fe:FE):FX:=λδ=>(fe δ).bind λp=>some<|.v p.1 p.2
@[simp]def Xu:FAX:=λδ=>some<|.v [] δ
@[simp]noncomputable def Ln(fx:FX)(fa:FAX):FAX:=λδ=>(fx δ).bind fun
 | .v rv δ1=>(fa δ1).bind fun
  | .v ZH δ2=>aA<|.v (rv::ZH) δ2
  | .x e δ2=>aA<|.x e δ2
 | .x e δ1=>aA<|.x e δ1
end
inductive XO where
 |v (sv:SV)|x (e:Exn)
def spX(K:ak)(n:Nat)(g:List D->Option XO):Sp:=λvs H Q E=>∃F ds o,Zm F H/\dJ K F ds vs/\ds.length=n/\g ds=aA o/\match o with
 | .v sv=>∀v H' F' ns,Zm H H'->Zm F F'->Zm F' H'->(∀(b:aq) (o:HO),F' b=aA o->F b=aA o\/H b=aB)->dQ K F' sv v ns->(Jj ns).Nodup->(∀p∈ns,F' p.1=aB/\H p.1=aB/\H' p.1=aA p.2)->Q v H'
 | .x e=>∀a od H' F',Zm H H'->Zm F F'->Zm F' H'->(∀(b:aq) (o:HO),F' b=aA o->F b=aA o\/H b=aB)->TU K F' e a od->E a od H'
theorem pN(h:spX K n g vs H Q E):vs.length=n:=by obtain⟨F,ds,o,le,r,hn,e,k⟩:=h;rw[<-r.length];exact hn
@[simp]noncomputable def YQ(f:FS)(n:Nat)(ds:List D):Option XO:=match f (Qu n ds)with
 |some (.rt sv)=>aA<|.v sv
 |some (.nx _)=>aA<|.v<|.fz .non
 |some (.ex e _)=>aA<|.x e
 |_=>aB
@[simp]noncomputable def YO(h:List D->Option XO)(ds:List D):Option SV:=match h ds with
 |some (.v sv)=>aA sv
 |_=>aB
abbrev entX(H F:Hp)(E:XK):dP K:=⟨H,F,λa od _ H'=>E a od H'⟩
theorem SR.ent{Z Y:dP K}(s:SR Z F H σ δ own)(h1:‹Z.h=Y.h›)(h2:‹Z.f=Y.f›):SR Y F H σ δ own:=
 ⟨s.le,h1▸h2▸s.fro,h1▸s.old,s.len,s.at',s.nod,λi p a=>h1▸s.ok i p a,s.sep⟩
theorem jV(h:spX K n (YQ f N.length) vs H Q E):∃F,liftS (entX H F E:dP K) f {nx:=λ_ H'=>Q .non H',rt:=Q} (L2.Qn N vs) H:=by
 obtain⟨F,ds,o,le,r,hn,e,k⟩:=h;have m:SR (entX H F E:dP K) F H (L2.Qn N vs) (Qu N.length ds) λ_=>[]:=(Ah (N:=N) le r).ent;unfold YQ at e;split at e
 .rename_i sw hf;cases e;exact⟨F,F,_,_,.rt sw,m,hf,λv H' F' ns a b c d u s ok=>k v H' F' ns d a b c u s ok⟩
 .rename_i δ hf;cases e;exact⟨F,F,_,_,.nx δ,m,hf,λl H' F' j a s'=>k .non H' F' [] s'.old a s'.le s'.fro (.fz .non) gd λ_ h=>(nomatch h)⟩
 .rename_i x δ hf;cases e;exact⟨F,F,_,_,.ex x δ,m,hf,λl H' F' j p od a s' q=>k p od H' F' s'.old a s'.le s'.fro q⟩
 .cases e
section
variable{Z:dP K}{H:Hp}{σ:St}{E:Ends}
theorem SR.behind(f:SR Z F2 H1 σ δ2 own2)(j:Zm H1 H3)(l:Zm F2 F3)(m:Zm F3 H3)(h:∀b o,F3 b=aA o->F2 b=aA o\/H1 b=aB):SR Z F3 H3 σ δ2 own2:=by
 refine⟨m,λb o e=>?_,f.old.trans j,f.len,λi sw q=>?_,f.nod,λi p n=>?_,f.sep⟩
 .rcases h b o e with z|z
  .exact f.fro b o z
  .exact .inr (f.old.free z)
 .obtain⟨w,h1,h2⟩:=f.at' i sw q;exact⟨w,h1,h2.mono l⟩
 .obtain⟨a,b,c⟩:=f.ok i p n;refine⟨?_,b,j _ _ c⟩;cases z:F3 p.1 with
  |none=>rfl
  |some u=>
   rcases h _ u z with y|y
   .rw[a]at y;cases y
   .rw[c]at y;cases y
@[simp]def WA(n:Nat)(g:List D->Option XO)(fa:FAX):FX:=λδ=>(fa δ).bind fun
 | .x e δ1=>aA<|.x e δ1
 | .v ZH δ1=>(L2.frzAll ZH δ1).bind λq=>match Mw q.1 n with|false=>aB|true=>(g q.1).bind (fun
  | .v sv=>aA (.v (.tmp sv) (match sv.scal with|true=>δ1|false=>q.2))
  | .x e=>aA<|.x e q.2)
@[simp]def VM(i:Nat)(fx:FX):FS:=λδ=>(fx δ).bind fun
 | .v rv δ1=>(stow i rv δ1).bind λδ'=>aA<|.nx δ'
 | .x e δ1=>aA<|.ex e δ1
theorem XOk.of(k:Tc Z F E<|.ex x δ):XOk Z F σ x δ:=λH' F' f h od a b c=>k σ H' F' f h od a b c
theorem sL{i:Nat}{fx:FX}(h:liftS Z (VM i fx) E σ H):XA (liftX Z fx) (Ko i) E σ H:=by
 obtain⟨F,δ,own,fl,s,e,k⟩:=h;refine L2.dN e λr c a=>?_;cases r with
 |x f δ1=>cases a;exact⟨F,δ,own,_,s,c,(.of k)⟩
 |v rv δ1=>exact JS<|WE (Z:=Z) (E:=E) (i:=i) (fe:=fx.val) ⟨F,δ,own,fl,s,by unfold Z1 FX.val;rw[c];exact a,k⟩
@[simp]def XT(i:Nat)(fx:FX):FS:=λδ=>match fx δ with
 |some (.x e δ1)=>(match δ[i]? with
  |some (aA<|.ol _)=>aA<|.ex e δ1
  |_=>aB)
 |_=>B3 i fx.val δ
theorem xV{i:Nat}(s:SR Z F H σ δ own)(h:δ[i]? =aA (aA<|.ol xs)):∃v,σ[i]? =aA (aA v)/\tyV K "list" v H:=by obtain⟨v,j,f⟩:=s.at' i _ h;obtain⟨a,c,ev,l,m⟩:=Qb f;subst ev;exact⟨_,j,.inl ⟨rfl,c,.inl<|.inl (s.ok i (a,.lst c) (by rw[l];exact ac)).2.2⟩⟩
theorem sK{i:Nat}{fx:FX}(h:liftS Z (XT i fx) E σ H):Ch (tBM K "list" Be (Bb i)<|G1 (liftX Z fx) T7) E σ H:=by
 obtain⟨F,δ,own,fl,s,e,k⟩:=h;unfold XT at e;split at e
 .rename_i x δ1 c;split at e
  .rename_i xs f;cases e;obtain⟨v,a,ty⟩:=xV s f;exact⟨v,a,ty,⟨F,δ,own,_,s,c,(.of k)⟩⟩
  .cases e
 .obtain⟨v,a,ty,q⟩:=OH (Z:=Z) (E:=E) (i:=i) (fe:=fx.val) ⟨F,δ,own,fl,s,e,k⟩;exact⟨v,a,ty,JS q⟩
@[simp]def E8(c:Str):FS:=λδ=>some<|.ex ⟨c,[],[]⟩ δ
theorem pM(f:Bh K c C)(a:∀g od σ H',Z.x g od σ H'->Z.x g od [] H')(h:liftS Z (E8 c) E σ H):MC (λg od H'=>Z.x g od [] H') C (G1 (tC<|.str x) T7) E σ H:=by obtain⟨F,δ,own,fl,s,e,k⟩:=h;cases e;exact⟨by show 1<=dg;decide,a _ _ _ _<|k σ H F own (.ref C) aB (Zm.refl F) s ⟨C,f,rfl,rfl,rfl⟩⟩
structure HX where
 x:Str
 np:Pos
 nm:Á (Str×Nat)
 b0:lu
 suite:À lu
 pos:Pos
 B:aq
 yes:À Str
 no:À Str
 f:FS
structure HX.Sub(K:ak)(h:HX):Prop where
 yes:∀c∈h.yes,∀C,Bh K c C->jd K C (.ref h.B)=aA aC
 no:∀c∈h.no,∀C,Bh K c C->jd K C (.ref h.B)=aA aE
noncomputable def HX.hd(Z:dP K)(h:HX):Hd:=⟨h.x,h.np,h.nm,h.b0,h.suite,h.pos,h.B,liftS Z h.f⟩
structure HF where
 i:Á Nat
 yes:À Str
 no:À Str
 f:FS
@[simp]noncomputable def HX.hf(h:HX):HF:=⟨h.nm.map (·.2),h.yes,h.no,h.f⟩
@[simp]noncomputable def X'(c:Str):List HF->Option HF
 | []=>aB
 |h::r=>if c∈h.yes then aA h else if c∈h.no then X' c r else aB
theorem Sj(Z:dP K)(j:Bh K c C):∀(hs:À HX) {f:HF},(∀h∈hs,h.Sub K)->X' c (hs.map HX.hf)=aA f->∃h:HX,h.hf=f/\P0 K C (hs.map<|HX.hd Z)=aA (h.hd Z)
 | [],f,_,e=>nomatch e
 |h::r,f,ok,e=>by
  have e:(if c∈h.yes then aA h.hf else if c∈h.no then X' c (r.map HX.hf)else aB)=aA f:=e;show∃g:HX,g.hf=f/\(match jd K C (.ref h.B)with|some aC=>aA (h.hd Z)|some aE=>P0 K C (r.map<|HX.hd Z)|none=>aB)=aA (g.hd Z);have l:=ok h ac;by_cases q:c∈h.yes
  .rw[dZ q]at e;cases e;exact⟨h,rfl,by rw[l.yes c q C j]⟩
  .rw[dY q]at e;by_cases a:c∈h.no
   .rw[dZ a]at e;obtain⟨g,g1,g2⟩:=Sj Z j r (λg m=>ok g<|ag _ m) e;exact⟨g,g1,by rw[l.no c a C j];exact g2⟩
   .rw[dY a]at e;cases e
@[simp]noncomputable def Fl.but(i:Nat):Fl->Fl
 | .nx δ=>.nx<|δ.set i aB
 | .bk δ=>.bk<|δ.set i aB
 | .ct δ=>.ct<|δ.set i aB
 | .ex e δ=>.ex e<|δ.set i aB
 | .rt sv=>.rt sv
@[simp]noncomputable def Fl.isEx:Fl->Bool
 | .ex _ _=>aC
 |_=>aE
@[simp]def HF.run(h:HF)(x:Exn)(δ:Y5):Option Fl:=match h.i with
 |none=>h.f δ
 |some i=>(inB δ i<|δ.set i<|aA<|.fz<|.exc x.c x.ks x.vs).bind λδ'=>(h.f δ').bind λfl=>match fl.isEx with|true=>aB|false=>aA<|fl.but i
@[simp]def YN(fb:FS)(hs:List HF):FS:=λδ=>(fb δ).bind fun
 | .ex x δ1=>(X' x.c hs).bind λh=>h.run x δ1
 |fl=>aA fl
abbrev dP.wish(Z:dP K)(a:EXT):dP K:=⟨Z.h,Z.f,a⟩
theorem SR.unset(s:SR Z F H σ δ own)(i):SR Z F H (σ.set i aB) (δ.set i aB)<|put own i []:=by
 refine⟨s.le,s.fro,s.old,by rw[io,io];exact s.len,λj sw f=>?_,λj=>?_,λj p c=>?_,λj k p q l c h=>?_⟩
 .by_cases a:j=i
  .subst a;have hd:j<δ.length:=by have:=(ci.mp f).1;simpa using this
   rw[gv hd]at f;cases f
  .rw[gj<|Ne.symm a]at f;rw[Yp a,gj<|Ne.symm a];exact s.at' j sw f
 .by_cases a:j=i
  .subst a;rw[Yi];exact gd
  .rw[Yp a];exact s.nod j
 .by_cases a:j=i
  .subst a;rw[Yi]at c;exact nomatch c
  .rw[Yp a]at c;exact s.ok j p c
 .by_cases a:j=i
  .subst a;rw[Yi]at c;exact nomatch c
  .by_cases m:k=i
   .subst m;rw[Yi]at h;exact nomatch h
   .rw[Yp a]at c;rw[Yp m]at h;exact s.sep j k p q l c h
theorem mO(h:fl.isEx=aE)(k:Tc Z F E<|fl.but i):Tc Z F (E.but i) fl:=by
 cases fl with
 |nx δ=>exact λc H' F' f a b=>k (c.set i aB) H' F' _ a<|b.unset i
 |bk δ=>exact λc H' F' f a b=>k (c.set i aB) H' F' _ a<|b.unset i
 |ct δ=>exact λc H' F' f a b=>k (c.set i aB) H' F' _ a<|b.unset i
 |rt sv=>exact k
 |ex x δ=>cases h
theorem xU{hs:À HX}(B:∀h∈hs,h.Sub K)(h:liftS Z (YN fb<|hs.map HX.hf) E σ H):RN K (λEX=>liftS (Z.wish EX) fb) (hs.map<|HX.hd Z) E σ H:=by
 obtain⟨F,δ,own,fl,s,e,k⟩:=h;refine L2.dN e λU e1 L=>?_;refine⟨F,δ,own,U,s.ent,e1,?_⟩;cases U with
 |nx δ1=>cases L;exact λj H' F' f a b=>k j H' F' f a b.ent
 |bk δ1=>cases L;exact λj H' F' f a b=>k j H' F' f a b.ent
 |ct δ1=>cases L;exact λj H' F' f a b=>k j H' F' f a b.ent
 |rt sv=>cases L;exact k
 |ex x δ1=>
  refine L2.dN L λhf e3 Q=>?_;intro j H' F' f cls od M s' r;obtain⟨C,J,rc,O⟩:=r;obtain⟨g,g1,g2⟩:=Sj Z J hs B e3;subst g1;refine⟨C,g.hd Z,rc,g2,?_⟩;have y:SR Z F' H' j δ1 f:=s'.ent;obtain⟨gx,fV,G,fW,fU,R,gB,gy,gn,gf⟩:=g;cases G with
  |none=>exact⟨F',δ1,f,fl,y,Q,k.mono M⟩
  |some ni=>
   obtain⟨n,i⟩:=ni;refine L2.dN Q λW I Q=>?_;obtain⟨hc,rfl⟩:=Ag I
   .skip
    refine L2.dN Q λw I P=>?_;have A:w.isEx=aE:=by
     cases z:w.isEx with
     |true=>rw[z]at P;cases P
     |false=>rfl
    rw[A]at P;cases P;intro a ha;have l:H' a=aB:=ha;have Y:=Wz (o:=.ext<|Rk a C od) l;have p:Zm F'<|J1 F' [(a,.ext<|Rk a C od)]:=Qf λq m=>by obtain rfl:=ao.mp m;exact y.le.free l
    have N:SR Z (J1 F' [(a,.ext<|Rk a C od)]) (upd H' a<|.ext<|Rk a C od) j δ1 f:=by
     refine(y.grow Y).addF Fs (λq m=>?_) (λq m=>?_) (λq m=>?_) λi q u m hu=>?_
     .obtain rfl:=ao.mp m;exact y.le.free l
     .obtain rfl:=ao.mp m;exact Z8
     .obtain rfl:=ao.mp m;exact y.old.free l
     .obtain rfl:=ao.mp m;intro e;have e':a=u.1:=e;have z:=(y.ok i u hu).2.2;rw[<-e',l]at z;cases z
    have rp:dS K (J1 F' [(a,.ext<|Rk a C od)]) (.exc x.c x.ks x.vs)<|.ref a:=by
     cases od with
     |none=>obtain⟨X,T⟩:=O;rw[X,T];exact .exc J Z8
     |some dx=>obtain⟨fs,X,T,r5⟩:=O;exact .exd J Z8 (p _ _ X) T<|r5.mono p
    have s4:=N.store (i:=i) (sv:=.fz<|.exc x.c x.ks x.vs) (v:=.ref a) (ns:=[]) (.fz rp) (by rw[N.len];exact hc);exact⟨_,_,_,w,s4,I,mO A<|k.mono<|M.trans p⟩
end
end
section
variable{X:Cx}{Z:dP X.K}{a b c:dz}{fa fb:FE}{fx fy:FX}{pos:Pos}
theorem NJ(h:PE X a<|liftE Z fa):PE X a<|liftX Z<|UC fa:=h.imp λ_ _ _ q=>by obtain⟨F,δ,own,r,s,e,k⟩:=q;refine L2.dO e λrv δ' f c=>?_;cases c;exact⟨F,δ,own,rv,δ',s,f,k⟩
theorem NI:PA X []<|liftAX Z Xu:=Wu.imp λσ H Q h=>by obtain⟨F,δ,own,r,s,e,k⟩:=h;cases e;exact k [] H F own (Zm.refl H) (Zm.refl F) s .nil
theorem LL{es:À dz}{fr:FAX}(Q:PE X a<|liftX Z fx)(P:PA X es<|liftAX Z fr)(hs:‹Se X a es›):PA X (a::es)<|liftAX Z<|Ln fx fr:=(Y8 Q P hs).imp λ_ _ _ h=>by
 obtain⟨F,δ,own,r,s,e,k⟩:=h;refine L2.dN e λn y w=>?_;cases n with
 |x G δ1=>cases w;exact⟨F,δ,own,_,s,y,k⟩
 |v rv δ1=>
  refine L2.dN w λL u q=>?_;refine⟨F,δ,own,_,s,y,λv H1 I c A o C n=>?_⟩;obtain⟨z,j,p,H⟩:=C.settleR n;cases L with
  |x i δ2=>cases q;exact⟨z,δ1,c,_,p,u,XOk.mono (o.trans j) k⟩
  |v E δ2=>cases q;exact⟨z,δ1,c,_,p,u,λvs T g l m f B K=>k _ T g l (A.trans m) (o.trans<|j.trans f) B<|.cons (H.mono f) K⟩
theorem sJ{k n:Nat}{f:aq}{fd:jg}{ps:À Str}{g:À D->Á XO}{x:Str}{p:Pos}{es:À dz}{fr:FAX}(F:FnOk X.p X.w X.K X.mg X.base (Dg X.p X.w) k f fd ps<|spX X.K n g)(hr:dU k X.A)(hm:X.mg x=aA (.ref f))(hk:lg X.K (.ref f)=aC)(hb:T8 X.K fd ps [])(th:Du X Z.x)(ha:PA X (a::es)<|liftAX Z fr)(hg:‹Gl X x›)(G:‹Nd x›)(he:‹Se X a es›)(T:‹Bk X pos es›):
  PE X (.Call (.Name x p) (a::es) [] pos) (liftX Z<|WA n g fr):=(lW F hr hg hm hk hb th ha G he T).imp λ_ _ _ h=>by
   obtain⟨F,δ,own,rx,s,e,k⟩:=h;refine L2.dN e λQ W U=>?_;cases Q with
   |x x1 δ1=>cases U;exact⟨F,δ,own,_,s,W,k⟩
   |v ZH δ1=>
    refine L2.dO U λds δ2 e3 E=>?_;refine⟨F,δ,own,_,s,W,λvs H1 Y B N P O Q=>?_⟩;obtain⟨F2,m,u,y,r2⟩:=O.frzAll (own:=own) (F:=F) (δ:=δ) Q e3;dsimp only at E;split at E
    .cases E
    .rename_i hn;replace hn:=Rm hn;refine L2.dN E λo e5 R=>?_;refine⟨F2,ds,o,y.le,r2,hn,e5,?_⟩;cases o with
     |x x2=>cases R;exact λI od H J c j r l rr=>k H J m I od (P.trans<|u.trans j) (y.behind c j r l) rr
     |v sv=>
      cases R;intro v H J ns c j r l M nd ok;by_cases hs:sv.scal=aC
      .rw[hs]at k;obtain⟨_,L⟩:=Dw (F':=Y) hs M;exact k v H Y B (N.trans c) P (O.grow c) ⟨[],L,gd,λ_ h=>(nomatch h),λ_ _ _ h=>(nomatch h)⟩
      .rw[eq_false_of_ne_true hs]at k;exact k v H J m (N.trans c) (P.trans<|u.trans j) (y.behind c j r l) ⟨ns,M,nd,λp C=>⟨(ok p C).1,(y.old).free (ok p C).2.1,(ok p C).2.2⟩,λi p q C hq e=>by
        have z:=(y.ok i q hq).2.2;rw[<-e,(ok p C).2.1]at z;cases z⟩
theorem xS:V4 (Dg X.p X.w) X λ_ _ _=>False:=λ_ _ _ _ _ _ _ h=>by obtain⟨_,_,_,_,_,_,_,_,_,_,_,_,_,_,_,q⟩:=h;exact q.elim
theorem mM{K}:
  Du (Rg (Dg P w) P w K mg base N qual scope f cd A outer s H E) λg od _ H'=>E g od H':=by
 have a:=(Cj (P:=P) (w:=w) (K:=K) (mg:=mg) (base:=base) (N:=N) (qual:=qual) (scope:=scope) (f:=f) (cd:=cd) (A:=A) (outer:=outer) (s:=s) (H:=H) (E:=E)).t.pass rfl;intro dG σ H1 j e c I h;exact a dG σ H1 j e c I h
theorem Fun.okX{K}{st}(F:Fun K x qual st f fd)(S:FnScope N ps<|Yk st)(c:∀vs H Q E,sp vs H Q E->vs.length=ps.length)(a:∀g A outer s H vs Q E,dU k (A.deeper<|nn qual (Yk st) s.heap.objs.size f g)->sp vs H Q E->
   ∃t,Ma (Rg (Dg P w) P w K mg base N qual (Yk st) f g A outer s H E) (W6 st) t/\t {nx:=λ_ H'=>Q .non H',rt:=Q} (L2.Qn N vs) H):FnOk P w K mg base (Dg P w) (k+1) f fd ps sp:=by
 obtain⟨p,od,kV,n,o,r,g,q,l,rfl,lk,j⟩:=F.ex;exact UH lk j S c λA outer s H vs Q E m h=>a g A outer s H vs Q E m h
theorem sI(i:Nat){x:Str}{c:Pos}(m:X.N.Nodup)(l:PE X a<|liftX Z fx)(j:‹X.N[i]? =aA x›)(f:‹Loc X.e.scope x›)(hs:‹i6 a (aA<|.Name x c) pos.line X.e=jh aE›)(hf:‹X.fn x=aC\/X.e.scope.names.lookup x=aA .local›):
  PS X (.Assign [.Name x c] a pos) (liftS Z<|VM i fx):=(T_ m j f l hs hf).imp λ_ _ _ h=>sL h
theorem up(i:Nat){x:Str}{a ZA cpos:Pos}(j:PE X b<|liftX Z fx)(l:‹Vr X i x›)(f:‹Mc X (.Name x a) "append" ZA cpos b []›)(c:‹i6 (.Call (.Attribute (.Name x a) "append" ZA) [b] [] cpos) aB pos.line X.e=jh aE›):
  PS X (.Expr (.Call (.Attribute (.Name x a) "append" ZA) [b] [] cpos) pos) (liftS Z<|XT i fx):=
 (Q9 (Ow gw mm mj Oo (Jy (i:=i) l) (Y8 j Wu f.st) f) c).imp λ_ _ _ h=>sK h
inductive ExcOk(K:ak)(C:aq)(VD:List am)(ZJ:String):Prop where
 |mk (dd nm bs ns qn hd sn sub ab col bm s0 s1 s2 s3 s5) (ho:K.lookup C=aA ⟨.type "type",dd,.cls ⟨nm,bs,.ref C::bm,ns,qn,hd,sn,sub,ab,col,aE⟩,⟨[s0,s1,s2,s3,aA<|.builtin ZJ,s5]⟩⟩) (ht:PySem.W.tailIn K VD bm=aC) (hok:PySem.W.nsOkIn K ns=aC) (fR:gu K ns "__init__"=aA aB)
theorem C6{K}(X:K.In h)(s:mg x=aA (.ref C))(q:ExcOk K C VD ZJ):IH x C VD ZJ mg h:=by obtain⟨dd,nm,bs,ns,o,hd,sn,sub,ab,col,bm,n,m,l,j,f,r,p,a,c⟩:=q;exact⟨s,bm,ns,nm,o,bs,hd,sn,sub,ab,col,dd,n,m,l,j,f,_,X _ _ r,.of_isNs<|PySem.W.isNs_of_in X a,PySem.W.nsMap_none_of_in X a c,PySem.W.tail_of_in X p⟩
theorem mL:∀h bm,OwnTail h VEB bm->bm.contains (.type "BaseException")=aC:=λh bm t=>t.hasType Γ
theorem Ka{np cpos cp}{y}{j}(m:K0 X λg od H'=>Z.x g od [] H')(q:X.calm=aC)(n:IH x C VEB "ValueError.__new__" X.mg X.base)(r:Bh X.K x C)(o:∀g od σ H',Z.x g od σ H'->Z.x g od [] H':=by exact λ_ _ _ _ h=>h)(c:‹X.ex=[]›)(p:‹Gl X x›)(l:‹Se X (.Constant (.str y) j cp) []›)(a:‹((qt cpos<|jv [.Constant (.str y) j cp] X.e).any λx=>x.1)=aE›)(f:∃z i,qt cpos (jv [.Constant (.str y) j cp] X.e)=(aE,z)::i:=by exact⟨_,_,rfl⟩)(hd:‹Nd x›):
  PS X (.Raise (aA<|.Call (.Name x np) [.Constant (.str y) j cp] [] cpos) aB pos) (liftS Z<|E8 x):=
 (lX m q c n p (Y8 V3 Wu l) l a f mL hd).imp λ_ _ _ h=>pM r o h
theorem xR{fb}(o:∀G xe i,C4 (X.inTry G xe) i->Ma (X.inTry G xe) body (liftS (Z.wish i) fb))(ok:∀h∈h0::hs,(h.hd Z).Ok X)(a:∀h∈h0::hs,h.Sub X.K)(l:‹X.ex=[]›)(c:‹X.stack=X.e::X.outer›)(j:‹X.e.frame=aA X.e.locals›):
  PS X (.Try body (((h0::hs).map<|HX.hd Z).map Hd.ast) [] [] pos) (liftS Z<|YN fb<|(h0::hs).map HX.hf):=
 (sC (tb:=λi=>liftS (Z.wish i) fb) (h0:=h0.hd Z) (hs:=hs.map<|HX.hd Z) o (λh m=>by
  have f:h∈(h0::hs).map (HX.hd Z):=m;obtain⟨g,n,rfl⟩:=av.mp f;exact ok g n) l c j).imp λ_ _ _ h=>xU (hs:=h0::hs) a h
theorem Kb{P:aq->Prop}{K}:∀c∈([]:À Str),∀C,Bh K c C->P C:=λ_ h=>nomatch h
theorem JR{P:aq->Prop}{K}{c}{a}(x:Bh K c a)(m:P a)(t:∀c∈r,∀C,Bh K c C->P C):∀d∈c::r,∀C,Bh K d C->P C:=λd hd C f=>by
 rcases az.mp hd with e|e
 .subst e;have z:=x.symm.trans f;cases z;exact m
 .exact t d e C f
end
theorem dL.trackO{σ:L2.St}(I:dL X dG σ H s)(E:X.s₀.heap.get? a=aB)(f:H a=aB)(le:a≠X.e.locals)(F:∀x c,X.e.cells.lookup x=aA c->c≠a)(B:∀p∈X.pn++dG,p.1≠a)(h:Wc X.p X.w (upd H a o) s.heap a o):dL X dG σ (upd H a o) s:=by
 refine⟨I.ok,I.os,I.bare,⟨I.base.keep,I.base.slot,λb o q n C=>?_,I.base.there,λb xs q=>?_,λb o u q=>?_,λb ps q=>?_⟩,I.loc,I.cell,?_,λx c A=>?_,λp j=>?_,λb u q=>?_,I.len⟩
 .rw[Zs (λz=>by rw[z,E]at q;cases q)];exact I.base.free b o q n C
 .have:=I.base.tups b xs q;rw[Zs (λz=>by rw[z,f]at this;cases this)];exact this
 .have:=I.base.frzs b o u q;rw[Zs (λz=>by rw[z,f]at this;cases this)];exact this
 .obtain⟨m,this⟩:=I.base.tbls b ps q;exact⟨m,by rw[Zs (λz=>by rw[z,f]at this;cases this)];exact this⟩
 .rw[Zs<|Ne.symm le];exact I.free
 .rw[Zs<|F x c A];exact I.freeC x c A
 .obtain⟨q,n,r⟩:=I.pin p j;exact⟨q,by rw[Zs<|B p j];exact n,r⟩
 .by_cases l:b=a
  .subst l;rw[Z8]at q;cases q;exact h
  .rw[Zs l]at q;exact(I.hok b u q).stay (λc v _ z=>z) (λc z=>by rw[Zs (λy=>by rw[y,f]at z;cases z)];exact z) (λc xs z=>by rw[Zs (λy=>by rw[y,f]at z;cases z)];exact z) λc o z=>by rw[Zs (λy=>by rw[y,f]at z;cases z)];exact z
def uZ(a:À (TE×TE)):TE:=λσ H Q=>Xe a σ H λps H2=>∃kvs:À (Key×V),ps=kvs.map (λc=>(kV c.1,c.2))/\kvs.length<=15/\∀p ep,H2 p=aB->Q (.ref p) (upd H2 p<|.dK (Rj [] kvs) ep)
theorem mK(h:PPs X pos keys values trs)(y:keys.all (·.isSome)=aC)(hl:keys.length=values.length)(h0:keys≠[])(L:keys.length<=15):PE X (.Dict keys values pos)<|uZ trs:=by
 intro dG s σ H Q I q;have hn:=I.hok.fresh<|cj s.heap.objs.size;have i:=I.kept (h':=s.heap.push {cls:=.type "dict",data:=.dict #[]}) (t':=s.toks)<|λ_ _ q=>aw _ q;have n:(s.heap.push {cls:=.type "dict",data:=.dict #[]}).get? s.heap.objs.size=aA {cls:=.type "dict",data:=.dict #[]}:=dn _ rfl;have j:∀b o,s.heap.get? b=aA o->b≠s.heap.objs.size:=λb o z=>eh<|cn z;have f:∀p∈X.pn++dG,p.1≠s.heap.objs.size:=λp m=>j _ _ (I.pin p m).1;have a:s.heap.objs.size≠X.e.locals:=λz=>g6 _<|dh (z▸I.lt)<|cj _;have r:∀x c,X.e.cells.lookup x=aA c->c≠s.heap.objs.size:=λx c ec=>by obtain⟨v,o,Y,_⟩:=I.cell x c ec;exact j _ _ Y
 have F:X.s₀.heap.get? s.heap.objs.size=aB:=rg I.sz;have I1:=i.pins_of (pins':=(s.heap.objs.size,{cls:=.type "dict",data:=.dict #[]})::dG) λp m=>by
  rcases az.mp m with z|z
  .subst z;exact⟨n,hn,a,I.nofs<|cj _,λv z=>nomatch z⟩
  .exact i.pin p (di _ z)
 refine wpAny_Dict_walk (knd:=Yr X.p X.w) y hl h0 L<|Wy (h _ _ σ _ _ I1 q) λws B C=>?_;refine Wv λ_ G=>?_;obtain⟨ps,H2,T,E,kvs,ep,lk,R⟩:=C;subst ep;obtain⟨M,c,N⟩:=Kv (P:=X.p) (w:=X.w) E;obtain⟨U,p2,p3,p4,p5⟩:=T.pin (s.heap.objs.size,{cls:=.type "dict",data:=.dict #[]})<|di _ ac;have l:Wc X.p X.w (upd H2 s.heap.objs.size<|.dK [] 0) B.heap s.heap.objs.size<|.dK [] 0:=(show Wc X.p X.w (λ_=>aB) _ _ (.dK [] 0)from Ku s.heap I.big).stay (λb u K z=>by
  rcases K with rfl|K
  .rw[n]at z;cases z;exact U
  .cases K) (λ_ z=>nomatch z) (λ_ _ z=>nomatch z) λ_ _ z=>nomatch z
 have g:dL X dG σ (upd H2 s.heap.objs.size<|.dK [] 0) B:=dL.trackO (T.pins_of (pins':=dG) λp m=>T.pin p<|di _<|ag _ m) F p2 a r f l;obtain⟨z,hd,J,O,dd⟩:=Dp g.hok ⟨_,(show upd H2 s.heap.objs.size (.dK [] 0) s.heap.objs.size=aA (.dK [] 0)from Z8)⟩;cases O;apply G;refine⟨M,c,dd,λh' A hs=>?_⟩;have hz:(Rj [] kvs).length<=sizeLine:=by have h1:=Mu kvs [];rw[pj]at h1;rw[jx];lia
 have he:∃q,h'.get? s.heap.objs.size=aA q:=let⟨q,_,_,W,_⟩:=A;⟨q,W⟩
 obtain⟨ep,ok⟩:=Xd hz hd (N.merge .nil) A;have Z:L2.dL X dG σ (upd (upd H2 s.heap.objs.size<|.dK [] 0) s.heap.objs.size<|.dK (Rj [] kvs) ep) {B with heap:=h',toks:=B.toks+ws.length}:=Ac g (by rw[Z8];exact j9) hs he<|ok _;rw[nU]at Z;exact⟨.ref s.heap.objs.size,_,Z,rfl,R _ ep p2⟩
section
variable{K:ak}{Z:dP K}{σ:L2.St}{H:Hp}
theorem iR(m:∀v H,Q v H->Q' v H)(h:liftE Z f σ H Q):liftE Z f σ H Q':=by obtain⟨F,δ,own,rv,δ',s,e,k⟩:=h;exact⟨F,δ,own,rv,δ',s,e,λv H' F' j a b c d=>m _ _<|k v H' F' j a b c d⟩
def tPD(Z:dP K)(l:À (Str×FE)):À (TE×TE):=l.map λp=>(tC<|.str p.1,liftE Z p.2)
@[simp]def Xv:List (Str×FE)->FD
 | []=>Zp
 |p::r=>Zl p.2<|Xv r
theorem LK:∀l {σ:L2.St} {H:Hp} {R:À (V×V)->Hp->Prop},liftD Z (Xv l) σ H (λvs H'=>R ((l.map λp=>V.str p.1).zip vs) H')->Xe (tPD Z l) σ H R
 | [],σ,H,R,h=>by have:=P6 h;exact this
 |p::r,σ,H,R,h=>by have h2:=Tb (fe:=p.2) (fd:=Xv r) h;exact iR (λv H1 q=>LK r (R:=λps a=>R ((.str p.1,v)::ps) a) q) h2
@[simp]def Xw(l:List<|Str×FE):FE:=λδ=>(Xv l δ).bind λp=>match Mw p.1 l.length with|true=>some (.tmp<|.oK (l.map λq=>.inr q.1) p.1,p.2)|false=>none
theorem Sk:∀g acc,((acc++g).map (·.1)).Nodup->Rj acc g=acc++g
 | [],acc,_=>by show acc=acc++[];rw[iq]
 |p::r,acc,h=>by
  have e:Qi acc p.1 p.2=acc++[p]:=by unfold Qi;rw[dY];intro z;obtain⟨q,a,z⟩:=EQ.mp z;rw[cb,iw]at h;exact h.2.2 p.1 (av.mpr ⟨q,a,da z⟩) p.1 Δ rfl
  show Rj (Qi acc p.1 p.2) r=_;rw[e,Sk r (acc++[p]) η];simp
theorem iQ{l:À (Str×FE)}(h:(l.map (·.1)).Nodup):(l.map λq=>(Sum.inr q.1:Key)).Nodup:=by
 have:(l.map λq=>(Sum.inr q.1:Key))=(l.map (·.1)).map Sum.inr:=by rw[f7];rfl
 rw[this];exact wr _ (λa b c z=>c<|Sum.inr.inj z) h
theorem NH:∀(l:À (Str×FE)) (vs:À V),(l.map λp=>V.str p.1).zip vs=((l.map λq=>(Sum.inr q.1:Key)).zip vs).map λg=>(kV g.1,g.2)
 | [],_=>rfl
 |_::_,[]=>rfl
 |p::r,v::vs=>by rw[cg,cg,m8,m8,cg,NH r vs];rfl
end
section
variable{X:Cx}{Z:dP X.K}{a b c:dz}{fa fb fc:FE}{pos:Pos}
theorem TX:PPs X pos [] []<|tPD Z []:=λdG s σ H Q I h=>pairTrees_nil_walk ⟨[],H,I,.nil,h⟩
theorem Me{ks}{vs}{l}(w:PE X a<|liftE Z fa)(z:PPs X pos ks vs<|tPD Z l):PPs X pos (aA (.Constant (.str k) j p)::ks) (a::vs)<|tPD Z ((k,fa)::l):=λdG s σ H Q I h=>
  pairTrees_cons_walk (Wy (V3 dG s σ H _ I h) λu m ⟨x,H1,C,o,v⟩=>Wy (w dG m σ H1 _ C v) λF f ⟨y,H2,B,n,r⟩=>
   Wy (z dG f σ H2 _ B r) λws K ⟨ps,E,A,c,q⟩=>⟨(x,y)::ps,E,A,.cons ⟨o,n⟩ c,q⟩)
theorem Xx(h:PPs X pos keys values<|tPD Z l)(v:ks.Nodup)(x:‹l.map (·.1)=ks›)(n:‹l.length<=15›)(m:‹keys.all (·.isSome)=aC›)(E:‹keys.length=values.length›)(h0:keys≠[]:=by exact EO _ _)(o:‹keys.length=l.length›):PE X (.Dict keys values pos)<|liftE Z<|Xw l:=(mK h m E h0 (by rw[o];exact n)).imp λ_ _ _ q=>by
   obtain⟨F,δ,own,rv,δ',s,e,k⟩:=q;refine L2.dO e λds δ1 H r=>?_;dsimp only at r;split at r
   .rename_i f;replace f:=Rm f;cases r;refine LK l ⟨F,δ,own,ds,_,s,H,λvs H1 K j z A B y=>?_⟩;have u:vs.length=l.length:=by rw[<-y.length];exact f
    have o:(((l.map λq=>(Sum.inr q.1:Key)).zip vs).map (·.1))=l.map λq=>(Sum.inr q.1:Key):=ut (by rw[aj,u];exact cj _);have hs:(((l.map λq=>(Sum.inr q.1:Key)).zip vs).map (·.2))=vs:=ur (by rw[aj,u];exact cj _);refine⟨(l.map λq=>(Sum.inr q.1:Key)).zip vs,?_,?_,λp ep C=>?_⟩
    .exact NH l vs
    .rw[l5,aj,u,Nat.min_self];exact n
    .rw[Sk _ [] (by rw[f8,o];exact iQ (by rw[x];exact v)),f8];exact B2.one (λw H' F' ns a b c t=>k w H' F' j (z.trans a) (A.trans b) c ⟨ns,t⟩) B (.oK o (by rw[hs];exact y)) C
   .cases r
end
@[simp]noncomputable def W7(a:À Str)(fd:FD):FD:=λδ=>(fd δ).bind λp=>some (a.map D.str++p.1,p.2)
theorem pL{K}{Z:dP K}:∀ss {R:À V->Hp->Prop},liftD Z (W7 ss fd) σ H R->liftD Z fd σ H λvs H'=>R (ss.map V.str++vs) H'
 |ss,R,h=>by obtain⟨F,δ,own,ds,δ',s,e,k⟩:=h;refine L2.dO e λj δ1 m l=>?_;cases l;refine⟨F,δ,own,j,δ1,s,m,λvs H' F' f a b c r=>k _ H' F' f a b c ?_⟩;exact dJ.append (strs_rep ss) r
where strs_rep {F:Hp}:∀ss:List Str,dJ K F (ss.map D.str) (ss.map V.str)
 | []=>.nil
 |x::r=>.cons (.str x)<|strs_rep r
section
variable{X:Cx}{Z:dP X.K}
noncomputable abbrev cst(x:Str×Nat×Pos):Expr:=.Constant (.str x.1) x.2.1 x.2.2
theorem JQ(h:PA X es t):∀l:À (Str×Nat×Pos),PA X (l.map cst++es) λσ H R=>t σ H λvs H'=>R ((l.map λx=>V.str x.1)++vs) H'
 | []=>h
 |x::r=>(Y8 (e:=cst x) (es:=r.map cst++es) V3 (JQ h r) rfl).imp λσ H R q=>q
theorem Qq(l:À (Str×Nat×Pos))(h:PA X es<|liftD Z fd):PA X (l.map cst++es) (liftD Z (W7 (l.map (·.1)) fd)):=
 (JQ h l).imp λσ H R q=>by have:=pL (l.map (·.1)) q;rw[f7]at this;exact this
end
theorem LJ{Z:dP X.K}{pos:Pos}{np hp}(s:∀g xe i,C4 (X.inTry g xe) i->Ma (X.inTry g xe) body (liftS (Z.wish i) fb))(mg:X.mg x=aA (.ref B))(o:tm X.K (.ref B)=aA (.type "type")/\pg X.K B=aC/\jd X.K B (.type "BaseException")=aA aC)(q:∀a,Ma (X.inSuite a) (p::suite)<|liftS Z f)(r:∀c∈yes,∀C,Bh X.K c C->jd X.K C (.ref B)=aA aC)(hn:∀c∈no,∀C,Bh X.K c C->jd X.K C (.ref B)=aA aE)(u:‹Gl X x›)(v:‹Nd x›)(n:‹X.ex=[]›)(l:‹X.stack=X.e::X.outer›)(m:‹X.e.frame=aA X.e.locals›):
  PS X (.Try body [.ExceptHandler (aA<|.Name x np) aB (p::suite) hp] [] [] pos) (liftS Z<|YN fb [⟨aB,yes,no,f⟩]):=
 xR (h0:=⟨x,np,aB,p,suite,hp,B,yes,no,f⟩) (hs:=[]) s (λx j=>by rw[ao.mp j];exact⟨u,mg,o.1,o.2.1,o.2.2,v,(λ_ _ h=>nomatch h),q⟩) (λx j=>by rw[ao.mp j];exact⟨r,hn⟩) n l m
noncomputable def Bj{α:Type}(xs:À α)(lo a st:Á Int):À α:=
 (CA (l9 lo a st xs.length).1 (l9 lo a st xs.length).2.1 (l9 lo a st xs.length).2.2).filterMap (xs[·]?)
theorem Yg.pickI(r:Yg xs us):∀g:À Nat,Yg (g.filterMap (xs[·]?)) (g.filterMap (us[·]?))
 | []=>.nil
 |i::g=>by
  cases h:xs[i]? with
  |none=>rw[jm h,jm<|r.none_of h];exact Yg.pickI r g
  |some x=>obtain⟨u,a,c⟩:=r.get h;rw[ji h,ji a];exact .cons c<|Yg.pickI r g
theorem mJ(us lo hi st):yo us.toArray lo hi st=(Bj us lo hi st).toArray:=by unfold yo Bj;simp
def RC(X:Cx)(r:V->Á Int->Á Int->Á Int->Hp->VK->Prop):Prop:=
 ∀(dG:À (aq×Obj)) (s:au) (σ:St) (H:Hp) (x:V) (v c a vs:am) (lo h st:Á Int) (f:aq) (Q:VK),dL X dG σ H s->Z9 x v->s.heap.IsSliceOf f c a vs->AM c lo->AM a h->AM vs st->r x lo h st H Q->
  ∃T id,si (.type T) "__getitem__"=jh (aA<|.builtin id)/\s.TypeIs v T/\de (dw X.p X.w) X.A (wg v<|.ref f) (EP X dG σ Q) X.xe s
def hY(r:V->Á Int->Á Int->Á Int->Hp->VK->Prop)(te:TE)(c f a:TO):TE:=λσ H Q=>te σ H λx H1=>c σ H1 λl H2=>f σ H2 λu j=>a σ j λw h=>r x l u w h Q
theorem jU{e st:dz}{lo n:Á dz}(i:RC X r)(M:PE X e te)(G:PO X lo tl)(g:PO X n th)(m:PO X (aA st) ts):PE X (.Subscript e (.Slice lo n (aA st) p2) pos)<|hY r te tl th ts:=by intro dG s σ H Q I h;refine xv<|Wy (M dG s σ H _ I h) λv A a=>?_;obtain⟨x,H1,Y,B,K⟩:=a;refine HE<|Wy (G dG A σ H1 _ Y K) λj z ⟨l,H2,W,Z,F⟩=>Wy (g dG z σ H2 _ W F) λf y ⟨u,H3,U,P,E⟩=>Wy (m dG y σ H3 _ U E) λvs c a=>?_;refine Wv λ_ p=>?_;obtain⟨w,o,R,L,C⟩:=a;have O:dL X dG σ o {c with heap:=c.heap.push {cls:=.type "slice",data:=.fields #[j,f,vs]}}:=R.kept (t':=c.toks) λb ob q=>aw _ q;obtain⟨T,id,N,m,J⟩:=i dG {c with heap:=c.heap.push {cls:=.type "slice",data:=.fields #[j,f,vs]}} σ o x v j f vs l u w c.heap.objs.size Q O B (DC ..) Z P L C;apply p;exact FH (ops:=[v,.ref c.heap.objs.size]) m N J (by with_unfolding_all rfl)
def RB(K:ak):V->Á Int->Á Int->Á Int->Hp->VK->Prop:=λx lo c st H Q=>∃a xs,x= .ref a/\W3 K H a xs/\st≠aA 0/\∀p,H p=aB->Q (.ref p) (upd H p<|.lst<|Bj xs lo c st)
theorem mI:RC X<|RB X.K:=by
 intro dG s σ H x v A z vs lo f st B Q I m hs u p n h;obtain⟨a,xs,rfl,w,h0,q⟩:=h;cases m;obtain⟨dI,r,l,hz⟩:=I.list w;have c:=r.length;refine⟨"list",_,wf.lookup,l.isList.typeIs,?_⟩;refine yg l.isList hs u p n h0 ?_ (by rw[c9]<;> lia);have hsz:=slicePick_size_le dI.toArray lo f st;rw[mJ]at hsz⊢;have j:Yg (Bj xs lo f st)<|Bj dI lo f st:=by unfold Bj;rw[c];exact r.pickI _
 have y:=j.length;simp only[c9]at hsz;refine⟨.ref s.heap.objs.size,_,I.laid (t':=s.toks) (o:=.lst<|Bj xs lo f st) (λb C q=>aw _ q) (cj _) ?_,rfl,q _<|I.hok.fresh<|cj _⟩;exact⟨Θ,_,0,j,dn _ rfl⟩
theorem dJ.pickI{K}(r:dJ K F xs us):∀g:À Nat,dJ K F (g.filterMap (xs[·]?)) (g.filterMap (us[·]?))
 | []=>.nil
 |i::g=>by
  cases h:xs[i]? with
  |none=>
   have h2:us[i]? =aB:=by rw[ox]at h⊢;rw[<-r.length];exact h
   rw[jm h,jm h2];exact dJ.pickI r g
  |some x=>obtain⟨u,a,c⟩:=r.get h;rw[ji h,ji a];exact .cons c<|dJ.pickI r g
theorem dJ.pick{K}(r:dJ K F xs us)(lo hi st):dJ K F (Bj xs lo hi st)<|Bj us lo hi st:=by unfold Bj;rw[r.length];exact r.pickI _
@[simp]def S'(g:D->Á Int->Á Int->Á Int->Á SV)(fe:FE)(fl a fs:FO):FE:=λδ=>(fe δ).bind λp=>(fl p.2).bind λl=>(a l.2).bind λh=>(fs h.2).bind λw=>(rdv p.1 w.2).bind λd=>(g d l.1 h.1 w.1).bind λsv=>some (.tmp sv,w.2)
section
variable{K:ak}{Z:dP K}{H:Hp}{σ:L2.St}{Q:VK}
def uY(Z:dP K)(r:V->Á Int->Á Int->Á Int->Hp->VK->Prop)(g:D->Á Int->Á Int->Á Int->Á SV):Prop:=
 ∀(F H:Hp) (σ:L2.St) (δ:Y5) (own:Nat->Zy) (x:V) (d:D) (lo a st:Á Int) (sv:SV) (Q:VK),SR Z F H σ δ own->Yz K F H d x->g d lo a st=aA sv->B2 Z F H σ δ own sv Q->r x lo a st H Q
@[simp]def XS:D->Option Int->Option Int->Option Int->Option SV
 | .lst xs,lo,hi,st=>if st≠aA 0 then aA (.ol<|Bj xs lo hi st)else aB
 |_,_,_,_=>aB
theorem yU:uY Z (RB K) XS:=by
 intro F H σ δ own x d lo l st sv Q s f e k;unfold XS at e;split at e
 .split at e
  .rename_i h0;cases e;obtain⟨a,vs,ex,j,c⟩:=f.lst s.le;exact⟨a,vs,ex,j,h0,λp h=>k.lst s (c.pick _ _ _) h⟩
  .cases e
 .cases e
end
theorem yT{Z:dP X.K}{st}{lo:Á dz}(ha:PE X a<|liftE Z fa)(W:PO X lo<|liftO Z fl)(Y:PO X g<|liftO Z fh)(hs:PO X (aA st)<|liftO Z fs):PE X (.Subscript a (.Slice lo g (aA st) p2) pos)<|liftE Z<|S' XS fa fl fh fs:=
 (jU mI ha W Y hs).imp λσ H Q h=>by
  refine Wv λ_ I=>?_;obtain⟨F,δ,own,rv,δ',s,e,k⟩:=h;refine L2.dO e λL δ1 e1 e=>?_;refine L2.dO e λlo δ2 e2 e=>?_;refine L2.dO e λg j e3 e=>?_;refine L2.dO e λst f T e=>?_;refine L2.dN e λd e4 e=>?_;refine L2.dN e λsv e5 e=>?_;cases e;apply I;refine⟨F,δ,own,L,δ1,s,e1,λv H1 F1 u A C R U=>?_⟩;obtain⟨i,o,E,P⟩:=R.settleR U;refine⟨i,δ1,u,lo,δ2,E,e2,λH2 F2 r z n O=>⟨F2,δ2,r,g,j,O,e3,λH3 F3 p y m N=>⟨F3,j,p,st,f,N,T,λH5 F5 c w l G=>?_⟩⟩⟩;exact yU F5 H5 σ f c v d lo g st sv Q G (G.rd (P.mono<|n.trans<|m.trans l) e4) e5 λq H4 F4 ns x B M J=>
   k q H4 F4 c (A.trans<|z.trans<|y.trans<|w.trans x) (C.trans<|o.trans<|n.trans<|m.trans<|l.trans B) M ⟨ns,J⟩
section
variable{α:Type}{P:À α->Prop}
@[elab_as_elim]theorem of1(h:∀a,P [a])(us)(c:us.length=1):P us:=by obtain⟨a,e⟩:=List.length_eq_one_iff.mp c;rw[e];exact h a
theorem ofC(h:∀a us,us.length=n->P (a::us))(us)(c:us.length=n+1):P us:=by
 cases us with
 |nil=>exact dt c Δ
 |cons a r=>exact h a r μ
@[elab_as_elim]theorem of2(h:∀a b,P [a,b])(us)(c:us.length=2):P us:=ofC (λa=>of1 (P:=λus=>P (a::us))<|h a) us c
@[elab_as_elim]theorem of3(h:∀a b c,P [a,b,c])(us)(f:us.length=3):P us:=ofC (λa=>of2 (P:=λus=>P (a::us))<|h a) us f
@[elab_as_elim]theorem of4(h:∀a b c d,P [a,b,c,d])(us)(f:us.length=4):P us:=ofC (λa=>of3 (P:=λus=>P (a::us))<|h a) us f
end
theorem mH(hs:(d==i7)=aE)(g:s.heap.get? d=aA od)(x:od.ExactDict)(c:od.data= .dict es ep)(k:Q (.ref s.heap.objs.size) {s with heap:=s.heap.push {cls:=.type "dict_keyiterator",data:=.fields #[.ref d,.int 0 0,.int es.size 0,.int ep 0]}}):de (dw prog w) A (CC<|.ref d) Q E s:=by
 have T:s.TypeIs (.ref d) "dict":=⟨od,g,x.1⟩
 refine DD T AF<|jt AF T PySem.F.entry_dict_iter (show de _ _ (pv.«dict.__iter__» _) _ _ _ from ?_)<|PySem.F.args_dict_iter_1 _;refine af (af<|nj T<|show de _ _ (jh<|g0 d) _ _ s from ay ?_);show de _ _ (va d >>=_) _ _ s;unfold va;rw[dY (by rw[hs];decide)];refine af<|ay<|af<|j7 g c<|af<|ng g c<|af<|nw<|ay ⟨_,rfl,"dict_keyiterator",_,⟨_,dn _ rfl,rfl⟩,jq.lookup,?_⟩;simpa[j4]using k
theorem mG(t:s.heap.IsKeyIter q d i n ep)(g:s.heap.get? d=aA od)(c:od.data= .dict es ep)(hn:es.size=n)(f:es[i]? =aA e)(k:∀h',h'.IsKeyIter q d (i+1) n ep->qi q s.heap h'->Q (aA e.key) {s with heap:=h'}):de (dw prog w) A (qr<|.ref q) Q E s:=by
 obtain⟨o,a,h,hd⟩:=id t;have T:=t.typeIs;refine af<|ud<|p8 (name:="__next__") T jq<|jt jq T v3 (af<|ay<|af<|af ?_)<|vt _
 first| (refine af<|mw T<|ay<|af<|vc a hd ?_)| (refine af<|o6 T<|ay<|af<|vc a hd ?_)
 have j:xn "dict_keyiterator"=aE:=rfl;show de _ _ (ite ((g0 d==ik)=aC) _ _) _ _ s;refine af<|ay<|af<|j7 g c ?_;rw[dY (by rw[hn];simp)];refine af<|ay<|af<|ng g c ?_;rw[dY Δ];refine ay ?_;dsimp only;rw[dY (show¬((i:Int)<0) by lia),wt,f];refine af ?_
 first| (refine af<|mw T<|ay<|af<|u7 T ?_)| (refine af<|o6 T<|ay<|af<|u7 T ?_)
 show de _ _ (FJ (.ref q) 1 (j4<|(i:Int)+1) >>=_) _ _ s;refine af<|se a hd Δ ?_;have t':(s.heap.update q (uh (·.setIfInBounds 1 (j4<|(i:Int)+1)))).IsKeyIter q d (i+1) n ep:=⟨_,lq _ a<|u8<|m6 hd _,(DN ..).trans h,(m6 hd _).trans<|by simp[j4]⟩
 refine af (j6 (af (u7 (s:={s with heap:=s.heap.update q (uh (·.setIfInBounds 1 (j4<|(i:Int)+1)))}) t'.typeIs<|show de _ _ (jh e.key) _ _ _ from ay<|ay ⟨_,rfl,ay<|k _ t'<|mr ..⟩)))
theorem mF(h:A.handled=aB)(t:s.heap.IsKeyIter q d i n ep)(g:s.heap.get? d=aA od)(c:od.data= .dict es ep)(hn:es.size=n)(p:n<=i)(k:∀h',Heap.ExtBut q s.heap h'->Q aB {s with heap:=h'}):de (dw prog w) A (qr<|.ref q) Q E s:=by
 obtain⟨o,f,r,hd⟩:=id t;have T:=t.typeIs;refine af<|ud<|p8 (name:="__next__") T jq<|jt jq T v3 (af<|ay<|af<|af ?_)<|vt _
 first| (refine af<|mw T<|ay<|af<|vc f hd ?_)| (refine af<|o6 T<|ay<|af<|vc f hd ?_)
 have l:xn "dict_keyiterator"=aE:=rfl;show de _ _ (ite ((g0 d==ik)=aC) _ _) _ _ s;refine af<|ay<|af<|j7 g c ?_;rw[dY (by rw[hn];simp)];refine af<|ay<|af<|ng g c ?_;rw[dY Δ];have j:es[i]? =aB:=Array.getElem?_eq_none Θ;refine ay ?_;dsimp only;rw[dY (show¬((i:Int)<0) by lia),wt,j];refine af ?_
 first| (refine af<|mw T<|ay ?_)| (refine af<|o6 T<|ay ?_)
 show de _ _ (FJ (.ref q) 0 ik >>=_) _ _ s;refine af (se f hd Δ<|show de _ _ (newExc (.type "StopIteration") [] >>=_) _ _ _ from af ?_);unfold newExc newTuple;refine af (nw (af (m:=FM _ _)<|wpAny_of_eq (a:=ik) (by first|rfl| (simp only[FM];rfl))<|nw ?_<|by size_fits)<|by size_fits);unfold raiseNew;refine af<|wpAny_handled ?_;rw[show A.in1.handled=HS from h];refine af<|ay<|wpAny_throw ?_;refine af<|uj (T:="StopIteration") (b:=aC) (by exact⟨_,dn _ rfl,rfl⟩) FK ?_;exact ay<|k _<|((mr ..).extBut.push _).push _
theorem jT(h:Pairs (Yr P w) es vs):es.length=vs.length:=by
 induction h with
 |nil=>rfl
 |cons _ _ _ a=>rw[ca,ca,a]
theorem jS{l:À α}{m:À β}(h:v6 R l m):∀{i:Nat} {x:α},l[i]? =aA x->∃y,m[i]? =aA y/\R x y:=by
 induction h with
 |nil=>intro i x c;simp at c
 | @cons a b as bs h1 t ih=>
  intro i x c;cases i with
  |zero=>simp at c;subst c;exact⟨b,Δ,h1⟩
  |succ j=>obtain⟨y,n,f⟩:=ih (i:=j) μ;exact⟨y,by simpa using n,f⟩
@[simp]noncomputable def YM:Key->D
 | .inl i=>.int i
 | .inr x=>.str x
theorem Sl{K:ak}:∀k:À Key,dJ K F (k.map YM) (k.map kV)
 | []=>.nil
 |k::r=>.cons (by
  cases k with
  |inl i=>exact .int i
  |inr x=>exact .str x)<|Sl r
section
variable{K:ak}
theorem yS:∀b,(aB:Á aq)=aA b->b=a:=λ_ h=>nomatch h
theorem mE(h:dQ K F (.oL pin xss) v ns):E3 λa ws ns'=>A4 (v= .ref a) (ns=(a,.lst ws)::ns') (dR K F xss ws ns') (∀b,pin=aA b->b=a):=by
 cases h with
 |oL c r=>exact⟨_,_,_,rfl,rfl,r,c⟩
theorem dR.take(n)(k:dR K F xss ws ns):dR K F (xss.take n) (ws.take n)<|ns.take n:=by
 induction k generalizing n with
 |nil=>cases n<;> exact .nil
 |cons r _ a=>cases n with
  |zero=>exact .nil
  |succ n=>exact .cons r<|a n
end
theorem M1(i)(a:‹Vr X i x›)
 :PE X (.Name x pos)<|Bb i:=Jy a
theorem jR(h:Yg xs us)(f:xs.all Y7=aC):us.countP (V8 x)=xs.countP λy=>Df y x:=by
 induction h with
 |nil=>rfl
 |cons r _ a=>rw[mo,ig]at f;rw[EN,EN,V9 r f.1,a f.2]
def LI(K:ak):V->À V->Hp->VK->Prop:=λx xs H Q=>∃p ys y,x= .ref p/\xs=[y]/\W3 K H p ys/\Y7 y=aC/\ys.all Y7=aC/\Q (.int ((ys.countP λz=>Df z y):Nat)) H
theorem mD:MtR X "list.count"<|LI X.K:=by intro dG s σ H x xs v us Q I m z h;refine Wv λ_ j=>?_;obtain⟨p,ys,y,rfl,rfl,B,fy,fs,q⟩:=h;cases m;obtain⟨u,rfl,o⟩:=Jw z;obtain⟨dI,r,⟨⟨C,dd,f,l⟩,n,e,c,a,hd⟩,hz⟩:=I.list B;apply j;simp only at c a hd;subst c hd;rw[<-jR r fs]at q;exact j8 yz ⟨_,e,rfl⟩ PySem.F.entry_list_count (PySem.F.args_list_count_2 _ _) (PySem.SeqAt.list_countAt p dI.toArray n dd l u<|V8 y) ⟨e,λw A=>Ov o fy r fs w (by simpa using A),.int _,H,I.tok _,⟨_,rfl⟩,q⟩
def NG:V->À V->Hp->VK->Prop:=λx xs H Q=>∃a b i,x= .str a/\xs=[.str b,.int i]/\Q (.int<|IR a b i) H
theorem mC:MtR X "str.find" NG:=by
 intro dG s σ H x xs v us Q I l m h;obtain⟨a,b,i,rfl,rfl,q⟩:=h;obtain⟨t,rfl⟩:=l;obtain⟨_,_,rfl,o,j⟩:=m.consI;cases j with
 |cons n f=>cases f;obtain⟨t',rfl⟩:=o;obtain⟨c,rfl⟩:=n;exact SC.find3 ⟨.int _,H,I.tok _,⟨_,rfl⟩,q⟩
section
variable{K:ak}
section
variable{Z:dP K}
@[simp]def E9:List D->Option SV
 | [.lst xs,x]=>if x.isFlat=aC/\xs.all D.isFlat=aC then aA (.fz<|.int ((xs.countP λy=>ZZ y x):Nat))else aB
 |_=>aB
theorem pK:K9 Z (LI K) E9:=by
 intro F H σ δ own vs ds sv Q s r e k;unfold E9 at e;split at e
 .rename_i xs x;split at e
  .rename_i hf;cases e;obtain⟨_,_,rfl,h1,t⟩:=r.consI;cases t with
   |cons h2 t=>cases t;obtain⟨a,us,rfl,f,c⟩:=h1.lst s.le;obtain⟨g1,j⟩:=XE h2 hf.1;obtain⟨g2,h⟩:=Xr c hf.2;refine⟨_,_,rfl,a,us,_,rfl,rfl,f,j,h,?_⟩;rw[g1,g2,List.countP_map];exact k.fz s<|.int _
  .cases e
 .cases e
@[simp]noncomputable def Xy:List D->Option SV
 | [.str a,.str b,.int i]=>aA<|.fz<|.int<|IR a b i
 |_=>aB
theorem pJ:K9 Z NG Xy:=by
 intro F H σ δ own vs ds sv Q s r e k;unfold Xy at e;split at e
 .cases e;obtain⟨_,_,rfl,h1,t⟩:=r.consI;cases t with
  |cons h2 t=>cases t with
   |cons a t=>cases t;refine⟨_,_,rfl,_,_,_,h1.str,by rw[h2.str,a.int],k.fz s<|.int _⟩
 .cases e
@[simp]noncomputable def ZX(i:Nat)(j:Int):FS:=λδ=>match δ[i]? with
 |some (aA<|.fz<|.int x)=>aA<|.nx<|δ.set i<|aA<|.fz<|.int<|x+j
 |_=>aB
theorem yR(h:liftS Z (ZX i j) E σ H):R_ i (tC<|.int j) (ipI λi j=>i+j) E σ H:=by
 obtain⟨F,δ,own,fl,s,e,k⟩:=h;unfold ZX at e;split at e
 .rename_i x f;cases e;obtain⟨v,a,c⟩:=s.at' i _ f;have r:=Q0 c;cases r;have l:i<σ.length:=(ci.mp a).1;exact⟨_,a,_,_,rfl,rfl,k _ H F _ (Zm.refl F)<|s.store (dW.fz<|.int _) l⟩
 .cases e
theorem Rv(s:SR Z F H σ δ own)(h:δ[i]? =aA (aA<|.oL pin xss)):
  ∃a ws ns,σ[i]? =aA (aA<|.ref a)/\own i=(a,HO.lst ws)::ns/\dR K F xss ws ns/\(∀b,pin=aA b->b=a)/\H a=aA (.lst ws)/\a∉Jj ns/\(Jj ns).Nodup:=by
 refine Wv λ_ j=>?_;obtain⟨v,p,l⟩:=s.at' i _ h;obtain⟨a,ws,ns,rfl,c,o,q⟩:=mE l;have f:=s.nod i;rw[c]at f;obtain⟨n,m⟩:=fm.mp f;apply j;exact⟨a,ws,ns,p,c,o,q,(s.ok i (a,.lst ws) (by rw[c];exact ac)).2.2,n,m⟩
theorem pI(s:SR Z F H σ δ own)(f:dQ K F sv (.ref p) [(p,o)])(c:H p=aB):dW Z F (upd H p o) own sv (.ref p) [(p,o)]:=by
 refine⟨f,Fs,λq a=>?_,λi q r a h e=>?_⟩
 .obtain rfl:=ao.mp a;exact⟨s.le.free c,s.old.free c,Z8⟩
 .obtain rfl:=ao.mp a;have j:p=r.1:=e;have z:=(s.ok i r h).2.2;rw[<-j,c]at z;cases z
@[simp]def QU:FE:=λδ=>some (.tmp<|.oL none [[]],δ)
noncomputable def Lo(i:Nat):FS:=λδ=>match δ[i]? with
 |some (aA<|.oL p xss)=>if xss.length<dg then aA (.nx<|δ.set i<|aA<|.oL p<|xss++[[]])else aB
 |_=>aB
@[simp]theorem mB(a:δ[i]? =some (some<|.oL p xss))(hz:xss.length<dg):Lo i δ=some (.nx<|δ.set i<|some<|.oL p<|xss++[[]]):=by unfold Lo;rw[a];exact dZ hz
theorem uX(h:liftS Z (Lo i) E σ H):Ch (tBM K "list" Be (Bb i)<|G1 (VO T7) T7) E σ H:=by
 obtain⟨F,δ,own,fl,s,e,k⟩:=h;unfold Lo at e;split at e
 .rename_i p xss u;split at e
  .rename_i hz;cases e;obtain⟨a,ws,ns,r,l,q,c,A,m,L⟩:=Rv s u;have n:(a,HO.lst ws)∈own i:=by rw[l];exact ac
   refine⟨_,r,.inl ⟨rfl,ws,.inl<|.inl A⟩,gr _,λb v=>?_⟩;have B:=Wz (o:=.lst []) v;have C:=s.grow B;have t:=pI (sv:=.ol []) s (.ol .nil) v;refine⟨a,ws,.ref b,rfl,rfl,B _ _ A,by rw[<-q.length];exact hz,?_⟩;have f:∀p∈own i,p.1≠b:=λp c z=>t.sep i (b,.lst []) p ac c z.symm;refine k σ _ F _ (Zm.refl F)<|C.changeT (sv':=.oL p<|xss++[[]]) (o':=.lst<|ws++[.ref b]) (ns':=(a,.lst<|ws++[.ref b])::(ns++[(b,.lst [])])) t u r n (.oL c<|q.snoc .nil) (λp c=>?_) ?_
   .rcases az.mp c with z|z
    .exact .inl z
    .rcases dm.mp z with z|z
     .exact .inr (.inl ⟨by rw[l];exact ag _ z,λw=>m<|av.mpr ⟨p,z,w⟩⟩)
     .exact .inr (.inr z)
   .show(a::(ns++[(b,HO.lst [])]).map (·.1)).Nodup;rw[cb];refine fm.mpr ⟨λz=>?_,?_⟩
    .rcases dm.mp z with z|z
     .exact m z
     .exact f _ n (ao.mp z)
    .refine iw.mpr ⟨L,Fs,λx Q y P z=>?_⟩;obtain⟨p,c,ep⟩:=av.mp Q;have j:y=b:=ao.mp P;exact f p (by rw[l];exact ag _ c) (by rw[ep,z,j])
  .cases e
 .cases e
theorem dR.getV{p:Nat}(k:dR K F xss ws ns)(e:xss[p]? =aA xs):E2 λb vs=>A3 (ws[p]? =aA (.ref b)) (ns[p]? =aA (b,HO.lst vs))<|dJ K F xs vs:=by
 induction k generalizing p with
 |nil=>cases e
 |cons r _ a=>cases p with
  |zero=>cases e;exact⟨_,_,rfl,rfl,r⟩
  |succ p=>have z:=a (p:=p) e;exact z
theorem dR.lenN(k:dR K F xss ws ns):xss.length=ns.length:=by
 induction k with
 |nil=>rfl
 |cons _ _ a=>exact congrArg (· +1) a
theorem mA{x:α}(h:ws[ws.length- 1]? =aA x):atI ws (-1)=aA x:=by
 have c:=(ci.mp h).1;have e:ws=ws.dropLast++[x]:=by
  have a:ws≠[]:=λz=>by subst z;simp at c
  have h2:ws.getLast a=x:=by rw[zj];exact(ci.mp h).2
  rw[<-h2];exact(xm a).symm
 rw[e];exact lL _ _
abbrev XR(K:ak)(i:Nat):TE:=tOp (VQ K) (Bb i)<|tC<|.int<|-1
theorem uW(s:SR Z F H σ δ own)(h:δ[i]? =aA (aA<|.oL pin xss))(o:xss[xss.length- 1]? =aA xs):
  ∃a ws ns b vs,σ[i]? =aA (aA<|.ref a)/\own i=(a,HO.lst ws)::ns/\dR K F xss ws ns/\H a=aA (.lst ws)/\ws[ws.length- 1]? =aA (.ref b)/\(b,HO.lst vs)∈own i/\H b=aA (.lst vs)/\dJ K F xs vs/\∀R,R (.ref b) H->XR K i σ H R:=by
 refine Wv λ_ n=>?_;obtain⟨a,ws,ns,j,m,c,v,l,u,q⟩:=Rv s h;obtain⟨b,vs,h1,h2,p⟩:=c.getV o;apply n;have f:(b,HO.lst vs)∈own i:=by rw[m];exact ag _<|gh h2
 rw[c.length]at h1;exact⟨a,ws,ns,b,vs,j,m,c,l,h1,f,(s.ok i _ f).2.2,p,λR r=>⟨_,j,a,ws,-1,_,rfl,rfl,.inl<|.inl l,mA h1,r⟩⟩
def Jp(i:Nat)(fe:FE):FS:=λδ=>match δ[i]? with
 |some (aA<|.oL _ xss0)=>if xss0.length=0 then aB else(fe δ).bind λq=>(frz q.1 q.2).bind λr=>match r.2[i]? with
  |some (aA<|.oL p xss)=>(xss[xss.length- 1]?).bind λxs=>if xs.length<dg then aA (.nx<|r.2.set i<|aA<|.oL p<|xss.set (xss.length- 1)<|xs++[r.1])else aB
  |_=>aB
 |_=>aB
theorem n'{α:Type}(yss)(x z:α):(yss++[x]).set ((yss++[x]).length- 1) z=yss++[z]:=by rw[ax,dv,CW,AW _ _<|cj _,wq,v8]
theorem JP{α:Type}(yss)(x:α):(yss++[x])[(yss++[x]).length- 1]? =aA x:=by rw[ax,dv,CW,jb<|cj _,wq];rfl
theorem Fb(a:δ[i]? =aA (aA<|.oL p xss0))(hn:xss0.length≠0)(h1:fe δ=aA (rv,δ1))(h2:frz rv δ1=aA (d,δ2))(c:δ2[i]? =aA (aA<|.oL p2<|yss++[xs]))(hz:xs.length<dg):
  Jp i fe δ=aA (.nx<|δ2.set i<|aA<|.oL p2<|yss++[xs++[d]]):=by
 unfold Jp;rw[a];dsimp only;rw[dY hn,h1,i5,h2,i5];rw[c];dsimp only;rw[JP,i5,dZ hz,n']
theorem jQ(h:liftS Z (Jp i fe) E σ H):Ch (tBM K "list" Be (XR K i)<|G1 (liftE Z fe) T7) E σ H:=by
 obtain⟨F,δ,own,fl,s,e,k⟩:=h;unfold Jp at e;split at e
 .rename_i p0 c hi;split at e
  .cases e
  rename_i hn0;refine Wv λ_ v=>?_;refine L2.dO e λrv δ1 f3 e=>?_;refine L2.dO e λd δ2 f4 e=>?_;obtain⟨l,T⟩:∃l,c[c.length- 1]? =aA l:=⟨c[c.length- 1]' Θ,cf Θ⟩
  obtain⟨a,ws,ns,b,y,M,en,kd,hH,hw,m0,G,_,top⟩:=uW s hi T;apply v;refine top _ ?_;refine⟨.inl ⟨rfl,y,.inl<|.inl G⟩,F,δ,own,rv,δ1,s,f3,λw H1 F1 J A L R Y=>?_⟩;obtain⟨F2,C,O,W⟩:=R.settleR Y;obtain⟨F3,f,B,P,U⟩:=O.frzR W f4;dsimp only at e;split at e
  .rename_i p xss N;refine L2.dN e λxs f5 e=>?_;split at e
   .rename_i hz;cases e;refine Wv λ_ v=>?_;obtain⟨a3,x,fM,u,j,r,X,I,n,m⟩:=Rv P N;rw[M]at u;cases u;have:aA (HO.lst x)=aA (HO.lst ws):=I.symm.trans<|A _ _ hH;cases this;have c1:ws[xss.length- 1]? =aA (.ref b):=by rw[r.length];exact hw
    obtain⟨ys,vs,k1,k2,k3,k4⟩:=r.app c1 m;rw[f5]at k1;cases k1;obtain⟨ns',j1,j2,j3⟩:=k4 U;apply v;have Q:(a,HO.lst ws)∈f i:=by rw[j];exact ac
    have o:(b,HO.lst vs)∈f i:=by rw[j];exact ag _ k2
    have g:a≠b:=λz=>n<|av.mpr ⟨_,k2,z.symm⟩;refine⟨b,vs,w,rfl,rfl,(P.ok i _ o).2.2,by rw[<-k3.length];exact hz,?_⟩;refine k σ _ F3 _ (L.trans<|C.trans B)<|P.change (sv':=.oL p<|xss.set (xss.length- 1)<|xs++[d]) (o':=.lst<|vs++[w]) (ns':=(a,.lst ws)::ns') N M o (.oL X j1) (λq hq=>?_) ?_
    .rcases az.mp hq with z|z
     .exact .inr ⟨by rw[z];exact Q,by rw[z];exact g⟩
     .rcases j3 q z with z|⟨z,z2⟩
      .exact .inl z
      .exact .inr ⟨by rw[j];exact ag _ z,z2⟩
    .show(a::Jj ns').Nodup;rw[j2];exact fm.mpr ⟨n,m⟩
   .cases e
  .cases e
 .cases e
end
end
section
variable{K:ak}
section
variable{Z:dP K}{H:Hp}{Q:VK}{E:Ends}
noncomputable def Lp(i:Nat):FE:=λδ=>match δ[i]? with
 |some (aA<|.oL _ xss)=>aA (.tmp<|.fz<|.int (xss.length:Nat),δ)
 |_=>aB
@[simp]theorem Lq(a:δ[i]? =some (some<|.oL p xss)):Lp i δ=some (.tmp<|.fz<|.int (xss.length:Nat),δ):=by unfold Lp;rw[a]
abbrev eQ(K:ak):À V->Hp->VK->Prop:=λxs H Q=>∃p ys,xs=[V.ref p]/\(W3 K H p ys\/Eu K H p ys)/\Q (.int ys.length) H
noncomputable def Rw(i:Nat):FE:=λδ=>match δ[i]? with
 |some (aA<|.oL _ (xs::_))=>aA (.tmp<|.fz<|.tup xs,δ)
 |_=>aB
@[simp]theorem iX(a:δ[i]? =some (some<|.oL p (xs::xss))):Rw i δ=some (.tmp<|.fz<|.tup xs,δ):=by unfold Rw;rw[a]
abbrev eP(K:ak):À V->Hp->VK->Prop:=λxs H Q=>∃p ys,xs=[V.ref p]/\((W3 K H p ys/\∀l,H l=aB->Q (.ref l) (upd H l<|.tup ys))\/(Eu K H p ys/\Q (.ref p) H))
noncomputable def Lr(j i:Nat):FS:=λδ=>match δ[i]? with
 |some (aA<|.oL p xss)=>(xss[xss.length- 1]?).bind λxs=>if i≠j/\j<δ.length then aA (.nx<|(δ.set i<|aA<|.oL p xss.dropLast).set j<|aA<|.ol xs)else aB
 |_=>aB
theorem n_(f:δ[i]? =aA (aA<|.oL p<|yss++[xs]))(a:i≠j)(c:j<δ.length):Lr j i δ=aA (.nx<|(δ.set i<|aA<|.oL p yss).set j<|aA<|.ol xs):=by unfold Lr;rw[f];dsimp only;rw[JP,i5,dZ ⟨a,c⟩,List.dropLast_concat]
theorem dR.dropLast(h:dR K F xss ws ns):dR K F xss.dropLast ws.dropLast ns.dropLast:=by rw[u9,u9,u9,<-h.length,<-h.lenN];exact h.take _
theorem uV(h:liftS Z (Lr j i) E σ H):XA (RQ K "list" RP<|Bb i) (Ko j) E σ H:=by
 obtain⟨F,δ,own,fl,s,e,k⟩:=h;unfold Lr at e;split at e
 .rename_i p xss g;refine L2.dN e λxs e1 P=>?_;split at P
  .rename_i R;cases P;obtain⟨a,ws,ns,X,L,x,C,G,B,J⟩:=Rv s g;obtain⟨b,vs,h1,h2,W⟩:=x.getV e1;have u:=(ci.mp h2).1;have c:ns=ns.dropLast++[(b,HO.lst vs)]:=by
    have o:ns≠[]:=λz=>by subst z;simp at u
    have U:ns.getLast o=(b,HO.lst vs):=by rw[x.lenN]at h2;rw[zj];exact(ci.mp h2).2
    rw[<-U];exact(xm o).symm
   have Q:(b,HO.lst vs)∈ns:=by rw[c];exact di _ ac
   have T:(b,HO.lst vs)∈own i:=by rw[L];exact ag _ Q
   have O:(a,HO.lst ws)∈own i:=by rw[L];exact ac
   have v:b≠a:=λz=>B<|av.mpr ⟨_,Q,z⟩;have f:=J;rw[c]at f;have n:(Jj ns.dropLast++[b]).Nodup:=by unfold Jj at f;rw[cb]at f;exact f
   obtain⟨N,n2,M⟩:=iw.mp n;refine⟨_,X,.inl ⟨rfl,ws,.inl<|.inl G⟩,a,ws,.ref b,rfl,rfl,G,by rw[<-x.length];exact h1,?_⟩;have sub:∀p∈ns.dropLast,p∈own i:=λp C=>by rw[L,c];exact ag _<|dr _ C
   have I:=s.change (sv':=.oL p xss.dropLast) (o':=.lst ws.dropLast) (ns':=(a,.lst ws.dropLast)::ns.dropLast) g X O (.oL C x.dropLast) (λq m=>by
    rcases az.mp m with z|z
    .exact .inl z
    .exact .inr ⟨sub q z,λw=>B<|av.mpr ⟨q,by rw[c];exact dr _ z,w⟩⟩) (by
    show(a::Jj ns.dropLast).Nodup;exact fm.mpr ⟨λz=>B (by
     obtain⟨q,m,Y⟩:=av.mp z;exact av.mpr ⟨q,by rw[c];exact dr _ m,Y⟩),N⟩)
   have ok:=s.ok i _ T;have t:dW Z F (upd H a<|.lst ws.dropLast) (put own i ((a,.lst ws.dropLast)::ns.dropLast)) (.ol xs) (.ref b) [(b,.lst vs)]:=by
    refine⟨.ol W,Fs,λq m=>?_,λl q r m A z=>?_⟩
    .obtain rfl:=ao.mp m;exact⟨ok.1,ok.2.1,by rw[Zs v];exact ok.2.2⟩
    .obtain rfl:=ao.mp m;by_cases u:l=i
     .subst u;rw[Yi]at A;rcases az.mp A with y|y
      .subst y;exact v z
      .exact M r.1 (av.mpr ⟨r,y,rfl⟩) b ac z.symm
     .rw[Yp u]at A;exact s.sep i l _ r (Ne.symm u) T A z
   exact k _ _ F _ (Zm.refl F) (I.store t (by rw[s.len];exact R.2))
  .cases P
 .cases e
def Uw(H:Hp)(ns:Zy):Hp:=λb=>if b∈Jj ns then aB else H b
theorem LH:Zm (Uw H ns) H:=λb o e=>by
 unfold Uw at e;split at e
 .cases e
 .exact e
theorem Rx(h:b∉Jj ns):Uw H ns b=H b:=dY h
theorem Sm(h:Uw H ns b=aB):b∈Jj ns\/H b=aB:=by
 by_cases a:b∈Jj ns
 .exact .inl a
 .rw[Rx a]at h;exact .inr h
def spM(K:ak)(g:aq->À (À D)->Á (À (À D))):Sp:=λvs H Q _=>∃F a xss ws ns yss,vs=[V.ref a]/\Zm F H/\dR K F xss ws ns/\(Jj ((a,HO.lst ws)::ns)).Nodup/\(∀p∈(a,HO.lst ws)::ns,F p.1=aB/\H p.1=aA p.2)/\g a xss=aA yss/\
 ∀H' F' c ns',Zm (Uw H ((a,.lst ws)::ns)) H'->Zm F F'->Zm F' H'->(∀(b:aq) (o:HO),F' b=aA o->F b=aA o\/Uw H ((a,.lst ws)::ns) b=aB)->dR K F' yss c ns'->(Jj ((a,HO.lst c)::ns')).Nodup->
  (∀p∈(a,HO.lst c)::ns',F' p.1=aB/\Uw H ((a,.lst ws)::ns) p.1=aB/\H' p.1=aA p.2)->Q .non H'
theorem pH{E}(h:spM K g vs H Q E):vs.length=1:=by obtain⟨F,a,xss,ws,ns,yss,rfl,_⟩:=h;rfl
@[simp]def uU(n:Nat)(a:aq)(xss:À (À D)):Y5:=some (.oL (some a) xss)::ir (n- 1) none
@[simp]noncomputable def QT(a:aq)(o:Option<|Option SV):Option<|List<|List D:=match o with
 |some (aA<|.oL (aA b) yss)=>if b=a then aA yss else aB
 |_=>aB
@[simp]def YL(f:FS)(n:Nat)(a:aq)(xss:List<|List D):Option<|List<|List D:=match f (uU n a xss)with
 |some (.nx δ)=>QT a δ[0]?
 |_=>aB
theorem jP{E}(s:0<N.length)(h:spM K (YL f N.length) vs H Q E):∃G F,liftS (ent G F:dP K) f {nx:=λ_ H'=>Q .non H',rt:=Q} (L2.Qn N vs) H:=by
 obtain⟨F,a,xss,ws,ns,yss,rfl,le,C,B,ok,e,k⟩:=h;refine⟨Uw H ((a,.lst ws)::ns),F,?_⟩;have A:SR (ent (Uw H ((a,.lst ws)::ns)) F:dP K) F H (ir N.length aB) (ir N.length aB) λ_=>[]:=
  ⟨le,λb o e=>.inl e,LH,by rw[j0,j0],λi sv e=>(by rw[uu]at e;split at e<;> cases e),λ_=>gd,λ_ _ h=>(nomatch h),λ_ _ _ _ _ h=>(nomatch h)⟩
 have t:dW (ent (Uw H ((a,.lst ws)::ns)) F:dP K) F H (λ_=>[]) (.oL (aA a) xss) (.ref a) ((a,.lst ws)::ns):=
  ⟨.oL (λb e=>by cases e;rfl) C,B,λp j=>⟨(ok p j).1,(dZ<|av.mpr ⟨p,j,rfl⟩),(ok p j).2⟩,λ_ _ _ _ h=>(nomatch h)⟩
 have u:=A.store (i:=0) t (by rw[j0];exact s);have st:∀(α:Type) (n:Nat) (x:α) (y:α),0<n->(ir n y).set 0 x=x::ir (n- 1) y:=λα n x y hn=>by
  cases n with
  |zero=>lia
  |succ m=>rw[o0,v8];rfl
 rw[st _ _ _ _ s,st _ _ _ _ s]at u;unfold YL at e;split at e
 .rename_i δ hf;unfold QT at e;split at e
  .rename_i b zss h0;split at e
   .rename_i r;cases e;subst r;refine⟨F,_,_,.nx δ,u,hf,λz H' F' v L s'=>?_⟩;obtain⟨c,l,ns',X,w,q,j,Z,T,P⟩:=Rv s' h0;obtain rfl:=j b rfl;refine k H' F' l ns' s'.old L s'.le s'.fro q ?_ λp j=>?_
    .have:=s'.nod 0;rw[w]at this;exact this
    .exact s'.ok 0 p (by rw[w];exact j)
   .cases e
  .cases e
 .cases e
open Classical in
def Xz(i:Nat)(g:aq->List (List D)->Option (List<|List D)):FS:=λδ=>match δ[i]? with
 |some (aA<|.oL p xss)=>if h:∃o,∀a,g a xss=aA o then aA (.nx<|δ.set i<|aA<|.oL p h.choose)else aB
 |_=>aB
theorem KI(f:δ[i]? =aA (aA<|.oL p xss))(c:∀a,g a xss=aA yss):Xz i g δ=aA (.nx<|δ.set i<|aA<|.oL p yss):=by
 unfold Xz;rw[f];have h:∃o,∀a,g a xss=aA o:=⟨yss,c⟩
 dsimp only;rw[dif_pos h];have:=h.choose_spec 0;rw[c 0]at this;rw[<-h8.inj this]
theorem yQ(h:liftS Z (Xz i g) E σ H):Ch (Dm (spM K g) [] E'<|G1 (Bb i) T7) E σ H:=by
 obtain⟨F,δ,own,fl,s,e,k⟩:=h;unfold Xz at e;split at e
 .rename_i p xss W;split at e
  .rename_i hg;cases e;obtain⟨a,ws,ns,R,I,Y,hp,hH,q1,q2⟩:=Rv s W;have X:i<δ.length:=(ci.mp W).1;have x:∀b,b∈Jj ((a,HO.lst ws)::ns)->∃q∈own i,b=q.1:=λb G=>by obtain⟨q,c,e⟩:=av.mp G;exact⟨q,by rw[I];exact c,e.symm⟩
   have J:∀b,Uw H ((a,.lst ws)::ns) b=aB->Z.h b=aB:=λb G=>by
    rcases Sm G with z|z
    .obtain⟨q,c,e⟩:=x b z;rw[e];exact(s.ok i q c).2.1
    .exact s.old.free z
   have keep:∀j,j≠i->∀q∈own j,Uw H ((a,.lst ws)::ns) q.1=aA q.2:=λj f q c=>by
    rw[Rx λz=>?_]
    .exact(s.ok j q c).2.2
    .obtain⟨r,m,e⟩:=x _ z;exact s.sep j i q r f c m e
   refine⟨_,R,F,a,xss,ws,ns,_,rfl,s.le,Y,by rw[<-I];exact s.nod i,λq c=>?_,hg.choose_spec a,λH' F' L ns' N O Q n T P w=>?_⟩
   .have:=s.ok i q (by rw[I];exact c);exact⟨this.1,this.2.2⟩
   refine k σ H' F' (put own i ((a,.lst L)::ns')) O ⟨Q,λb o e=>?_,λb o e=>?_,by rw[io];exact s.len,λj sv e=>?_,λj=>?_,λj q c=>?_,λj l q r A c m=>?_⟩
   .rcases n b o e with z|z
    .exact s.fro b o z
    .exact .inr (J b z)
   .refine N b o ?_;rw[Rx λz=>?_]
    .exact s.old b o e
    .obtain⟨q,c,e'⟩:=x b z;rw[e',(s.ok i q c).2.1]at e;cases e
   .by_cases f:j=i
    .subst f;rw[gv X]at e;cases e;rw[Yi];exact⟨_,R,.oL hp T⟩
    .rw[gj<|Ne.symm f]at e;obtain⟨v,h1,h2⟩:=s.at' j sv e;rw[Yp f];exact⟨v,h1,h2.mono O⟩
   .by_cases f:j=i
    .subst f;rw[Yi];exact P
    .rw[Yp f];exact s.nod j
   .by_cases f:j=i
    .subst f;rw[Yi]at c;obtain⟨C,B,M⟩:=w q c;exact⟨C,J _ B,M⟩
    .rw[Yp f]at c;obtain⟨C,B,M⟩:=s.ok j q c;refine⟨?_,B,N _ _<|keep j f q c⟩;cases z:F' q.1 with
     |none=>rfl
     |some u=>
      rcases n _ u z with y|y
      .rw[C]at y;cases y
      .rw[keep j f q c]at y;cases y
   .by_cases f:j=i
    .subst f;rw[Yi]at c;rw[Yp<|Ne.symm A]at m;intro e;have z:=(w q c).2.1;rw[e,keep l (Ne.symm A) r m]at z;cases z
    .by_cases U:l=i
     .subst U;rw[Yi]at m;rw[Yp f]at c;intro e;have z:=(w r m).2.1;rw[<-e,keep j f q c]at z;cases z
     .rw[Yp f]at c;rw[Yp U]at m;exact s.sep j l q r A c m
  .cases e
 .cases e
end
end
section
variable{X:Cx}{Z:dP X.K}{a b c:dz}{fa fb fc:FE}{pos:Pos}
theorem uT:PE X (.UnaryOp .USub (.Constant (.int 1) jj p1) p2)<|tC<|.int<|-1:=(PZ No V2).imp λ_ _ _ h=>⟨1,rfl,h⟩
theorem QS(c:PE X a<|Bb i):PE X (.Subscript a (.UnaryOp .USub (.Constant (.int 1) jj p1) p2) p3)<|XR X.K i:=UG V6 c uT (by intro _ _;rfl)
theorem uS(w:‹Se X (.List [] p1) []›):PE X (.List [.List [] p1] pos)<|liftE Z QU:=(Kr<|Y8 (Kr Wu) Wu w).imp λσ H Q h=>by
 obtain⟨F,δ,own,rv,δ',s,e,k⟩:=h;cases e;refine⟨gr _,λb j=>⟨by show 1<=_;decide,λa l=>?_⟩⟩;have u:=Wz (o:=.lst []) j;have r:=Wz (o:=.lst [.ref b]) l;have n:a≠b:=λz=>by rw[z,Z8]at l;cases l
 have f:H a=aB:=u.free l;refine k (.ref a) _ F own (u.trans r) (Zm.refl F) (s.grow<|u.trans r) ⟨[(a,.lst [.ref b]),(b,.lst [])],.oL yS<|.cons .nil .nil,?_,λp m=>?_,λi p q m v e=>?_⟩
 .exact fm.mpr ⟨λz=>n<|ao.mp z,Fs⟩
 .rcases az.mp m with z|z
  .subst z;exact⟨s.le.free f,s.old.free f,Z8⟩
  .have z:=ao.mp z;subst z;exact⟨s.le.free j,s.old.free j,r _ _ Z8⟩
 .have c:=(s.ok i q v).2.2;rw[<-e]at c;rcases az.mp m with z|z
  .subst z;rw[f]at c;cases c
  .have z:=ao.mp z;subst z;rw[j]at c;cases c
theorem UZ(i){p}(n:X.mg "len"=aB)(r:PE X a<|Bb i)(q:‹Gl X "len"›)(f:‹Se X a []›)(c:‹Bk X pos []›):PE X (.Call (.Name "len" p) [a] [] pos)<|liftE Z<|Lp i:=
 (Ks Aa q n FQ (Y8 r Wu f) Γ Γ f c).imp λσ H Q h=>by
  obtain⟨F,δ,own,rv,δ',s,e,k⟩:=h;unfold Lp at e;split at e
  .rename_i p xss o;cases e;refine Wv λ_ j=>?_;obtain⟨a,ws,ns,m,y,l,x,u,w,v⟩:=Rv s o;apply j;refine⟨_,m,a,ws,rfl,.inl<|.inl<|.inl u,?_⟩;rw[<-l.length];exact k _ H F own (Zm.refl H) (Zm.refl F) s ⟨[],.fz<|.int _⟩
  .cases e
theorem jO(i){jj}{p p1 p2}(u:X.mg "tuple"=aB)(z:PE X a<|Bb i)(y:‹Gl X "tuple"›)(m:‹Se X (.Subscript a (.Constant (.int 0) jj p1) p2) []›)(f:‹Bk X pos []›):
  PE X (.Call (.Name "tuple" p) [.Subscript a (.Constant (.int 0) jj p1) p2] [] pos) (liftE Z<|Rw i):=
 (Pt Mr y u CJ (Y8 (UG V6 z V2 (by intro _ _;rfl)) Wu m) Γ Γ m f).imp λ_ _ _ h=>by
  obtain⟨F,δ,own,rv,δ',s,e,k⟩:=h;unfold Rw at e;split at e
  .rename_i p xs xss x;cases e;refine Wv λ_ n=>?_;obtain⟨a,ws,ns,r,C,q,L,A,K,H⟩:=Rv s x;obtain⟨b,vs,h1,h2,B⟩:=q.getV (p:=0) rfl;apply n;have o:(b,HO.lst vs)∈own i:=by rw[C];exact ag _ (gh h2)
   refine⟨_,r,a,ws,0,.ref b,rfl,rfl,.inl<|.inl A,oO (j:=0) h1,b,vs,rfl,.inl ⟨.inl<|.inl (s.ok i _ o).2.2,λl w=>?_⟩⟩;exact B2.tup (λv H2 E ns a b c t=>k v H2 E own a b c ⟨ns,t⟩) s B w
  .cases e
theorem uR(i){px ZA cpos lp}(f:‹Vr X i x›)(c:‹Mc X (.Name x px) "append" ZA cpos (.List [] lp) []›)(a:‹i6 (.Call (.Attribute (.Name x px) "append" ZA) [.List [] lp] [] cpos) aB pos.line X.e=jh aE›):
  PS X (.Expr (.Call (.Attribute (.Name x px) "append" ZA) [.List [] lp] [] cpos) pos) (liftS Z<|Lo i):=
 (Q9 (Ow gw mm mj Oo (Jy (i:=i) f) (Y8 (Kr Wu) Wu c.st) c) a).imp λ_ _ _ h=>uX h
theorem Sn(i)(l:PE X a<|XR X.K i)(j:PE X b<|liftE Z fb)(f:‹Mc X a "append" ZA cpos b []›)(c:‹i6 (.Call (.Attribute a "append" ZA) [b] [] cpos) aB pos.line X.e=jh aE›):
  PS X (.Expr (.Call (.Attribute a "append" ZA) [b] [] cpos) pos) (liftS Z<|Jp i fb):=
 (Q9 (Ow gw mm mj Oo l (Y8 j Wu f.st) f) c).imp λ_ _ _ h=>jQ h
theorem uQ(j i){y:Str}{px py ZA cpos}(p:X.N.Nodup)(o:‹X.N[i]? =aA x›)(m:‹Vis X.e.scope x›)(hd:‹Nd x›)(f:‹(x==("__classdict__":Str))=aE›)(c:‹vz (.Name x px) "pop" X.e (oz (.Name x px) X.e)=oz (.Name x px) X.e›)(a:‹(ZA.endLine==cpos.line)=aC›)(n:‹X.N[j]? =aA y›)(l:‹Loc X.e.scope y›)(hs:‹i6 (.Call (.Attribute (.Name x px) "pop" ZA) [] [] cpos) (aA<|.Name y py) pos.line X.e=jh aE›)(hf:‹X.fn y=aC\/X.e.scope.names.lookup y=aA .local›):
  PS X (.Assign [.Name y py] (.Call (.Attribute (.Name x px) "pop" ZA) [] [] cpos) pos) (liftS Z<|Lr j i):=
 (T_ p n l (rM gw PySem.F.slot_list_pop PySem.F.type_list_pop rL (Jy (i:=i) ⟨o,m,hd,f⟩) c a) hs hf).imp λ_ _ _ h=>uV h
theorem QR(i){j}{jj}{p1 p2}(f:X.N.Nodup)(c:‹X.N[i]? =aA x›)(a:‹Loc X.e.scope x›)(hf:‹X.fn x=aC\/X.e.scope.names.lookup x=aA .local›):
  PS X (.AugAssign (.Name x p1) .Add (.Constant (.int j) jj p2) pos) (liftS Z<|ZX i j):=(sZ f c a V2 sY hf).imp λ_ _ _ h=>yR h
theorem pG(j:PE X a<|liftE Z fa)(f:PE X b<|liftE Z fb)(c:‹Mc X a "count" ZA cpos b []›)
  :
  PE X (.Call (.Attribute a "count" ZA) [b] [] cpos) (liftE Z<|Md "list" E9 fa<|Zd fb Zh):=
 (Ow gw yz PySem.F.type_list_count mD j (Zg f Zw c.st) c).imp λ_ _ _ h=>YE pK h
theorem pF(n:PE X a<|liftE Z fa)(m:PE X b<|liftE Z fb)(l:PE X c<|liftE Z fc)(j:‹Mc X a "find" ZA cpos b [c]›)(f:‹Se X c []›):
  PE X (.Call (.Attribute a "find" ZA) [b,c] [] cpos) (liftE Z<|Md "str" Xy fa<|Zd fb<|Zd fc Zh):=
 (Ow qc PySem.F.slot_str_find PySem.F.type_str_find mC n (Zg m (Zg l Zw f) j.st) j).imp λ_ _ _ h=>YE pJ h
end
abbrev QQ:À V->Hp->VK->Prop:=λxs H Q=>∃(x:Str) (n:Int),xs=[V.str x]/\FP x=aA n/\x.length<=640/\Q (.int n) H
theorem jN:Ou X (.type "int") QQ:=by intro dG s σ H xs us Q I r h;obtain⟨x,n,rfl,hn,a,q⟩:=h;obtain⟨u,rfl,t,rfl⟩:=Jw r;exact PySem.W.KIN.call_text hn a ⟨.int n,H,I.tok _,⟨_,rfl⟩,q⟩
section
variable{K:ak}
noncomputable def XD:List D->Option SV
 | [.str x]=>if x.length<=640 then(FP x).bind λn=>aA (.fz<|.int n)else aB
 |_=>aB
theorem uP{Z:dP K}:Ox Z QQ XD:=by
 intro F H σ δ own vs ds sv Q s r e k;unfold XD at e;split at e
 .split at e
  .rename_i x a;refine L2.dN e λn f c=>?_;cases c;obtain⟨_,rfl,h1⟩:=r.one;exact⟨x,n,by rw[h1.str],f,a,k.fz s<|.int _⟩
  .cases e
 .cases e
section
variable{X:Cx}{Z:dP X.K}{a:dz}{fa:FE}{pos:Pos}
theorem NF{p}(h:X.mg "int"=aB)(l:PE X a<|liftE Z fa)(j:‹Gl X "int"›)(f:‹Se X a []›)(c:‹Bk X pos []›):PE X (.Call (.Name "int" p) [a] [] pos)<|liftE Z<|Yh XD<|Zd fa Zh:=
 Aj jN uP h boot_int (Zg l Zw f) j Γ Γ f c
end
end
theorem pE(l dM n b dH n2 dc sl)(m:¬(!dM.isEmpty&&jp (dM.size+dH.size))=aC)(f:dM.size<=sizeLine)(c:dM.size+dH.size<=sizeLine+1):
  DP (pv.«list.extend» ⟨[.ref l,.ref b],[]⟩) (λ_ R s=>s.heap.get? l=aA {cls:=.type "list",dict:=aB,data:=.seq dM n,slots:= #[]}/\s.heap.get? b=aA {cls:=.type "tuple",dict:=dc,data:=.seq dH n2,slots:=sl}/\R (.ok<|.ret ik) {s with heap:=s.heap.update l<|gp λx=>x++dH,toks:=s.toks}):=
 .of_wp λprog w A R s h=>by
  obtain⟨p,g,d,tk,os⟩:=s;obtain⟨j,o,h⟩:=h;have y:=ES;have v:=ui;have u:=u1;have r:=zq;have q:=zu;have a:(dM++dH).size<=sizeLine+1:=by rw[DX];exact c
  wp_walk using(pf j rfl (hz:=f) (_hz':=a)),o9 j,o9 o;exact⟨_,rfl,h⟩
def QP(K:ak):V->À V->Hp->VK->Prop:=λx vs H Q=>∃l b xs zs,x= .ref l/\vs=[.ref b]/\H l=aA (.lst xs)/\Eu K H b zs/\xs.length+zs.length<=sizeLine/\Q .non (upd H l<|.lst<|xs++zs)
theorem pC:MtM X "list.extend"<|QP X.K:=by
 intro dG s σ H x vs v us Q I y rv h;refine Wv λ_ p=>?_;obtain⟨l,b,xs,zs,rfl,rfl,j,P,hz,q⟩:=h;cases y;obtain⟨u,rfl,A⟩:=rv.one;cases A;obtain⟨z,dI,n,r,g,e⟩:=I.lstM j;obtain⟨a,f,⟨o,C,L,B,hd⟩,z2⟩:=I.tuple P;have E:=f.length;obtain⟨Z,T,m,w⟩:=o;cases L;cases hd;apply p;have hsz:dI.toArray.size+a.toArray.size<=sizeLine:=by rw[c9,c9];lia
 have c:¬(!dI.toArray.isEmpty&&jp (dI.toArray.size+a.toArray.size))=aC:=by rw[Kt hsz,yd];exact df
 refine j8 F.slot_list_extend ⟨_,e,rfl⟩ F.entry_list_extend (F.args_list_extend_2 _ _)
  (pE l dI.toArray n b a.toArray B T w c ψ Θ) ⟨e,C,?_⟩
 refine⟨.non,_,I.lset (its':=dI++a) j e Δ (r.append f) ?_,rfl,q⟩;rw[ax];omega
theorem JO:∀{xs:À V} {dI:À am},xs.length=dI.length->(∀(j:Nat) x v,xs[j]? =aA x->dI[j]? =aA v->Z9 x v)->Yg xs dI
 | [],[],_,_=>.nil
 |x::xs,v::dI,h,g=>.cons (g 0 x v rfl rfl) (JO η λj x v a b=>g (j+1) x v ν<|by simpa using b)
 | [],_::_,h,_=>nomatch h
 |_::_,[],h,_=>nomatch h
def uO:À V->Hp->VK->Prop:=λxs H Q=>∃p kvs,xs=[.ref p]/\RdK H p kvs/\∀l,H l=aB->Q (.ref l) (upd H l<|.lst<|kvs.map λa=>kV a.1)
section
variable{K:ak}
def XH:List D->Option SV
 | [.dK ks _]=>aA<|.ol<|ks.map YM
 |_=>aB
@[simp]theorem fw(ks vs):XH [.dK ks vs]=some (.ol<|ks.map YM):=rfl
section
variable{Z:dP K}
theorem uN:Ox Z uO XH:=by
 intro F H σ δ own vs ds sv Q s r e k;unfold XH at e;split at e
 .cases e;obtain⟨_,rfl,h⟩:=r.one;obtain⟨a,kvs,rfl,m,n,o⟩:=h.dK s.le;refine⟨a,kvs,rfl,m.rd,λl j=>?_⟩;rw[<-n]at k;have c:=Sl (K:=K) (F:=F) (kvs.map (·.1));have c:dJ K F ((kvs.map (·.1)).map YM)<|kvs.map λf=>kV f.1:=by rw[f7 (g:=kV)]at c;exact c
  exact k.one s (.ol c) j
 .cases e
@[simp]noncomputable def SV.tup?:RV->Option (List D)
 | .tmp (.fz<|.tup ys)=>aA ys
 |_=>aB
@[simp]def WI(i:Nat)(fe:FE):FS:=λδ=>match δ[i]? with
 |some (aA<|.ol _)=>(fe δ).bind λp=>(SV.tup? p.1).bind λys=>match p.2[i]? with
  |some (aA<|.ol xs)=>if xs.length+ys.length<=dg then aA (.nx<|p.2.set i<|aA<|.ol<|xs++ys)else aB
  |_=>aB
 |_=>aB
theorem tup?_ok(h:SV.tup? rv=aA ys):rv= .tmp (.fz<|.tup ys):=by
 unfold SV.tup? at h;split at h
 .cases h;rfl
 .cases h
theorem uM(h:liftS Z (WI i fe) E σ H):Ch (tBM K "list" (QP K) (Bb i)<|G1 (liftE Z fe) T7) E σ H:=by
 obtain⟨F,δ,own,fl,s,e,k⟩:=h;unfold WI at e;split at e
 .rename_i L q;refine L2.dO e λrv δ1 R O=>?_;refine L2.dN O λys N f=>?_;obtain⟨v,r,P⟩:=s.at' i _ q;obtain⟨a,j,ev,I,Y⟩:=Qb P;refine⟨v,r,?_,F,δ,own,rv,δ1,s,R,λy H1 C l W Q n X=>?_⟩
  .subst ev;exact .inl ⟨rfl,j,.inl<|.inl (s.ok i (a,.lst j) (by rw[I];exact ac)).2.2⟩
  have B:=tup?_ok N;dsimp only at B f;subst B;obtain⟨ns,t⟩:=X;have T:dS K C (.tup ys) y:=Q0 t.sh;obtain⟨c,us,J,G,w⟩:=(Yz.of (H:=H1) T).tup n.le;split at f
  .rename_i xs A;split at f
   .rename_i hz;cases f;obtain⟨U,m,o⟩:=n.at' i _ A;rw[r]at m;cases m;obtain⟨b,vs,M,u,x⟩:=Qb o;have z:(b,HO.lst vs)∈l i:=by rw[u];exact ac
    subst M;refine⟨b,c,vs,us,rfl,by rw[J],(n.ok i _ z).2.2,G,by rw[<-x.length,<-w.length];exact hz,?_⟩;exact k σ _ C _ Q<|n.change (sv':=.ol<|xs++ys) (o':=.lst<|vs++us) (ns':=[(b,.lst<|vs++us)]) A r z (.ol<|x.append w) (λp g=>.inl<|ao.mp g) Fs
   .cases f
  .cases f
 .cases e
end
section
variable{X:Cx}{Z:dP X.K}{a b c:dz}{fa fb fc:FE}{pos:Pos}
theorem uL{p}(T:X.calm=aC)(K:X.mg "list"=aB)(g:PE X a<|liftE Z fa)(P:‹Gl X "list"›)(C:‹Se X a []›)(o:‹Bk X pos []›):PE X (.Call (.Name "list" p) [a] [] pos)<|liftE Z<|Yh XH<|Zd fa Zh:=
 Aj (by
  intro dG s σ H xs us Q I r h;obtain⟨p,kvs,rfl,⟨ep,e⟩,q⟩:=h;obtain⟨u,rfl,F⟩:=Jw r;cases F;obtain⟨z,hd,vs,l,dd⟩:=(show Wc X.p X.w H s.heap p (.dK kvs ep)from UF I.hok e)
  have B:vs.length=kvs.length:=(ug l).symm;refine PySem.W.kdl_call (PySem.W.kdl_dict (knd:=Yr X.p X.w) (kvs:=vs) (ep:=ep) hd) (I.ok.hd T) dd (by rw[B];exact z) λh' tk f U L G c=>?_;have n:Yg (kvs.map λm=>kV m.1) f.toList:=by
   refine JO ((aj _).trans<|B.symm.trans<|c.1.symm.trans (kn).symm) λj x v A n=>?_;obtain⟨k,y,E,R⟩:=c.2 j v (by rw[<-lr];exact n);rw[c8]at A;obtain⟨m,O,N⟩:=je.mp A;obtain⟨Y,M,J,_⟩:=jS l O;rw[M]at E;cases E;rw[<-N,J];rcases Yv R with⟨i,t,rfl,rfl⟩|⟨x,t,rfl,rfl⟩
   .exact⟨t,rfl⟩
   .exact⟨t,rfl⟩
  exact⟨.ref s.heap.objs.size,_,I.laid (t':=tk) L (cj _) (show Wc X.p X.w _ h' _ (.lst<|kvs.map λm=>kV m.1)from⟨by rw[aj];exact z,f.toList,U,n,by simpa using G⟩),rfl,q _<|I.hok.fresh<|cj _⟩) uN K yq (Zg g Zw C) P Γ Γ C o
theorem uK(i){px ZA cpos}(f:PE X b<|liftE Z fb)(j:‹Vr X i x›)(c:‹Mc X (.Name x px) "extend" ZA cpos b []›)(a:‹i6 (.Call (.Attribute (.Name x px) "extend" ZA) [b] [] cpos) aB pos.line X.e=jh aE›):
  PS X (.Expr (.Call (.Attribute (.Name x px) "extend" ZA) [b] [] cpos) pos) (liftS Z<|WI i fb):=
 (Q9 (Ow gw uf ue pC (Jy (i:=i) j) (Y8 f Wu c.st) c) a).imp λ_ _ _ h=>uM h
end
end
theorem Fc:kq "sorted"=aA (.builtin "sorted"):=Φ
section
open PySem.W
noncomputable def run{α:Type}(lt:Nat->Nat->Option Bool):KasT α->Option α
 | .ret a=>aA a
 | .ask i j k=>(lt i j).bind λb=>run lt<|k b
theorem NN{a:α}(c:∀i j b C,lt i j=aA b->C b s->cmp i j C s)(q:Q a s):∀{t:KasT α},run lt t=aA a->t.kasWp cmp Q s
 | .ret a,e=>by cases e;exact q
 | .ask i j k,e=>by refine L2.dN e λb h f=>?_;exact c i j b _ h<|NN c q f
def Al{α:Type}(n:Nat)(R:α->Prop):KasT α->Prop
 | .ret a=>R a
 | .ask i j k=>i<n/\j<n/\∀b,Al n R<|k b
theorem Al.bind{f:α->KasT β}(h:∀a,R a->Al n S (f a)):∀{t:KasT α},Al n R t->Al n S (t.bind f)
 | .ret a,g=>h a g
 | .ask i j k,g=>⟨g.1,g.2.1,λb=>Al.bind h<|g.2.2 b⟩
theorem Al.run{α:Type}{n:Nat}{R:α->Prop}{lt:Nat->Nat->Á Bool}(h:∀i j,i<n->j<n->∃b,lt i j=aA b):∀{t:KasT α},Al n R t->∃a,run lt t=aA a/\R a
 | .ret a,g=>⟨a,rfl,g⟩
 | .ask i j k,g=>by obtain⟨b,e⟩:=h i j g.1 g.2.1;obtain⟨a,c,r⟩:=Al.run h<|g.2.2 b;exact⟨a,by show(lt i j).bind _=_;rw[e];exact c,r⟩
variable{n:Nat}
def Pm(n:Nat)(p:Array Nat):Prop:=p.Perm<|iy<|gz n
theorem Pm.lt(h:Pm n p)(i)(c:0<n):p.getD i 0<n:=by
 by_cases hs:i<p.size
 .have a:p[i]∈(gz n):=(ye.mp h).mem_iff.mp Δ;rw[xr,getElem?_pos p i hs];exact lh.mp a
 .rw[xr,getElem?_neg p i hs];exact c
theorem Pm.rev(h:Pm n p)(i j):Pm n<|kas_rev p i j:=(mirror_perm p i j _).trans h
variable(hn:0<n)
include hn
theorem UY(a:Pm n p):∀f m,Al n (λ_=>True) (kas_asc p f m)
 |0,m=>trivial
 |f+1,m=>⟨a.lt _ hn,a.lt _ hn,λb=>by cases b;exact UY a f<|m+1;exact trivial⟩
theorem Kc:∀f p m q,Pm n p->Al n (λr=>Pm n r.1) (kas_desc f p m q)
 |0,p,m,q,hp=>hp
 |f+1,p,m,q,hp=>⟨hp.lt _ hn,hp.lt _ hn,λb=>by
  cases b
  .exact⟨hp.lt _ hn,hp.lt _ hn,λb=>by cases b;exact Kc f p _ _ hp;exact hp⟩
  .show Al n _ (if q > 0 then _ else _);split
   .exact Kc f _ _ _ (hp.rev _ _)
   .exact Kc f p _ _ hp⟩
theorem HD(c:Pm n p)(m k):Al n (λr=>Pm n r.2)<|kas_tail3 m k p:=by unfold kas_tail3;exact Al.bind (n:=n) (R:=λ_=>True) (S:=λr:Nat×Array Nat=>Pm n r.2) (f:=λa=>KasT.ret (a,kas_rev p 0 m)) (λa _=>show Pm n (kas_rev p 0 m)from c.rev _ _)<|UY hn (c.rev _ _) _ _
theorem KH(c:Pm n p)(m k):Al n (λr=>Pm n r.2)<|kas_descPart m k p:=Al.bind (λr a=>by
 split
 .exact HD hn (a.rev _ _) _ _
 .exact HD hn a _ _)<|Kc hn _ _ _ _ c
theorem mT(a:Pm n p)(k):Al n (λr=>Pm n r.2)<|kas_count k p:=Al.bind (λm _=>by
 split
 .exact a
 .split
  .exact⟨a.lt _ hn,a.lt _ hn,λb=>by cases b;exact KH hn (a.rev _ _) _ _;exact a⟩
  .exact KH hn a _ _)<|UY hn a _ _
theorem I_(a:Pm n p)(k):∀f l r,Al n (λ_=>True) (kas_place p k f l r)
 |0,_,_=>trivial
 |f+1,l,r=>by
  show Al n _ (if l>=r then _ else _);split
  .trivial
  .exact⟨a.lt _ hn,a.lt _ hn,λb=>by cases b<;> exact I_ a k f _ _⟩
theorem NM:∀f p k,Pm n p->Al n (Pm n) (kas_bin f p k)
 |0,p,_,hp=>hp
 |f+1,p,k,hp=>Al.bind (λl _=>NM f _ _<|(bubble_perm p _ _).trans hp)<|I_ hn hp _ _ _ _
theorem pu:Al n (Pm n)<|kas_sort n:=Al.bind (λr h=>by
 split
 .exact NM hn _ _ _ h
 .exact h)<|mT hn (EZ _) n
omit hn
def ZP(lt:Nat->Nat->Á Bool)(n:Nat):Á (Array Nat):=if n<2 then aA (iy<|gz n)else run lt<|kas_sort n
theorem pr(h:∀i j,i<n->j<n->∃b,lt i j=aA b):∃p,ZP lt n=aA p/\Pm n p:=by
 unfold ZP;split
 .exact⟨_,rfl,EZ _⟩
 .exact(pu π).run h
end
section
open PySem.SeqAt
open AutoSeq1 (wpAny_loadPart')
open MeetsSeq MeetsSeq2 MeetsSeq3 SeqRoads2
def B6(A:fj)(s:au)(y x:am)(b:Bool):Prop:=
 ∀(prog:eg) (w:gq) (E:am->au->Prop) (Q:am->au->Prop),Q (.bool b) s->de (dw prog w) A (richCompare .Lt y x) Q E s
noncomputable def Og(fin:Bool)(e l:Nat->Bool):Nat->Nat->Bool
 |0,_=>fin
 |k+1,i=>if e i=aC then Og fin e l k (i+1)else l i
theorem jM(l b dM dH n n2 dd dd2 sl sl2 e lt k):
  ∀i:Nat,(∀j,j<i->e j=aC)->min dM.size dH.size- i=k->DP (pv.«list.__eq__.loop» ⟨[.ref l,.ref b,j4 i,j4 0],[]⟩)
   (λA R s=>s.heap.get? l=aA {cls:=.type "list",dict:=dd,data:=.seq dM n,slots:=sl}/\s.heap.get? b=aA {cls:=.type "list",dict:=dd2,data:=.seq dH n2,slots:=sl2}/\
    (∀j h1 (h2:j<dH.size),(∀i,i<j->e i=aC)->EqAt A.in1 s dM[j] dH[j] (e j))/\(∀j h1 (h2:j<dH.size),(∀i,i<j->e i=aC)->e j=aE->B6 A.in1 s dM[j] dH[j] (lt j))/\
    R (.ok<|.ret<|.bool<|Og (decide (dM.size<dH.size)) e lt k i) s):=by
 induction k with
 |zero=>
  intro i a v prog w A R s h;obtain⟨B,g,d,tk,os⟩:=s;obtain⟨o,p,C,y,h⟩:=h;wp_walk using im o,im p;have q:dM[((i:Nat):Int).toNat]? =aB\/dH[((i:Nat):Int).toNat]? =aB:=by
   rcases oj i dM.size with z|z
   .right;simp;omega
   .left;simp;omega
  rcases h1:dM[((i:Nat):Int).toNat]? with _|x
  .wp_walk using im o,im p;exact h
  .rcases q with q|q
   .rw[h1]at q;cases q
   .rw[q];wp_walk using im o,im p;exact h
 |succ k E=>
  intro i a v prog w A R s h;obtain⟨B,g,d,tk,os⟩:=s;obtain⟨o,p,C,y,h⟩:=h;wp_walk using im o,im p;have m:i<dM.size:=dh (L2.sw v)<|xk _ _;have c:i<dH.size:=dh (L2.sw v)<|um _ _;have u:dM[((i:Nat):Int).toNat]? =aA dM[i]:=by simp[m]
  have r:dH[((i:Nat):Int).toNat]? =aA dH[i]:=by simp[c]
  have F:((i:Int)+1)=((i+1:Nat):Int):=by push_cast;rfl
  rw[u,r];refine af<|C i m c a prog w _ _ ?_;cases f:e i with
  |true=>
   have h':R (.ok<|.ret<|.bool<|Og (decide (dM.size<dH.size)) e lt k<|i+1) ⟨B,g,d,tk,os⟩:=by have z:=h;unfold Og at z;rw[dZ f]at z;exact z
   wp_walk;rw[F];exact⟨o7 plain_eq_loop _,lw entry_eq_loop (by
    rw[mi plain_eq_loop _];exact E (i+1) (λj H=>by
     rcases oj j i with z|z
     .exact a j z
     .have:j=i:=Θ
      rw[this];exact f) (L2.sx v) prog w A R _ ⟨o,p,C,y,h'⟩)⟩
  |false=>
   have h':R (.ok<|.ret<|.bool<|lt i) ⟨B,g,d,tk,os⟩:=by have z:=h;unfold Og at z;rw[dY (by rw[f];simp)]at z;exact z
   wp_walk using im o,im p;rw[u,r];refine af<|y i m c a f prog w _ _ ?_;wp_walk;exact h'
theorem Sq(l b dM dH n n2 dd dd2 sl sl2 e lt):
  DP (pv.«list.__lt__» ⟨[.ref l,.ref b],[]⟩)
   (λA R s=>s.heap.get? l=aA {cls:=.type "list",dict:=dd,data:=.seq dM n,slots:=sl}/\s.heap.get? b=aA {cls:=.type "list",dict:=dd2,data:=.seq dH n2,slots:=sl2}/\
    (∀j h1 (h2:j<dH.size),(∀i,i<j->e i=aC)->EqAt A.in1 s dM[j] dH[j] (e j))/\(∀j h1 (h2:j<dH.size),(∀i,i<j->e i=aC)->e j=aE->B6 A.in1 s dM[j] dH[j] (lt j))/\
    R (.ok<|.ret<|.bool<|Og (decide (dM.size<dH.size)) e lt (min dM.size dH.size) 0) s):=by
 intro prog w A R s h;obtain⟨p,g,d,tk,os⟩:=s;obtain⟨a,c,o,f,h⟩:=h;have q:=u1;wp_walk using im a,im c;exact⟨o7 plain_eq_loop _,lw entry_eq_loop (by
  rw[mi plain_eq_loop _];exact jM l b dM dH n n2 dd dd2 sl sl2 e lt _ 0 (λj m=>dt m<|lz _) rfl prog w A R _ ⟨a,c,o,f,h⟩)⟩
theorem iF(l b dM dH n n2 dd dd2 sl sl2 e lt):
  DP (pv.«tuple.__lt__» ⟨[.ref l,.ref b],[]⟩)
   (λA R s=>s.heap.get? l=aA {cls:=.type "tuple",dict:=dd,data:=.seq dM n,slots:=sl}/\s.heap.get? b=aA {cls:=.type "tuple",dict:=dd2,data:=.seq dH n2,slots:=sl2}/\
    (∀j h1 (h2:j<dH.size),(∀i,i<j->e i=aC)->EqAt A.in1 s dM[j] dH[j] (e j))/\(∀j h1 (h2:j<dH.size),(∀i,i<j->e i=aC)->e j=aE->B6 A.in1 s dM[j] dH[j] (lt j))/\
    R (.ok<|.ret<|.bool<|Og (decide (dM.size<dH.size)) e lt (min dM.size dH.size) 0) s):=
 .of_wp λprog w A R s h=>by
  obtain⟨v,g,d,tk,os⟩:=s;obtain⟨H,L,K,F,h⟩:=h;have P:=ui;have C:(dM.toList.zip dH.toList).length=min dM.size dH.size:=Δ
  wp_walk using im H,im L,DZ _ (λf b s'=>b.1=aB/\s'=⟨v,g,d,tk,os⟩/\∃i,f=(dM.toList.zip dH.toList).drop i/\(∀j,j<i->e j=aC)/\
   R (.ok<|.ret<|.bool<|Og (decide (dM.size<dH.size)) e lt (min dM.size dH.size- i) i) ⟨v,g,d,tk,os⟩) _
  case turn=>
   rintro⟨y,x⟩ f b s' ⟨m,rfl,i,hz,a,c⟩;have p:i<(dM.toList.zip dH.toList).length:=by
    rcases oj i (dM.toList.zip dH.toList).length with h'|h'
    .exact h'
    .rw[uy h']at hz;cases hz
   have q:i<min dM.size dH.size:=C▸p;have h1:i<dM.size:=dh q<|xk _ _;have h2:i<dH.size:=dh q<|um _ _;rw[ic p]at hz;injection hz with hyx hrest;have o:y=dM[i]:=by have:=congrArg Prod.fst hyx;simpa using this
   have E:x=dH[i]:=by have:=congrArg qx hyx;simpa using this
   subst o E;have r:=L2.sy q;rw[r]at c;unfold Og at c;refine af<|K i h1 h2 a prog w _ _ ?_;cases o:e i with
   |true=>
    rw[dZ o]at c;wp_walk;exact⟨rfl,rfl,i+1,hrest,λj B=>by
     rcases oj j i with z|z
     .exact a j z
     .have:j=i:=Θ
      rw[this];exact o,c⟩
   |false=>rw[dY (by rw[o];simp)]at c;simp only[Bool.not_false,if_true];refine af<|uw<|af<|F i h1 h2 a o prog w _ _ ?_;wp_walk;exact⟨_,rfl,c⟩
  case fin=>
   rintro⟨T,Q⟩ s' ⟨m,rfl,i,hz,a,c⟩;simp only at m;subst m;have u:min dM.size dH.size<=i:=by
    rcases oj i (dM.toList.zip dH.toList).length with h'|h'
    .rw[ic h']at hz;cases hz
    .exact C▸h'
   have r:=AU u;rw[r]at c;wp_walk;exact⟨_,rfl,c⟩
  case h=>
   exact⟨rfl,rfl,0,rfl,λj B=>dt B<|lz _,by simpa using h⟩
theorem B6.lists(C:s.heap.IsList l dM)(K:s.heap.IsList b dH)(z:A.units<jf)(H:∀j h1 (h2:j<dH.size),(∀i,i<j->e i=aC)->EqAt A.in1 s dM[j] dH[j] (e j))(B:∀j h1 (h2:j<dH.size),(∀i,i<j->e i=aC)->e j=aE->B6 A.in1 s dM[j] dH[j] (lt j)):
  B6 A s (.ref l) (.ref b) (Og (decide (dM.size<dH.size)) e lt (min dM.size dH.size) 0):=λprog w E Q h=>by
 obtain⟨⟨L,dd,r,v⟩,p,q,n,hd⟩:=id C;obtain⟨⟨u,o,HQ,m⟩,a,f,y,c⟩:=id K;simp only at q hd f c;subst q hd f c;exact z7 (op:=.Lt) ⟨_,p,rfl⟩ ⟨_,a,rfl⟩ F.slot_list_lt F.entry_list_lt (F.args_list_lt_2 _ _) (Sq l b dM dH n y dd o v m e lt)
  ⟨p,a,H,B,show nz (Og (decide (dM.size<dH.size)) e lt (min dM.size dH.size) 0)≠BB/\Q (.bool<|Og (decide (dM.size<dH.size)) e lt (min dM.size dH.size) 0) s from⟨(λx=>nomatch x),h⟩⟩ z
theorem B6.tuples(C:s.heap.IsTuple l dM)(K:s.heap.IsTuple b dH)(z:A.units<jf)(H:∀j h1 (h2:j<dH.size),(∀i,i<j->e i=aC)->EqAt A.in1 s dM[j] dH[j] (e j))(B:∀j h1 (h2:j<dH.size),(∀i,i<j->e i=aC)->e j=aE->B6 A.in1 s dM[j] dH[j] (lt j)):
  B6 A s (.ref l) (.ref b) (Og (decide (dM.size<dH.size)) e lt (min dM.size dH.size) 0):=λprog w E Q h=>by
 obtain⟨⟨L,dd,r,v⟩,p,q,n,hd⟩:=id C;obtain⟨⟨u,o,HQ,m⟩,a,f,y,c⟩:=id K;simp only at q hd f c;subst q hd f c;exact z7 (op:=.Lt) ⟨_,p,rfl⟩ ⟨_,a,rfl⟩ F.slot_tuple_lt F.entry_tuple_lt (F.args_tuple_lt_2 _ _) (iF l b dM dH n y dd o v m e lt)
  ⟨p,a,H,B,show nz (Og (decide (dM.size<dH.size)) e lt (min dM.size dH.size) 0)≠BB/\Q (.bool<|Og (decide (dM.size<dH.size)) e lt (min dM.size dH.size) 0) s from⟨(λx=>nomatch x),h⟩⟩ z
def M3(A:fj)(s:au)(y x:am)(b:Bool):Prop:=
 ∀(prog:eg) (w:gq) (E:am->au->Prop) (Q:Bool->au->Prop),Q b s->de (dw prog w) A (PyProof.Rows.oneLt' aC y x) Q E s
theorem M3.lists(B:s.heap.IsList l dM)(H:s.heap.IsList b dH)(y:A.units<jf)(C:∀j h1 (h2:j<dH.size),(∀i,i<j->e i=aC)->EqAt A.in1 s dM[j] dH[j] (e j))(z:∀j h1 (h2:j<dH.size),(∀i,i<j->e i=aC)->e j=aE->B6 A.in1 s dM[j] dH[j] (lt j)):
  M3 A s (.ref l) (.ref b) (Og (decide (dM.size<dH.size)) e lt (min dM.size dH.size) 0):=λprog w E Q h=>by
 obtain⟨⟨K,dd,r,v⟩,o,q,n,hd⟩:=id B;obtain⟨⟨u,p,HQ,f⟩,m,c,x,a⟩:=id H;simp only at q hd c a;subst q hd c a;rw[PyProof.Rows.oneLt'_eq];simp only[if_true];refine af<|wpAny_cRoomFor y ?_;refine af<|wpAny_callSpecialIfBound?_slot ⟨_,o,rfl⟩ F.slot_list_lt<|j8 F.slot_list_lt ⟨_,o,rfl⟩ F.entry_list_lt (F.args_list_lt_2 _ _) (Sq l b dM dH n x dd p v f e lt) ⟨o,m,C,z,?_⟩;exact nv h
theorem M3.int(a t b u):M3 A s (.int a t) (.int b u)<|decide (a<b):=λprog w E Q h=>PyProof.Rows.oneLt_int h
theorem M3.str(a t b u):M3 A s (.str a t) (.str b u)<|decide (a.cps.toList<b.cps.toList):=λprog w E Q h=>PyProof.Rows.oneLt_str h
theorem B6.int(a t b u):B6 A s (.int a t) (.int b u)<|decide (a<b):=λprog w E Q h=>wpAny_lt_int h
theorem B6.str(a t b u):B6 A s (.str a t) (.str b u)<|decide (a.cps.toList<b.cps.toList):=λprog w E Q h=>PySem.P.lt_str h
end
section
open PySem.W (kla_fn kla_obj kla_callFunE kla_codeExpr envX)
structure LamS(x:Str)(fs:À Str)(sc:n9):Prop where
 kind:sc.kind= .function
 co:sc.isCoroutine=aE
 gen:sc.isGenerator=aE
 par:sc.names.lookup x=aA .local
 nocell:∀y∈sc.names,y.2≠.cell
 nd:x∉fs
noncomputable abbrev XW(qual:Str)(a:n9)(L f:aq)(c:aq)(h:List<|Str×aq):Env:=envX qual a L f (.ref c) h
def cxL(X:Cx)(N:À Str)(qual:Str)(a:n9)(f c:aq)(h:À (Str×aq))(A:fj)(s:au)(H:Hp):Cx where
 p:=X.p
 w:=X.w
 K:=X.K
 mg:=X.mg
 base:=X.base
 A:=A.deeper<|XW qual a s.heap.objs.size f c h
 N:=N
 s₀:=s
 H₀:=H
 e:=XW qual a s.heap.objs.size f c h
 outer:=X.stack
 stack:=XW qual a s.heap.objs.size f c h::X.stack
 ex:=[]
 calm:=aC
 fn:=λ_=>aE
 pn:=[]
 xe:=λ_ _=>False
section
variable{σ:L2.St}
theorem pk
  (S:LamS x fs sc)(hd:A.handled=aB)(U:A.frames=aA X.stack)(I:dL X dG σ H s)(a:∀y c,cl.lookup y=aA c->X.e.cells.lookup y=aA c)(has:∀y,sc.names.lookup y=aA .free->∃c,cl.lookup y=aA c)(F:ws.length=fs.length)(E:∀(i:Nat) y w,fs[i]? =aA y->ws[i]? =aA (aA w)->∃j:Nat,X.N[j]? =aA y/\σ[j]? =aA (aA w)/\X.e.scope.names.lookup y=aA .cell/\sc.names.lookup y=aA .free)(r:Z9 v u)(L:h1.Ns s.heap.objs.size<|λy=>[(x,u)].reverse.lookup y)(K:qi s.heap.objs.size (s.heap.push {cls:=.type "frame",data:=.dict #[]}) h1):
  dL (cxL X (x::fs) qual sc f c cl A s H) [] (aA v::ws) H {s with heap:=h1,toks:=tk}:=by
 have B:∀b o,s.heap.get? b=aA o->h1.get? b=aA o:=λb o e=>(K.2 b<|eh<|cn e).trans<|aw _ e;have n:∀b:aq,b∉(cxL X (x::fs) qual sc f c cl A s H).ex:=λb z=>dt (show b∈([]:À aq)from z) Δ;have l:=I.env0;refine⟨⟨l.mod,S.kind,rfl,rfl,cj _,λy z c h1 h2=>I.ok.inj y z c (a y c h1)<|a z c h2,λy q=>?_,(λy c h=>nomatch h),λ_=>hd,BI U,.inr ⟨rfl,rfl⟩,λb z=>dt z<|n b,l.bs,l.bsz,λb _ _=>n b,λb z=>dt z<|n b,l.funs,l.frf⟩,
  rfl,l.bare,Un.kept B,⟨_,L,λi y w h1 h2 h3=>?_⟩,λy c h=>?_,l.hok.fresh<|cj _,λy c h=>I.freeC y c<|a y c h,λp O=>dt (show p∈([]:À (aq×Obj))from O) Δ,l.hok.kept B,by show(aA v::ws).length=(x::fs).length;rw[ca,ca,F]⟩
 .have q:sc.names.lookup y=aA .cell\/sc.names.lookup y=aA .free:=q;rcases q with q|q
  .exact dt rfl (S.nocell _<|ke q)
  .exact has y q
 .cases i with
  |zero=>
   obtain rfl:x=y:=by simpa[cxL]using h1
   obtain rfl:v=w:=by simpa using h2
   exact⟨u,r,.inl ⟨S.par,Δ⟩⟩
  |succ i=>
   have h1:fs[i]? =aA y:=by simpa[cxL]using h1
   have h2:ws[i]? =aA (aA w):=by simpa using h2
   refine Wv λ_ G=>?_;obtain⟨j,Y,W,g,Z⟩:=E i y w h1 h2;obtain⟨m,_,R⟩:=I.loc;obtain⟨J,M,lk⟩:=R j y w Y W<|.inr<|.inl g;obtain⟨T,P⟩:=has y Z;apply G;refine⟨J,M,.inr ⟨.inr Z,T,P,?_⟩⟩;rcases lk with⟨k,_⟩|⟨_,c',Q,z⟩
   .have k:X.e.scope.names.lookup y=aA .local:=k;rw[g]at k;cases k
   .rw[a y T P]at Q;cases Q;obtain⟨o,C,z2⟩:=z;exact⟨o,B _ _ C,z2⟩
 .obtain⟨w,o,C,z2⟩:=I.cell y c<|a y c h;exact⟨w,o,B _ _ C,z2⟩
theorem mS
  (S:LamS x fs sc)(E:dU 1 A)(T:A.frames=aA X.stack)(I:dL X dG σ H s)(L:s.heap.get? f=aA (kla_obj name qual params body sc cl pm c XM))(C:s.heap.CodeRec (.ref c) qual)(a:vd (kla_fn name qual params body sc cl pm (.ref c) XM) ⟨[u],[]⟩=jh [(x,u)])(B:∀y c,cl.lookup y=aA c->X.e.cells.lookup y=aA c)(has:∀y,sc.names.lookup y=aA .free->∃c,cl.lookup y=aA c)(o:ws.length=fs.length)(n:∀(i:Nat) y w,fs[i]? =aA y->ws[i]? =aA (aA w)->∃j:Nat,X.N[j]? =aA y/\σ[j]? =aA (aA w)/\X.e.scope.names.lookup y=aA .cell/\sc.names.lookup y=aA .free)(r:Z9 v u)(P:PE (cxL X (x::fs) qual sc f c cl A s H) body t)(K:t (aA v::ws) H Q):
  de (dw X.p X.w) A (call (.ref f) [u]) (λg s'=>CE X.stack X.p X.w H s Q g s') (λ_ _=>False) s:=by
 refine BX ?_;refine kla_callFunE E.depth L rfl S.co S.gen rfl C ?_;rw[a];refine ay<|AZ (λy h=>S.nocell y h) (λy h=>?_) (λh1 z l=>⟨?_,?_⟩) S.kind
 .have h:y=(x,u):=by simpa using h
  subst h;exact S.par
 .exact(I.nolimit).fresh _ l
 .show rj _ _ (.expr body<|XW qual sc s.heap.objs.size f c cl) _ _;refine kla_codeExpr ?_;have J:=pk (tk:=s.toks+[(x,u)].length) (f:=f) (c:=c) (qual:=qual) S E.hd T I B has o n r z l;refine ij (P [] _ _ H Q J K) (λg s' hs=>?_) λe s' hs=>hs.elim;obtain⟨F,H',m,rv,q⟩:=hs;exact⟨F,H',m.os,m.bare,m.base,m.hok,rv,q⟩
end
end
section
open PySem.W (kla_fn kla_obj kla_eval kla_makeFunction kla_makeFunctionHit CodeHd tabObj)
theorem iE(l)(h:EG l)(e:uk p (l++[j4 a,j4 b,c])=aA cv):uk p l=aA cv\/cv=c:=by
 fun_induction EG l with
 |case1=>
  right;simp only[f8,uk,j4]at e;split at e
  .exact(h8.inj e).symm
  .cases e
 |case2 a t b u x f j=>
  simp only[List.cons_append,uk]at e⊢;split at e
  .rename_i z;rw[dZ z];exact .inl e
  .rename_i z;rw[dY z];exact j h e
 |case3=>exact h.elim
def Av(mg:Str->Á am)(h:ie):Prop:=∃bm a,mg "__builtins__"=aA (.ref bm)/\bm≠v5/\h.get? bm=aA a/\a.cls= .type "module"/\a.dict=aA v5/\a.data= .plain
def S_(o:Obj)(q:Str):Prop:=∃vs t,o.data= .fields vs/\vs[1]? =aA (.str q t)
theorem uJ(ok:Rc P w H h)(e:H c=aA (.frz o<|.own p))(x:S_ o q):h.CodeRec (.ref c) q:=
 let⟨vs,t,a,b⟩:=x;⟨c,o,vs,t,rfl,(ok c _ e).1,a,b⟩
theorem mR{σ:L2.St}(I:dL X dG σ H s)(a:X.e.code= .ref c)(C:CodeHd X.base c P)(U:H P=aA (.tab q))(hq:X.e.qual++ "<lambda>"=q)(B:Av X.mg X.base)(Z:v4 sc X.e=jh clos)(T:CH params X.e=([],[]))(h:∀f g pm i G H' s',Zm H H'->Qy X dG H' f->dL X dG σ H' s'->s'.heap.get? f=aA (kla_obj "<lambda>" q params body sc clos pm g i)->H' g=aA (.frz G<|.own P)->S_ G q->Q (.ref f) s'):
  de M A (oz (.Lambda params body sc pos) X.e) Q E s:=by
 refine kla_eval T ?_;rw[hq];refine Wv λ_ zk=>?_;obtain⟨ps,e,t,cs⟩:=I.hok P _ U;have r:s.heap.Ns f6 X.mg:=I.ok.mod.glob.keeps I.bk;have zl:f6≠P:=λz=>by obtain⟨o,es,ep,v,hd,_⟩:=r;rw[z,e]at v;cases v;cases hd
 obtain⟨bm,ob,b1,b2,Y,b4,b5,b6⟩:=B;apply zk;have l:bm≠P:=λz=>by have v:=I.bk _ _ Y;rw[z,e]at v;cases v;cases b4
 have z6:bm≠mainGlobals:=λz=>by obtain⟨o,es,ep,v,hd,_⟩:=I.ok.mod.glob;rw[z,v]at Y;cases Y;rw[hd]at b6;cases b6
 have hB:s.heap.BuiltinsAt X.mg P:=⟨bm,ob,b1,b2,z6,l,I.bk _ _ Y,b4,b5,b6⟩
 have C':CodeHd s.heap c P:=C.keeps I.bk;cases hf:uk pos ps.toList with
 |some W=>obtain⟨g,G,Z_,O,rfl,ho,WY,zT⟩:=cs pos W hf;refine kla_makeFunctionHit (mg:=X.mg) Z I.ok.glob r a C' e t hf hB λi h' tk hk hsz=>?_;exact h _ g _ i G H _ (Zm.refl H) (I.fpOk hsz<|I.hok.fresh hsz) (I.kept λb u z=>aw _<|hk b u z) (dn _ rfl) ho ⟨Z_,O,WY,zT⟩
 |none=>
  refine kla_makeFunction (mg:=X.mg) Z I.ok.glob r a C' e t hf zl hB λg i h' tk hx j p K zO=>?_;have hn:H g=aB:=I.hok.fresh j;refine Wv λ_ zk=>?_;obtain⟨c2,G,x,O,e1,e2,e3,e4⟩:=K;cases e1;apply zk;have m:Zm H<|upd H g<|.frz G<|.own P:=λb o z=>by rw[Zs<|Yw z hn];exact z
  have F:∀b,H b=aB->b≠P:=λb z y=>by rw[y,U]at z;cases z
  have R:∀b o,b≠P->s.heap.get? b=aA o->(h'.push<|kla_obj "<lambda>" q params body sc clos ((X.mg "__name__").getD .none) g i).get? b=aA o:=λb o nb z=>aw _<|hx b o nb z;have N:(h'.push<|kla_obj "<lambda>" q params body sc clos ((X.mg "__name__").getD .none) g i).get? P=aA (tabObj<|ps++ #[j4 pos.line,j4 pos.col,.ref g]):=aw _ zO;have L:(h'.push<|kla_obj "<lambda>" q params body sc clos ((X.mg "__name__").getD .none) g i).get? g=aA G:=aw _ e2;refine h _ g _ i G (upd H g<|.frz G<|.own P) _ m ?_ (I.un (t':=tk) ⟨λb o z n _ _=>R b o (F b n) z,λb o z n _ _=>⟨o.slots,R b o (F b n) z⟩,λb o z n _=>?_,λb o z _=>?_,λb xs z=>m _ _ z,λb o u z=>m _ _ z,λb qs z=>⟨#[],by rw[m _ _ z];simp⟩⟩ λb u z=>?_) (dn _ rfl) Z8 ⟨x,O,e3,e4⟩
  .refine I.fpOk (qg<|v7 j p) ?_;rw[Zs<|ku p];exact I.hok.fresh<|qg<|v7 j p
  .rw[Zs<|eh<|dh (cn z) j];exact n
  .by_cases hb:b=P
   .subst hb;exact⟨_,N⟩
   .exact⟨o,R b o hb z⟩
  .by_cases J:b=g
   .subst J;rw[Z8]at z;cases z;exact⟨L,G,L⟩
   .rw[Zs J]at z;by_cases l:b=P
    .subst l;rw[U]at z;cases z;refine⟨_,N,?_,λp2 W z=>?_⟩
     .have:=TriplesOk_snoc pos.line pos.col (.ref g) _ t;simpa using this
     .have z:uk p2 (ps.toList++[j4 pos.line,j4 pos.col,.ref g])=aA W:=by simpa using z
      rcases iE _ t z with y|y
      .obtain⟨c1,o1,F0,t1,a1,a2,a3⟩:=cs p2 W y;exact⟨c1,o1,F0,t1,a1,m _ _ a2,a3⟩
      .exact⟨g,G,x,O,y,Z8,e3,e4⟩
    .refine(I.hok b u z).stay (λd w hd y=>R d w ?_ y) (λd y=>m _ _ y) (λd xs y=>m _ _ y) λd o y=>m _ _ y;rcases hd with hd|hd
     .rw[hd];exact l
     .intro y;rw[y,U]at hd;cases hd
end
section
open PySem.SeqAt (EqAt)
variable{K:ak}
@[simp]noncomputable def ZO(a lt:D->D->Option Bool):List D->List D->Option Bool
 | [],ys=>aA<|!ys.isEmpty
 |_::_,[]=>aA aE
 |x::xs,y::ys=>(a x y).bind λb=>if b=aC then ZO a lt xs ys else lt x y
@[simp]def uI(c lt:D->D->Option Bool):D->D->Option Bool
 | .int i,.int j=>aA<|decide (i<j)
 | .str a,.str b=>aA<|decide (a.cps.toList<b.cps.toList)
 | .lst xs,.lst ys=>ZO c lt xs ys
 | .tup xs,.tup ys=>ZO c lt xs ys
 |_,_=>aB
@[simp]def Sr:Nat->D->D->Option Bool
 |0=>λ_ _=>aB
 |n+1=>uI (Fu n)<|Sr n
noncomputable def isT:Option Bool->Bool
 |some aC=>aC
 |_=>aE
abbrev eJ(f:D->D->Á Bool)(xs ys:À D)(j:Nat):Bool:=isT<|f (xs.getD j .non)<|ys.getD j .non
theorem Ls:∀k i,Og fin e l k (i+1)=Og fin (λj=>e<|j+1) (λj=>l<|j+1) k i
 |0,_=>rfl
 |k+1,i=>by
  show(if e (i+1)=aC then Og fin e l k (i+1+1)else l<|i+1)=(if e (i+1)=aC then _ else _)
  rw[Ls k<|i+1]
theorem Ss:∀{xs ys:À D} {b:Bool},ZO eq lt xs ys=aA b->
  Og (decide (xs.length<ys.length)) (eJ eq xs ys) (eJ lt xs ys) (min xs.length ys.length) 0=b/\
  ∀j,j<xs.length->j<ys.length->(∀i,i<j->eJ eq xs ys i=aC)->eq (xs.getD j .non) (ys.getD j .non)=aA (eJ eq xs ys j)/\(eJ eq xs ys j=aE->lt (xs.getD j .non) (ys.getD j .non)=aA (eJ lt xs ys j))
 | [],ys,b,h=>by
  refine⟨?_,λj o=>dt o<|lz _⟩;obtain rfl:(!ys.isEmpty)=b:=by simpa using h
  cases ys<;> simp[Og]
 |x::xs,[],b,h=>by
  refine⟨?_,λj _ o=>dt o<|lz _⟩;obtain rfl:aE=b:=by simpa using h
  simp[Og]
 |x::xs,y::ys,b,h=>by
  refine L2.dN h λc p h2=>?_;have a:eJ eq (x::xs) (y::ys) 0=c:=by show isT (eq x y)=c;rw[p];cases c<;> rfl
  have q:min (x::xs).length (y::ys).length=min xs.length ys.length+1:=by simp only[ca];lia
  have m:decide ((x::xs).length<(y::ys).length)=decide (xs.length<ys.length):=Δ
  rw[q,m];cases c with
  |false=>
   have h2:lt x y=aA b:=by simpa using h2
   refine⟨?_,λj l f n=>?_⟩
   .show(if eJ eq (x::xs) (y::ys) 0=aC then _ else eJ lt (x::xs) (y::ys) 0)=b;rw[a,dY Δ];show isT (lt x y)=b;rw[h2];cases b<;> rfl
   .cases j with
    |zero=>refine⟨by rw[a];exact p,λ_=>?_⟩;show lt x y=aA (isT<|lt x y);rw[h2];cases b<;> rfl
    |succ j=>have:=n 0<|GX _;rw[a]at this;cases this
  |true=>
   obtain⟨i1,i2⟩:=Ss h2;refine⟨?_,λj l f n=>?_⟩
   .show(if eJ eq (x::xs) (y::ys) 0=aC then Og _ _ _ _ (0+1)else eJ lt (x::xs) (y::ys) 0)=b;rw[a,dZ rfl,Ls];exact i1
   .cases j with
    |zero=>refine⟨by rw[a];exact p,λz=>?_⟩;rw[a]at z;cases z
    |succ j=>exact i2 j (by simpa using l) (by simpa using f) λi r=>n (i+1) Θ
theorem dJ.getD(r:dJ K F ds vs)(w:Yg vs dI)(j)(f:j<dI.length):∃v,A3 (dS K F (ds.getD j .non) v) (Z9 v dI[j])<|j<ds.length:=by
 induction ds generalizing vs dI j with
 |nil=>cases r;cases w;exact dt f<|lz _
 |cons d ds m=>cases r with
  |cons h t=>cases w with
   |cons q l=>cases j with
    |zero=>exact⟨_,h,q,GX _⟩
    |succ j=>obtain⟨v,a,b,c⟩:=m t l j<|m7 f;exact⟨v,a,b,Nat.succ_lt_succ c⟩
theorem dJ.lenV(r:dJ K F ds vs)(w:Yg vs dI):ds.length=dI.length:=r.length.trans w.length
section
variable{X:Cx}{dG:À (aq×Obj)}{σ:L2.St}{F H:Hp}{s:au}
theorem J2(I:dL X dG σ H s)(le:Zm F H)(h:W3 X.K F a vs):∃dI,Yg vs dI/\s.heap.IsList a dI.toArray:=by obtain⟨dI,rv,⟨o,n,f,c,_,hd⟩,_⟩:=I.list<|Yt le h;exact⟨dI,rv,o,f,c,n,hd⟩
theorem Cp(I:dL X dG σ H s)(le:Zm F H)(h:F a=aA (.tup vs)):∃dI,Yg vs dI/\s.heap.IsTuple a dI.toArray:=by obtain⟨_,dI,rv,p⟩:=I.hok a _<|le _ _ h;obtain⟨o,c,f,n,hd⟩:=p;exact⟨dI,rv,o,c,f,n,hd⟩
theorem Lu(I:dL X dG σ H s)(le:Zm F H)(Q:A.units+n<jf)(P:∀G g b x y v u,dS X.K F G x->Z9 x v->dS X.K F g y->Z9 y u->Sr n G g=aA b->B6 A s v u b)(q:dJ X.K F ds vs)(l:Yg vs dI)(p:dJ X.K F es ws)(f:Yg ws jts)(h:ZO (Fu n) (Sr n) ds es=aA b):
  Og (decide (dI.toArray.size<jts.toArray.size)) (eJ (Fu n) ds es) (eJ (Sr n) ds es) (min dI.toArray.size jts.toArray.size) 0=b/\
  (∀j h1 (h2:j<jts.toArray.size),(∀i,i<j->eJ (Fu n) ds es i=aC)->EqAt A s dI.toArray[j] jts.toArray[j] (eJ (Fu n) ds es j))/\
  (∀j h1 (h2:j<jts.toArray.size),(∀i,i<j->eJ (Fu n) ds es i=aC)->eJ (Fu n) ds es j=aE->B6 A s dI.toArray[j] jts.toArray[j] (eJ (Sr n) ds es j)):=by
 obtain⟨a,c⟩:=Ss h;rw[dJ.lenV q l,dJ.lenV p f]at a;refine⟨by simpa using a,λj h1 h2 L=>?_,λj h1 h2 L hf=>?_⟩
 .have o:j<dI.length:=by simpa using h1
  have m:j<jts.length:=by simpa using h2
  obtain⟨v,E,p2,C⟩:=dJ.getD q l j o;obtain⟨w,B,z,r⟩:=dJ.getD p f j m;exact TJ I le n A _ _ _ _ _ _ _ Q E (by simpa using p2) B ζ (c j C r L).1
 .have o:j<dI.length:=by simpa using h1
  have m:j<jts.length:=by simpa using h2
  obtain⟨v,E,p2,C⟩:=dJ.getD q l j o;obtain⟨w,B,z,r⟩:=dJ.getD p f j m;exact P _ _ _ _ _ _ _ E (by simpa using p2) B ζ<|(c j C r L).2 hf
theorem UX(I:dL X dG σ H s)(le:Zm F H):∀n A G g b x y v u,A.units+n<jf->dS X.K F G x->Z9 x v->dS X.K F g y->Z9 y u->Sr n G g=aA b->B6 A s v u b
 |0,_,_,_,_,_,_,_,_,_,_,_,_,_,e=>by cases e
 |n+1,A,G,g,b,x,y,v,u,hu,r1,v1,r2,v2,e=>by
  have z:A.in1.units+n<cLine:=by have:A.in1.units=A.units+1:=rfl;lia
  have B:=λ(G g:D) (b:Bool) (x y:V) (v u:am)=>UX I le n A.in1 G g b x y v u z;cases r1 with
  |int i=>cases r2 with
   |int j=>
    obtain⟨o,rfl⟩:=v1;obtain⟨m,rfl⟩:=v2;obtain rfl:decide (i<j)=b:=by simpa using e
    exact B6.int i o j m
   |_=>cases e
  |str i=>cases r2 with
   |str j=>
    obtain⟨o,rfl⟩:=v1;obtain⟨m,rfl⟩:=v2;obtain rfl:decide (i.cps.toList<j.cps.toList)=b:=by simpa using e
    exact B6.str i o j m
   |_=>cases e
  |lst h _ r=>cases r2 with
   |lst h' _ p=>cases v1;cases v2;obtain⟨dI,rv,w⟩:=J2 I le h;obtain⟨q,f,l⟩:=J2 I le h';obtain⟨a,c,d⟩:=Lu I le z B r rv p f e;rw[<-a];exact B6.lists w l Θ c d
   |_=>cases e
  |tup h r=>cases r2 with
   |tup h' p=>cases v1;cases v2;obtain⟨dI,rv,w⟩:=Cp I le h;obtain⟨q,f,l⟩:=Cp I le h';obtain⟨a,c,d⟩:=Lu I le z B r rv p f e;rw[<-a];exact B6.tuples w l Θ c d
   |_=>cases e
  |_=>cases e
theorem uH(I:dL X dG σ H s)(le:Zm F H)(Q:A.units+(n+1)<jf)(B:dS X.K F g x)(l:Z9 x v)(q:dS X.K F G y)(f:Z9 y u)(e:Sr (n+1) g G=aA b)(hn:∀xs,g≠.tup xs):M3 A s v u b:=by
 have z:A.in1.units+n<cLine:=by have:A.in1.units=A.units+1:=rfl;lia
 have L:=λ(g G:D) (b:Bool) (x y:V) (v u:am)=>UX I le n A.in1 g G b x y v u z;cases B with
 |int i=>cases q with
  |int j=>
   obtain⟨o,rfl⟩:=l;obtain⟨m,rfl⟩:=f;obtain rfl:decide (i<j)=b:=by simpa using e
   exact M3.int i o j m
  |_=>cases e
 |str i=>cases q with
  |str j=>
   obtain⟨o,rfl⟩:=l;obtain⟨m,rfl⟩:=f;obtain rfl:decide (i.cps.toList<j.cps.toList)=b:=by simpa using e
   exact M3.str i o j m
  |_=>cases e
 |lst h _ r=>cases q with
  |lst h' _ C=>cases l;cases f;obtain⟨dI,rv,P⟩:=J2 I le h;obtain⟨E,p,w⟩:=J2 I le h';obtain⟨a,c,d⟩:=Lu I le z L r rv C p e;rw[<-a];exact M3.lists P w Θ c d
  |_=>cases e
 |tup h r=>exact dt rfl (hn _)
 |_=>cases e
end
end
section
open PySem.W (kas_sort kas_ask kas_item kat_run kat_snds)
section
variable{σ:L2.St}
theorem X3{D}{o:Obj}{xs ys:Array am}{n:Nat}(I:dL X dG σ H s)(a:Qy X dG H D):dL X dG σ H {s with heap:=s.heap.update D<|gp g,toks:=t'}:=
 I.turned (λb o c e=>by rw[mq _ _ _ _ c];exact e) a.1 a.2.1 a.2.2.2.1 a.2.2.2.2.1 a.2.2.2.2.2
theorem dL.notStk(I:dL X dG σ H s){D}(a:Qy X dG H D):D∉Re X.stack:=λz=>by
 rcases az.mp (I.stkSub D z)with z|z
 .exact a.2.1 z
 .exact a.2.2.1 z
theorem XV{D}(a:Qy X dG H D)(h:H' D=aB):Qy X dG H' D:=⟨h,a.2⟩
def KS(X:Cx)(dG:À (aq×Obj))(σ:L2.St)(h:Hp)(f:aq)(fo:Obj)(D kS:aq)(c:Nat)(KeyOk:Nat->V->Hp->Prop)(i:Nat)(s:au):Prop:=
 ∃H ks kvs e,Zm h H/\dL X dG σ H s/\Qy X dG H D/\Qy X dG H kS/\Qy X dG H f/\s.heap.get? D=aA (iz "list" #[] c)/\s.heap.get? kS=aA (iz "list" (iy ks) e)/\s.heap.get? f=aA fo/\
  Yg kvs ks/\ks.length=i/\∀j a,kvs[j]? =aA a->KeyOk j a H
theorem Lv{dI:À am}{D:aq}(C:D≠kS)(fS:f≠D)(P:f≠kS)(fT:dI.length<64)(mono:∀j G H1 H2,Zm H1 H2->KeyOk j G H1->KeyOk j G H2)(hcall:∀j u H1 I,dI[j]? =aA u->Zm H H1->dL X dG σ H1 I->I.heap.get? f=aA fo->Qy X dG H1 f->de (dw X.p X.w) A (call (.ref f) [u]) (λk g=>∃G H2,Zm H1 H2/\dL X dG σ H2 g/\Un (Re X.stack) [] H1 H2 I.heap g.heap/\Z9 G k/\KeyOk j G H2) (λ_ _=>False) I)(hb:∀x ks I (R:au->Prop),ks.length<64->de (dw X.p X.w) A (call (.ref f) [x]) (λk g=>∃e',g.heap.get? kS=aA (iz "list" (iy ks) e')/\R {g with heap:=g.heap.update kS (gp (·.push k))}) (λ_ _=>False) I->de (dw X.p X.w) A (body x ⟨⟩) (λr g=>r= .yield ⟨⟩/\R g) E I)(h0:KS X dG σ H f fo D kS e1 KeyOk 0 s)(hq:∀s',KS X dG σ H f fo D kS e1 KeyOk dI.length s'->Q ⟨⟩ s'):de (dw X.p X.w) A (forIn dI PUnit.unit body) Q E s:=by
 refine ksk_fold (λi s'=>KS X dG σ H f fo D kS e1 KeyOk i s') dI 0 s h0 (λj x s' W hs=>?_) λs' hs=>hq s' (by rw[oi]at hs;exact hs);rw[oi]at hs⊢;have hj:j<dI.length:=(ci.mp W).1;refine Wv λ_ B=>?_;obtain⟨H1,ks,kvs,e,O,y,v,m,q,gD,gk,J,rv,Y,hk⟩:=hs;apply B;refine hb x ks s' _ Θ<|ij (hcall j x H1 s' W O y J q) (λk g h2=>?_) λ_ _ z=>z;refine Wv λ_ B=>?_;obtain⟨G,H2,c,I2,un,rk,ok⟩:=h2;have nD:=un.free D _ gD v.1 Δ;have U:=un.free kS _ gk m.1 Δ;have nf:=un.free f _ J q.1 Δ;have M:=un.keep D _ gD v.1 (dL.notStk y v) Δ;have l:=un.keep kS _ gk m.1 (dL.notStk y m) Δ;have Z:=un.keep f _ J q.1 (dL.notStk y q) Δ;have ea:(iy ks).push k=iy (ks++[k]):=Δ
 obtain⟨N,T⟩:∃N,(g.heap.update kS (gp (·.push k))).get? kS=aA (iz "list" (iy<|ks++[k]) N):=⟨_,by rw[<-ea];exact xi l (·.push k)⟩
 apply B;refine⟨e,l,H2,ks++[k],kvs++[G],N,O.trans c,X3 (o:=iz "list" #[] 0) (xs:= #[]) (ys:= #[]) (n:=0) I2<|XV m U,XV v nD,XV m U,XV q nf,?_,?_,?_,rv.append<|.cons rk .nil,by simp[Y],λi a h=>?_⟩
 .show(g.heap.update kS _).get? D=_;rw[mq _ _ _ _ C];exact M
 .exact T
 .show(g.heap.update kS _).get? f=_;rw[mq _ _ _ _ P];exact Z
 .have F:kvs.length=ks.length:=rv.length;by_cases L:i<kvs.length
  .rw[ix L]at h;exact mono i a H1 H2 c<|hk i a h
  .have K:i=kvs.length:=by have:=(ci.mp h).1;rw[ax,dv]at this;lia
   subst K;rw[jb<|cj _,wq]at h;obtain rfl:G=a:=by simpa using h
   rw[F,Y];exact ok
end
end
section
open PySem.W (kas_sort kas_ask kas_item kat_run kat_snds)
section
variable{dI:À am}{f D kS:aq}
def Out(X:Cx)(dG:À (aq×Obj))(σ:L2.St)(a:Hp)(D:aq)(out:À am)(s:au):Prop:=
 ∃H c,Zm a H/\dL X dG σ H s/\Qy X dG H D/\s.heap.get? D=aA (iz "list" (iy out) c)
theorem I7{st}(h:D≠kS)(r:dI.length<64)(hz:out.length<64)(c:(DI st).map (·.2)=iy out)(hf:failedOf st=aB)(hs:KS X dG σ H f fo D kS e1 KeyOk dI.length s)(q:∀s',Out X dG σ H D out s'->P (.done<|.ret .none) s'):de (dw X.p X.w) A (ksk_tail D aE e1 (.ref kS) st) P E s:=by
 refine Wv λ_ l=>?_;obtain⟨H1,ks,kvs,e,m,z,j,x,K,v,u,F,rv,B,C⟩:=hs;apply l;unfold ksk_tail
 try dsimp only
 rw[c];have y:=X3 (o:=iz "list" #[] 0) (xs:= #[]) (ys:= #[]) (n:=0) (t':=s.toks) (g:=λ_=>(#[]:Array am)) z x;have a:(s.heap.update kS<|gp λ_=>(#[]:Array am)).get? D=aA (iz "list" #[] e1):=by rw[mq _ _ _ _ h];exact v
 refine af<|vx u rfl ?_ (by rw[c9,jx];lia) (gr _);refine af<|HA ?_;refine af<|HI a rfl ?_;refine af (vx a rfl ?_ (gr _) (by simp only[j5,if_false];rw[c9,jx];lia));rw[hf];simp only[bne_self_eq_false,j5,if_false];refine ay<|q _ ⟨H1,_,m,X3 (o:=iz "list" #[] 0) (xs:= #[]) (ys:= #[]) (n:=0) y j,j,xi a λ_=>iy out⟩
def Cmp(X:Cx)(dG:À (aq×Obj))(σ:L2.St)(f:Hp)(A:fj)(KeyOk:Nat->V->Hp->Prop)(lt:Nat->Nat->Á Bool)(n:Nat):Prop:=
 ∀H2 a ks kvs,Zm f H2->dL X dG σ H2 a->Yg kvs ks->ks.length=n->(∀j c,kvs[j]? =aA c->KeyOk j c H2)->2<=n->
  ∃κ,(∀Q:SortKind->au->Prop,Q κ a->de (dw X.p X.w) A (keyKind'<|iy ks) Q (λ_ _=>False) a)/\
   ∀i j b (Q:Bool->au->Prop),lt i j=aA b->Q b a->de (dw X.p X.w) A (keyLt' κ (ks.getD i .none)<|ks.getD j .none) Q (λ_ _=>False) a
theorem pZ(o:D≠kS)(h:dI.length<64)(I:Cmp X dG σ H A KeyOk lt dI.length)(n:ZP lt dI.length=aA p)(x:p.size<64)(B:Zm H H1)(L:dL X dG σ H1 s)(W:Qy X dG H1 D)(R:Qy X dG H1 kS)(U:Qy X dG H1 f)(O:s.heap.get? D=aA (iz "list" #[] e1))(M:s.heap.get? kS=aA (iz "list" (iy ks) e))(N:s.heap.get? f=aA fo)(rv:Yg kvs ks)(u:ks.length=dI.length)(F:∀j G,kvs[j]? =aA G->KeyOk j G H1)(K:∀s',Out X dG σ H D (p.toList.map λi=>dI.getD i ik) s'->P (.done<|.ret .none) s'):
  de (dw X.p X.w) A (ksk_end D aE dI.toArray e1 (.ref kS)<|iy ks) P E s:=by
 have hs:KS X dG σ H f fo D kS e1 KeyOk dI.length s:=⟨H1,ks,kvs,e,B,L,W,R,U,O,M,N,rv,u,F⟩
 unfold ZP at n;unfold ksk_end
 try dsimp only
 by_cases h2:dI.toArray.size<2
 .rw[dZ h2,dZ h2];have l:dI.length<2:=by simpa using h2
  rw[dZ l]at n;cases n;refine af<|ay ?_;refine af<|ay ?_
  try dsimp only
  refine I7 (out:=(iy<|gz dI.length).toList.map λi=>dI.getD i ik) o h η ?_ rfl hs K;show((iy ks).zip dI.toArray).map (·.2)=_;apply w9.mp;rw[Array.toList_map,ksk_zip];simp only;have Y:(ks.zip dI).map qx=dI:=by rw[ur];lia
  rw[Y];apply EM
  .simp
  .intro i a b;simp[a]
 .rw[dY h2,dY h2];have l:2<=dI.length:=EI Γa;rw[dY π]at n;obtain⟨κ,v,y⟩:=I H1 s ks kvs B L rv u F l;refine af<|ij (v (λm s'=>m=κ/\s'=s) ⟨rfl,rfl⟩) (λm s' z=>?_) λ_ _ z=>z.elim;obtain⟨rfl,rfl⟩:=z;have g:=NN (cmp:=kas_ask X.p X.w A m ks) (s:=s') (Q:=λq c=>c=s'/\q=p) (λi j b C e J=>y i j b C e J) ⟨rfl,rfl⟩ n;refine af (ij (kat_run (Q:=λst c=>c=s'/\DI st=p.map (kas_item<|(iy ks).zip dI.toArray)/\failedOf st=aB) u l h
   (λq st c _ a1 a2 z=>by obtain⟨rfl,rfl⟩:=z;exact⟨rfl,a1,a2⟩) g) (λr c z=>?_) λ_ _ z=>z)
  obtain⟨⟨⟩,st⟩:=r;obtain⟨rfl,Z,T⟩:=z
  try dsimp only
  exact I7 o h (by rw[aj,kn];exact x) (kat_snds u Z) T hs K
theorem mQ(a:D≠kS)(o:f≠D)(n:f≠kS)(c:dI.length<64)(mono:∀j G H1 H2,Zm H1 H2->KeyOk j G H1->KeyOk j G H2)(F:Cmp X dG σ H A KeyOk lt dI.length)(B:ZP lt dI.length=aA p)(l:p.size<64)(hcall:∀j u H1 g,dI[j]? =aA u->Zm H H1->dL X dG σ H1 g->g.heap.get? f=aA fo->Qy X dG H1 f->de (dw X.p X.w) A (call (.ref f) [u]) (λk I=>∃G H2,Zm H1 H2/\dL X dG σ H2 I/\Un (Re X.stack) [] H1 H2 g.heap I.heap/\Z9 G k/\KeyOk j G H2) (λ_ _=>False) g)(h0:KS X dG σ H f fo D kS e1 KeyOk 0 s)(K:∀s',Out X dG σ H D (p.toList.map λi=>dI.getD i ik) s'->P (.done<|.ret .none) s'):
  de (dw X.p X.w) A (ksk_rest D (.ref f) aE dI.toArray e1<|.ref kS) P E s:=by
 refine af<|uw ?_
 first
  |rw[List.forIn_toArray]
  | (rw[<-t5];simp only[List.toList_toArray])
  |rw[<-t5]
 refine af<|Lv (H:=H) (KeyOk:=KeyOk) a o n c mono hcall (λx ks g R hz z=>?_) h0 λs' hs=>?_
 .refine af (ud<|ij z (λk y m=>?_) λ_ _ L=>L.elim);obtain⟨O,h,r⟩:=m
  try dsimp only
  refine af (vx h rfl ?_ (by rw[c9,jx];lia) (fg (GZ<|EY ..) (by rw[c9,jx];lia)));exact ay ⟨rfl,r⟩
 .refine Wv λ_ q=>?_;obtain⟨H1,ks,kvs,e,v,N,M,Z,J,T,h,Q,rv,C,m⟩:=hs;apply q
  try dsimp only
  refine af<|GU h rfl ?_;exact pZ a c F B l v N M Z J T h Q rv C m K
end
end
section
open PySem.Calls
theorem kO{σ:L2.St}{dI:À am}(I:dL X dG σ H s)(Z:s.heap.IsList l dI.toArray)(x:dI.length<64)(F:s.heap.get? f=aA fo)(U:Qy X dG H f)(mono:∀j g H1 H2,Zm H1 H2->KeyOk j g H1->KeyOk j g H2)(N:Cmp X dG σ H X.A.in1.in1 KeyOk lt dI.length)(P:ZP lt dI.length=aA p)(v:p.size<64)(hcall:∀j u H1 G,dI[j]? =aA u->Zm H H1->dL X dG σ H1 G->G.heap.get? f=aA fo->Qy X dG H1 f->de (dw X.p X.w) X.A.in1.in1 (call (.ref f) [u]) (λk J=>∃g H2,Zm H1 H2/\dL X dG σ H2 J/\Un (Re X.stack) [] H1 H2 G.heap J.heap/\Z9 g k/\KeyOk j g H2) (λ_ _=>False) G)(hQ:∀D s',X.s₀.heap.get? D=aB->Out X dG σ H D (p.toList.map λi=>dI.getD i ik) s'->Q (.ref D) s'):
  de (dw X.p X.w) X.A (call (.builtin "sorted") [.ref l] [(aa "key",.ref f)]) Q E s:=by
 refine call_function_entry_kw HL GQ GV (ksk_s1 _ _) ?_;unfold pv.«sorted»;refine af (m:=IE "sorted" 1 1 _)<|ay ?_;refine af (collect_list Z ?_ (by rw[jx];lia));refine af (yf ?_ (by rw[jx];lia));have hsz:((s.heap.push<|iz "list" #[] 0).update s.heap.objs.size (gp (· ++dI.toArray))).objs.size=s.heap.objs.size+1:=by rw[ER,CB]
 have a:(((s.heap.push<|iz "list" #[] 0).update s.heap.objs.size (gp (· ++dI.toArray))).push<|iz "list" dI.toArray 0).get? (s.heap.objs.size+1)=aA (iz "list" dI.toArray 0):=by rw[<-hsz];exact dn _ rfl
 have keep:∀b o,s.heap.get? b=aA o->(((s.heap.push<|iz "list" #[] 0).update s.heap.objs.size (gp (· ++dI.toArray))).push<|iz "list" dI.toArray 0).get? b=aA o:=λb o q=>by have c: @BH Nat _ b s.heap.objs.size:=cn q;rw[DT _ _ _ (by rw[hsz];exact eh<|DO c),mq _ _ _ _<|eh c,DT _ _ _<|eh c];exact q
 show de _ _ _ _ _ {s with heap:=((s.heap.push<|iz "list" #[] 0).update s.heap.objs.size (gp (· ++dI.toArray))).push (iz "list" dI.toArray 0)};rw[hsz];refine af<|j6<|wpAny_call_entry_kw FI ⟨_,a,rfl⟩ ET ?body<|ksk_l1 _ _
 case body=>
  show de (dw X.p X.w) X.A.in1.in1 (pv.«list.sort» ⟨[.ref (s.heap.objs.size+1)],[(aa "key",.ref f)]⟩) _ _ _;rw[ksk_t1];have n:(((s.heap.push<|iz "list" #[] 0).update s.heap.objs.size (gp (· ++dI.toArray))).push<|iz "list" dI.toArray 0).objs.size=s.heap.objs.size+2:=by rw[CB,hsz]
  generalize W:(((s.heap.push<|iz "list" #[] 0).update s.heap.objs.size (gp (· ++dI.toArray))).push<|iz "list" dI.toArray 0)=h1 at a keep n⊢;generalize R:s.heap.objs.size+1=D at a⊢;have O: @Eq Nat D (s.heap.objs.size+1):=R.symm;obtain⟨y,r⟩:∃y,(h1.update D (gp λ_=>(#[]:Array am))).get? D=aA (iz "list" #[] y):=⟨_,xi a λ_=> #[]⟩
  have h:((h1.update D<|gp λ_=>(#[]:Array am)).push<|iz "tuple" dI.toArray 0).objs.size=s.heap.objs.size+3:=by rw[CB,ER,n]
  unfold ksk_tree;refine af<|GU a rfl ?_;refine af<|vx a rfl ?_ (by rw[c9,jx];lia) (gr _);refine af<|HI r rfl ?_;refine af (FF ?_ (by show dI.length<=_;rw[jx];lia));refine af<|yf ?_<|gr _;refine j6 ?_;have B:∀b o,s.heap.get? b=aA o->(((h1.update D<|gp λ_=>(#[]:Array am)).push<|iz "tuple" dI.toArray 0).push<|iz "list" #[] 0).get? b=aA o:=λb o q=>by have c: @BH Nat _ b s.heap.objs.size:=cn q;have:=keep b o q;refine aw _<|aw _ ?_;rw[mq _ _ _ _<|eh (show @BH Nat _ b D by clear h hsz;lia)];exact this
  show de (dw X.p X.w) X.A.in1.in1 (ksk_rest D (.ref f) aE dI.toArray y<|.ref ((h1.update D<|gp λ_=>(#[]:Array am)).push<|iz "tuple" dI.toArray 0).objs.size) _ _ _;have C:(((h1.update D<|gp λ_=>(#[]:Array am)).push<|iz "tuple" dI.toArray 0).push<|iz "list" #[] 0).get? (((h1.update D<|gp λ_=>(#[]:Array am)).push<|iz "tuple" dI.toArray 0).objs.size)=aA (iz "list" #[] 0):=dn _ rfl;rw[h]at C⊢;have M: @BH Nat _ f s.heap.objs.size:=cn F;have L:H D=aB:=I.hok.fresh (by clear hsz;lia);have K:H (s.heap.objs.size+3)=aB:=I.hok.fresh Θ;refine mQ (s:={s with heap:=((h1.update D<|gp λ_=>(#[]:Array am)).push<|iz "tuple" dI.toArray 0).push (iz "list" #[] 0)}) (H:=H) (KeyOk:=KeyOk) (fo:=fo) (eh (show @BH Nat _ D (s.heap.objs.size+3) by clear hsz;lia)) (eh (show @BH Nat _ f D by clear h hsz;lia)) (eh (show @BH Nat _ f (s.heap.objs.size+3) by clear hsz h;lia)) x mono N P v hcall ?_ λs' T=>⟨_,rfl,ay ⟨_,rfl,hQ D s' ?_ T⟩⟩
  .exact⟨H,[],[],0,Zm.refl H,I.kept B,I.fpOk (by clear hsz;lia) L,I.fpOk Θ K,U,aw _<|aw _ r,C,B _ _ F,.nil,rfl,λj g z=>by simp at z⟩
  .exact rg (fg I.sz (by clear hsz;lia))
end
section
open PySem.Calls
open PySem.W (KatLex kat_lt kat_kind KatTups kat_one kat_nil kat_cons kat_yes kat_no)
section
variable{σ:L2.St}
theorem uG(I:dL X dG σ H s)(le:Zm F H)(C:A.units+(n+1)<jf):∀{ds es:À D} {vs ws:À V} {dI a:À am} {b:Bool} i,
  dJ X.K F ds vs->Yg vs dI->dJ X.K F es ws->Yg ws a->(i=0->∀d,ds.head? =aA d->∀xs,d≠.tup xs)->ZO (Fu<|n+1) (Sr<|n+1) ds es=aA b->(dI.length=a.length->fin=aE)->(dI.length<a.length->fin=aC)->(a.length<dI.length->fin=aE)->Q b s->
  KatLex X.p X.w A aC fin Q (dI.zip a) i s:=by
 intro ds;induction ds with
 |nil=>
  intro es vs ws dI a b i h1 h2 m f _ e u o _ q;cases h1;cases h2;cases m with
  |nil=>
   cases f;obtain rfl:aE=b:=by simpa using e
   rw[u rfl];exact q
  |cons _ _=>
   cases f;obtain rfl:aC=b:=by simpa using e
   rw[o Δ];exact q
 |cons d ds B=>
  intro es vs ws dI a b i h1 h2 m f hd e u o x q;obtain⟨_,_,rfl,h,t⟩:=h1.consI;obtain⟨_,_,rfl,r,y⟩:=h2.consI;cases m with
  |nil=>
   cases f;obtain rfl:aE=b:=by simpa using e
   rw[x Δ];exact q
  | @cons d' _ es _ h' t'=>
   obtain⟨_,_,rfl,l,j⟩:=f.consI;refine L2.dN e λc E v=>?_;refine kat_cons<|TJ I le (n+1) A _ _ _ _ _ _ _ π h r h' l E X.p X.w _ _ ?_;cases c with
   |true=>exact kat_yes<|B (i+1) t y t' j (λz=>dt z<|Nat.succ_ne_zero i) v (λz=>u ο) (λz=>o ζ) (λz=>x ζ) q
   |false=>
    refine kat_no ?_;cases i with
    |zero=>exact uH I le C h r h' l v (hd rfl d rfl) X.p X.w _ _ q
    |succ i=>
     have:(aC&&(i+1==0))=aE:=Δ
     refine kat_one _ _<|UX I le (n+1) A _ _ _ _ _ _ _ π h r h' l v X.p X.w _ _ ?_;exact q
inductive IsKey:D->Prop where
 |lst (xs:List D) (r:List D):IsKey<|.tup (.lst xs::r)
theorem IsKey.shape(h:IsKey d):E2 λe r=>d= .tup (e::r)/\∀xs,e≠.tup xs:=by
 cases h with
 |lst xs r=>exact⟨_,r,rfl,λ_ z=>by cases z⟩
theorem uF(I:dL X dG σ H s)(le:Zm F H)(J:A.units+(n+2)<jf)(k1:IsKey d1)(k2:IsKey d2)(P:dS X.K F d1 x)(r:Z9 x v)(L:dS X.K F d2 y)(l:Z9 y u)(e:Sr (n+2) d1 d2=aA b)(q:Q b s):de (dw X.p X.w) A (keyLt' (GM aC) v u) Q E s:=by
 obtain⟨i,C,rfl,h⟩:=k1.shape;obtain⟨N,B,rfl,_⟩:=k2.shape;obtain⟨_,_,rfl,h1,T⟩:=P.tupI;cases L with
 |tup h2 p2=>
  cases r;cases l;obtain⟨dI,rv,o,Z,M,m,hd⟩:=Cp I le h1;obtain⟨c,a,o',f,g,G,j⟩:=Cp I le h2;refine kat_lt Z hd f j ?_;refine uG I le Θ 0 T rv p2 a (λ_ d z xs=>?_) e (λz=>?_) (λz=>?_) (λz=>?_) q
  .obtain rfl:i=d:=by simpa using z
   exact h xs
  .simp[z]
  .simpa using z
  .have z:c.length<dI.length:=by simpa using z
   simp;lia
theorem Su(I:dL X dG σ H s)(le:Zm F H):∀{ds:À D} {vs:À V} {dI:À am},(∀d∈ds,IsKey d)->dJ X.K F ds vs->Yg vs dI->∃fs,A3 (KatTups s.heap dI fs) (fs.length=dI.length) (∀v∈fs,qv (dw X.p X.w) s.heap (BZ v)<|.type "list")
 |_,_,_,_,.nil,.nil=>⟨[],trivial,rfl,λ_ z=>nomatch z⟩
 |d::ds,_,_,hk,.cons h t,.cons r rs=>by
  obtain⟨fs,a,b,c⟩:=Su I le (λd z=>hk d<|ag _ z) t rs;cases hk d ac with
  |lst xs P=>cases h with
   |tup h1 u=>
    cases r;obtain⟨dI,rv,o,B,C,m,hd⟩:=Cp I le h1;obtain⟨_,_,rfl,n,Z⟩:=u.consI;cases rv with
    |cons l L=>cases n with
     |lst g1 _ g2=>
      cases l;obtain⟨y,_,x,f,j,_⟩:=J2 I le g1;refine⟨_::fs,KatTups.cons B C hd rfl a,by simp[b],λv z=>?_⟩;rcases az.mp z with z|z
      .subst z;exact λA Q E s' k q=>we (T:="list") ⟨x,k _ _ f,j⟩ q
      .exact c v z
theorem mP(I:dL X dG σ H s)(le:Zm F H)(f:∀d∈ds,IsKey d)(r:dJ X.K F ds vs)(rv:Yg vs dI)(h2:0<dI.length)(q:Q (GM aC) s):
  de (dw X.p X.w) A (keyKind'<|iy dI) Q E s:=by
 obtain⟨fs,a,b,c⟩:=Su I le f r rv;refine kat_kind (T:=.type "list") a Θ c Γ ?_;exact q
end
end
section
open PySem.Calls
def YC(ks:À D)(i j:Nat):Á Bool:=if i<ks.length/\j<ks.length then Sr 16 (ks.getD i .non) (ks.getD j .non)else aB
open Classical in
def YT(ks xs:À D):Á SV:=
 if ks.length=xs.length/\xs.length<64/\∀d∈ks,IsKey d then(ZP (YC ks) xs.length).bind λp=>if p.size=xs.length/\∀i∈p.toList,i<xs.length then aA (.ol<|p.toList.map λi=>xs.getD i .non)else aB else aB
theorem pY(e:YT ks xs=aA sv):ks.length=xs.length/\xs.length<64/\(∀d∈ks,IsKey d)/\∃p,A4 (ZP (YC ks) xs.length=aA p) (p.size=xs.length) ((∀i∈p.toList,i<xs.length))<|sv= .ol (p.toList.map λi=>xs.getD i .non):=by
 unfold YT at e;split at e
 .rename_i h;refine L2.dN e λp c a=>?_;split at a
  .rename_i h2;cases a;exact⟨h.1,h.2.1,h.2.2,p,c,h2.1,h2.2,rfl⟩
  .cases a
 .cases e
theorem pX(h1:ks.length=xs.length)(h2:xs.length<64)(m:∀d∈ks,IsKey d)(l:∀a∈ks,∀b∈ks,∃c,Sr 16 a b=aA c):∃p:À Nat,p.Perm (gz xs.length)/\YT ks xs=aA (.ol<|p.map λi=>xs.getD i .non):=by
 have get:∀i,i<ks.length->ks.getD i .non∈ks:=λi f=>by rw[du,cf f];exact oq f
 obtain⟨p,e,h⟩:=pr (lt:=YC ks) (n:=xs.length) λi j f o=>by unfold YC;rw[dZ ⟨Θ,Θ⟩];exact l _ (get i Θ) _<|get j Θ
 have pt:p.toList.Perm<|gz xs.length:=ye.mp h;refine⟨p.toList,pt,?_⟩;unfold YT;rw[dZ ⟨h1,h2,m⟩,e];show(if _ then _ else _)=_;rw[dZ ⟨by have:=pt.length_eq;simpa using this,λi f=>lh.mp<|pt.mem_iff.mp f⟩]
@[simp]def YS(fb:FE)(cs:À D)(d:D):Á D:=(fb (some (.fz d)::cs.map λc=>some<|.fz c)).bind λp=>(frz p.1 p.2).bind λq=>some q.1
@[simp]def Sw(fb:FE)(cs:List D):List D->Option (List D)
 | []=>aA []
 |d::ds=>(YS fb cs d).bind λk=>(Sw fb cs ds).bind λks=>aA (k::ks)
@[simp]def yP(fb:FE)(a:List Nat)(d:D)(δ:Y5):Option<|RV×Y5:=match d with
 | .lst xs=>(frzAll (a.map RV.bw) δ).bind λr=>(Sw fb r.1 xs).bind λks=>(YT ks xs).bind λsv=>aA (.tmp sv,r.2)
 |_=>aB
@[simp]def UW(fa:FE)(a:À Nat)(fb:FE):FE:=λδ=>(fa δ).bind λp=>(frz p.1 p.2).bind λq=>yP fb a q.1 q.2
theorem IZ:∀{xs ks:À D},Sw fb cs xs=aA ks->ks.length=xs.length/\∀(j:Nat) d,xs[j]? =aA d->∃k,ks[j]? =aA k/\YS fb cs d=aA k
 | [],ks,e=>by
  obtain rfl:[]=ks:=by simpa using e
  exact⟨rfl,λj d z=>by simp at z⟩
 |x::xs,ks,e=>by
  refine L2.dN e λk m l=>?_;refine L2.dN l λc h f=>?_;cases f;obtain⟨a,b⟩:=IZ h;refine⟨by simp[a],λj d z=>?_⟩;cases j with
  |zero=>
   obtain rfl:x=d:=by simpa using z
   exact⟨k,rfl,m⟩
  |succ j=>exact b j d ζ
section
variable{K:ak}
theorem NK{Z:dP K}:∀{f:À Nat} {F:Hp} {δ δ':Y5} {own:Nat->Zy} {ds:À D},SR Z F H σ δ own->frzAll (f.map RV.bw) δ=aA (ds,δ')->
  E3 λG g vs=>A5 (Zm F G) (SR Z G H σ δ' g) (dJ K G ds vs) (vs.length=f.length) (∀(i j:Nat) v,f[i]? =aA j->vs[i]? =aA v->σ[j]? =aA (aA v))
 | [],F,δ,δ',own,ds,s,e=>by cases e;exact⟨F,own,[],Zm.refl F,s,.nil,rfl,λi j v z=>by simp at z⟩
 |j::f,F,δ,δ',own,ds,s,e=>by
  refine Wv λ_ m=>?_;refine L2.dO e λd δ1 A y=>?_;refine L2.dO y λB δ2 x u=>?_;cases u;refine L2.dN A λsv r q=>?_;cases q;obtain⟨G,v,h,h1,h2,o⟩:=s.freeze<|Op r;obtain⟨C,c,vs,a,n,p,l2,g2⟩:=NK o x;apply m;refine⟨C,c,v::vs,h.trans a,n,.cons (h2.mono a) p,by simp[l2],λi k w l z2=>?_⟩;cases i with
  |zero=>
   obtain rfl:j=k:=by simpa using l
   obtain rfl:v=w:=by simpa using z2
   exact h1
  |succ i=>exact g2 i k w (by simpa using l) (by simpa using z2)
theorem dJ.len2:∀{ds:À D} {vs:À V},dJ K F ds vs->ds.length=vs.length
 |_,_,.nil=>rfl
 |_,_,.cons _ t=>congrArg (· +1)<|dJ.len2 t
theorem uE(le:Zm F H1)(r:dS K F d v)(f:dJ K F cs vs):
  SR (ent H1 F:dP K) F H1 (aA v::vs.map aA) (aA (.fz d)::cs.map λc=>aA<|.fz c) (λ_=>[]):=by
 refine⟨le,λb o e=>.inl e,Zm.refl H1,by simp[dJ.len2 f],λi sv e=>?_,λ_=>gd,λ_ _ z=>(nomatch z),λ_ _ _ _ _ z=>(nomatch z)⟩;cases i with
 |zero=>
  have e:sv=SV.fz d:=by simpa using e.symm
  subst e;exact⟨v,rfl,.fz r⟩
 |succ i=>
  have e:(cs.map λc=>aA<|SV.fz c)[i]? =aA (aA sv):=by simpa using e
  rw[c8]at e;cases a:cs[i]? with
  |none=>rw[a]at e;cases e
  |some c=>
   rw[a]at e;have e:sv=SV.fz c:=by simpa using e.symm
   subst e;obtain⟨w,h1,h2⟩:=L2.dJ.get f a;exact⟨w,by simp[h1],.fz h2⟩
end
end
section
open PySem.Calls
open PySem.W (CodeHd kla_fn kla_obj)
theorem pW{K}(a:kvs.length=ks.length)(h:∀j g,kvs[j]? =aA g->dS K F (ks.getD j .non) g):dJ K F ks kvs:=by
 induction ks generalizing kvs with
 |nil=>cases kvs with
  |nil=>exact .nil
  |cons _ _=>simp at a
 |cons k ks c=>cases kvs with
  |nil=>simp at a
  |cons v kvs=>exact .cons (h 0 v rfl)<|c ν λj g e=>h (j+1) g θ
theorem kN:∀{ws:À V} {dI:À am},Yg ws dI->∀{p:À Nat},(∀i∈p,i<dI.length)->Yg (p.map λi=>ws.getD i .non) (p.map λi=>dI.getD i ik):=by
 intro ws dI h p f;have at':∀{ws:À V} {dI:À am},Yg ws dI->∀i,i<dI.length->Z9 (ws.getD i .non) (dI.getD i ik):=by
  intro ws dI h;induction h with
  |nil=>intro i c;simp at c
  |cons r t a=>intro i c;cases i with
   |zero=>exact r
   |succ i=>exact a i μ
 induction p with
 |nil=>exact .nil
 |cons i r a=>exact .cons (at' h i<|f i ac)<|a λj l=>f j<|ag _ l
theorem qY{K}(r:dJ K F xs ws)(i)(a:i<xs.length):dS K F (xs.getD i .non)<|ws.getD i .non:=by
 induction xs generalizing ws i with
 |nil=>exact dt a<|lz _
 |cons x xs c=>cases r with
  |cons h t=>cases i with
   |zero=>exact h
   |succ i=>exact c t i<|m7 a
theorem Sx{K}(h:dJ K F xs ws):∀{p:À Nat},(∀i∈p,i<xs.length)->dJ K F (p.map λi=>xs.getD i .non) (p.map λi=>ws.getD i .non)
 | [],_=>.nil
 |i::r,hp=>.cons (qY h i<|hp i ac)<|Sx h λj a=>hp j<|ag _ a
theorem qX{Z:dP X.K}{p1 p2 lp kp}(hr:dU 3 X.A)(hv:X.A.units+64<jf)(h1:X.mg "sorted"=aB)(YG:X.e.code= .ref c)(C:CodeHd X.base c P)(hT:Z.h P=aA (.tab q))(hq:X.e.qual++ "<lambda>"=q)(B:Av X.mg X.base)(S:LamS x fs sc)(zt:v4 sc X.e=jh clos)(W_:CH params X.e=([],[]))(YH:∀cl pm c XM u,vd (kla_fn "<lambda>" q params body sc cl pm (.ref c) XM) ⟨[u],[]⟩=jh [(x,u)])(zx:∀y c,clos.lookup y=aA c->X.e.cells.lookup y=aA c)(has:∀y,sc.names.lookup y=aA .free->∃c,clos.lookup y=aA c)(SM:js.length=fs.length)(zf:∀(i j:Nat) y,js[i]? =aA j->fs[i]? =aA y->X.N[j]? =aA y/\X.e.scope.names.lookup y=aA .cell/\sc.names.lookup y=aA .free)(ha:PE X a<|liftE Z fa)(hb:∀f c A s1 H1 F1,(cxL X (x::fs) q sc f c clos A s1 H1).A.units+1<jf->PE (cxL X (x::fs) q sc f c clos A s1 H1) body (liftE (ent H1 F1:dP X.K) fb))(g1:‹Gl X "sorted"›)(SO:‹Se X a []›)(zQ:‹Bk X p2 []›):
  PE X (.Call (.Name "sorted" p1) [a] [⟨aA "key",.Lambda params body sc lp,kp⟩] p2) (liftE Z<|UW fa js fb):=by
 intro dG s σ H Q I h;refine Wv λ_ zk=>?_;obtain⟨F,δ,own,rv,δ',sr,e,k⟩:=h;refine L2.dO e λWN δ1 e1 e2=>?_;refine L2.dO e2 λd δ2 e3 e4=>?_;apply zk;refine my<|Rf I g1 h1 L2.Fc ?_;refine callWith_builtin_kwB (by rw[SO];show(aE|| (qt p2<|jv [] X.e).any (·.1))=aE;rw[zQ];rfl) rfl ?_;rw[SO];show de _ _ (evalArgs (.builtin "sorted") aC ((aE,oz a X.e)::qt p2 (jv [] X.e)) _) _ _ s;refine evalArgs_kwB rfl (p6<|ij (ha dG s σ H (λv H'=>∃F' E,Zm H H'/\Zm F F'/\SR Z F' H' σ δ1 E/\P4 Z F' H' σ E WN v) I ⟨F,δ,own,WN,δ1,sr,e1,λv H' F' E a1 a2 a3 a4=>⟨F',E,a1,a2,a3,a4⟩⟩) (λu s1 z=>?_) λ_ _ z=>z);obtain⟨v,H1,I1,ru,F1,ZR,D_,BS,DU,WP⟩:=z;refine ub ?_;obtain⟨F2,C_,DL,WO⟩:=DU.settleR WP;obtain⟨F3,WU,D',E_,WR⟩:=DL.frzR WO e3;cases d with
 |lst xs=>
  refine Wv λ_ zk=>?_;refine L2.dO e4 λcs fE e5 e6=>?_;refine L2.dN e6 λks e7 e8=>?_;refine L2.dN e8 λsv e9 XJ=>?_;cases XJ;obtain⟨F4,WT,vs,SI,SF,r4,l4,g4⟩:=NK E_ e5;have rep4:=WR.mono SI;obtain⟨Y,hz,WZ,p,hp,G,zR,rfl⟩:=pY e9;apply zk;refine kws_cons ?_;have z8:H1 P=aA (.tab q):=SF.old _ _ hT;refine mR I1 YG C z8 hq B zt W_ λf c' pm XM oc H2 s2 SH nf I2 gf zv zL=>?_;refine kws_nil ?_;have T:=SF.grow SH;cases rep4 with
  | @lst al xs' ws hsq _ rws=>
   cases ru;obtain⟨dI,U,zh⟩:=J2 I2 T.le hsq;have L:xs.length=dI.length:=dJ.lenV rws U;have M:dI.length<64:=by clear G Y;lia
   have zP:dU 1 X.A.in1.in1:=hr.in1.in1;have zN:X.A.in1.in1.units+16<cLine:=by show X.A.units+1+1+16<jf;lia
   have J:∀(j:Nat) (dj:D),xs[j]? =aA dj->∃kd,ks.getD j .non=kd/\YS fb cs dj=aA kd:=λj dj hj=>by obtain⟨kd,a1,a2⟩:=(IZ e7).2 j dj hj;exact⟨kd,by rw[du,a1];rfl,a2⟩
   refine kO (KeyOk:=λj W H=>dS X.K H (ks.getD j .non) W) (lt:=YC ks) (p:=p) I2 zh M gf nf (λj W Ha Hb sm r=>r.mono sm) (by
    intro H2 s2 g kvs sm I2 rv hl hkv h2;have SL:kvs.length=ks.length:=by have:=rv.length;(clear G;lia)
    have rr:=pW SL hkv;have get:∀i,i<ks.length->ks.getD i .non∈ks:=λi hi=>by rw[du,cf hi];exact oq hi
    refine⟨GM aC,λQ q=>mP I2 (Zm.refl H2) WZ rr rv (by clear L M;lia) q,λi j b Q e q=>?_⟩;unfold YC at e;split at e
    .rename_i h;obtain⟨hi,hj⟩:=h;obtain⟨v,a1,a2,a3⟩:=dJ.getD rr rv i (by clear SL G;lia);obtain⟨w,b1,b2,b3⟩:=dJ.getD rr rv j Θ;have e1:g.getD i ik=g[i]:=by simp[du,cf<|show i<g.length by lia]
     have e2:g.getD j ik=g[j]:=by simp[du,cf<|show j<g.length by lia]
     rw[e1,e2];exact uF I2 (Zm.refl H2) (n:=14) zN (WZ _<|get i a3) (WZ _<|get j b3) a1 a2 b1 b2 e q
    .cases e) (by rw[<-L];exact hp) (by clear L Y;lia) ?hcall ?hQ
   case hcall=>
    intro j u H3 s3 hj m I3 gf3 ff3;have SN:j<dI.length:=(ci.mp hj).1;refine Wv λ_ zk=>?_;obtain⟨w,zA,SJ,zd⟩:=dJ.getD rws U j SN;have eu:dI[j]=u:=by have:=cf SN;rw[this]at hj;exact h8.inj hj
    rw[eu]at SJ;have zM:xs[j]? =aA (xs.getD j .non):=by rw[du,cf zd];rfl
    obtain⟨kd,ek,VB⟩:=J j _ zM;have VB:(fb (aA (.fz<|xs.getD j .non)::cs.map λc=>aA<|.fz c)).bind (λp=>(frz p.1 p.2).bind λq=>aA q.1)=aA kd:=VB;refine L2.dO VB λzB G_ f1 f2=>?_;refine L2.dO f2 λdk G0 f3 f4=>?_;cases f4;apply zk;have zJ:Zm F4 H3:=(T.le).trans m;have hcr:=uJ I3.hok (m _ _ zv) zL;refine ij (mS (ws:=vs.map aA) S zP I3.ok.frames I3 gf3 hcr (YH _ _ _ _ _) zx has (by rw[aj,l4,SM]) (λi y w' z1 z2=>?_) SJ (hb f c' X.A.in1.in1 s3 H3 F4 (by show X.A.units+1+1+3+1<jf;lia)) (Q:=λW H4=>Zm H3 H4/\dS X.K H4 dk W) ⟨F4,_,_,zB,G_,uE zJ zA r4,f1,λW H4 F5 zH a1 a2 a3 a4=>?_⟩) (λk s4 z=>?_) λ_ _ z=>z
    .have l:(vs.map aA)[i]? =aA (aA w'):=z2;rw[c8]at l;have fQ:i<vs.length:=by
      rcases oj i vs.length with zz|zz
      .exact zz
      .rw[List.getElem?_eq_none zz]at l;cases l
     obtain⟨jj,hjj⟩:∃jj,js[i]? =aA jj:=⟨_,cf (by clear SM;lia)⟩
     obtain⟨b1,b2,b3⟩:=zf i jj y hjj z1;have WX:vs[i]? =aA w':=by
      cases hq:vs[i]? with
      |none=>rw[hq]at l;cases l
      |some v2=>rw[hq]at l;simp at l;rw[l]
     exact⟨jj,b1,g4 i jj w' hjj WX,b2,b3⟩
    .obtain⟨F6,fG,R,zD⟩:=a3.settleR a4;obtain⟨F7,zG,fF,F_,WQ⟩:=R.frzR zD f3;exact⟨a1,WQ.mono F_.le⟩
    .obtain⟨W,H4,os,bare,un,hok,rk,Do,rep⟩:=z;refine⟨W,H4,Do,?_,un,rk,by rw[ek];exact rep⟩;obtain⟨hh,gg,dd,tt,zI⟩:=s4;obtain rfl:zI=s3.os:=os;exact I3.call (h':=hh) (g':=gg) (d':=dd) (t':=tt) (ch:=[]) un hok bare<|λb z=>dt z Δ
   case hQ=>
    intro D s3 hD0 ho;obtain⟨H3,cc,m,I3,O,gD⟩:=ho;have bnd:=zR;have new:Wc X.p X.w (upd H3 D<|.lst<|p.toList.map λi=>ws.getD i .non) s3.heap D<|.lst<|p.toList.map λi=>ws.getD i .non:=by refine⟨?_,p.toList.map λi=>dI.getD i ik,cc,kN U λi hi=>by have:=bnd i hi;(clear G;lia),gD⟩;rw[aj,kn,G,jx];clear G Y L;lia
    have I4:=dL.trackO I3 hD0 O.1 O.2.1 O.2.2.2.2.1 O.2.2.2.2.2 new;have SG:Zm H3<|upd H3 D<|.lst<|p.toList.map λi=>ws.getD i .non:=Wz O.1;have R:=(T.grow m).grow SG;refine⟨.ref D,_,I4,rfl,k (.ref D) _ F4 WT (((D_.trans SH).trans m).trans SG) (((BS.trans C_).trans D').trans SI) R ⟨[(D,.lst<|p.toList.map λi=>ws.getD i .non)],.ol<|Sx rws bnd,Δ,λpp hp=>?_,λi pp qq hp hq=>?_⟩⟩
    .obtain rfl:pp=(D,.lst<|p.toList.map λi=>ws.getD i .non):=by simpa using hp
     refine⟨?_,?_,Z8⟩
     .cases z:F4 D with
      |none=>rfl
      |some o=>have:=(T.grow m).le _ _ z;rw[O.1]at this;cases this
     .cases z:Z.h D with
      |none=>rfl
      |some o=>have:=(T.grow m).old _ _ z;rw[O.1]at this;cases this
    .obtain rfl:pp=(D,.lst<|p.toList.map λi=>ws.getD i .non):=by simpa using hp
     intro z;have:=((T.grow m).ok i qq hq).2.2;rw[<-z,O.1]at this;cases this
 |_=>cases e4
end
section
open PySem.Calls
open PySem.W (CodeHd tabObj)
abbrev spT(P:aq)(q:Str)(sp:Sp):Sp:=λvs H Q E=>H P=aA (.tab q)/\sp vs H Q E
theorem qW{K:ak}{Z:dP K}(l:Z.h P=aA (.tab q))(h:liftE Z (Z0 n g fa) σ H Q):Dm (spT P q<|Uv K n g) [] E (liftA Z fa) σ H Q:=by obtain⟨F,δ,own,j,δ',s,e,k⟩:=TR (E:=E) h;exact⟨F,δ,own,j,δ',s,e,λvs H' F' f a b c d=>⟨c.old _ _ l,k vs H' F' f a b c d⟩⟩
theorem qV{Z:dP X.K}{pos:Pos}{p}(y:Z.h P=aA (.tab q))(F:FnOk X.p X.w X.K X.mg X.base M8 k f fd ps<|spT P q<|Uv X.K n g)(l:dU k X.A)(m:X.mg x=aA (.ref f))(o:lg X.K (.ref f)=aC)(u:T8 X.K fd ps [])(v:PA X (a::es)<|liftA Z fr)(r:‹Gl X x›)(j:‹Nd x›)(s:‹Se X a es›)(c:‹Bk X pos es›):
  PE X (.Call (.Name x p) (a::es) [] pos) (liftE Z<|Z0 n g fr):=(T9 F l r m o u .nil WG v j s c).imp λ_ _ _ h=>qW y h
structure FunC(K:ak)(x qual:Str)(st:lu)(f:aq)(fd:jg)(c:aq):Prop where
 ex:∃(oc:am) (od:Á aq) (kV ZI pm:am) (an:Á aq) (ct:am) (ZM:Array<|Á am),
  fd=kr x qual (Oe st) (W6 st) (Yk st) .none kV ZI pm an (.ref c) ct/\K.lookup f=aA ⟨oc,od,.func fd,ZM⟩/\tu K (.ref c) qual=aC
 kp:lg K (.ref f)=aC
theorem FunC.fn{K}{st}(F:FunC K x qual st f fd c):Fun K x qual st f fd:=by obtain⟨m,od,kV,j,l,o,n,h,a,b,d⟩:=F.ex;exact⟨⟨m,od,kV,j,l,o,.ref c,n,h,a,b,d⟩,F.kp⟩
theorem eL{K}{st}{kV:am}(l:K.lookup f=aA ⟨oc,od,.func<|kr x qual (Oe st) (W6 st) (Yk st) .none kV ZI pm an (.ref c) ct,ZM⟩)(h:tu K (.ref c) qual=aC)(k:lg K (.ref f)=aC):FunC K x qual st f (kr x qual (Oe st) (W6 st) (Yk st) .none kV ZI pm an (.ref c) ct) c:=⟨⟨oc,od,kV,ZI,pm,an,ct,ZM,rfl,l,h⟩,k⟩
theorem FunC.ok{K:ak}{st}(F:FunC K x qual st f fd c)(S:FnScope N ps<|Yk st)(j:∀vs H Q E,sp vs H Q E->vs.length=ps.length)(a:∀A outer s H vs Q E,dU k (A.deeper<|nn qual (Yk st) s.heap.objs.size f<|.ref c)->sp vs H Q E->
   ∃t,Ma (Rg M8 P w K mg base N qual (Yk st) f (.ref c) A outer s H E).nox (W6 st) t/\t {nx:=λ_ H'=>Q .non H',rt:=Q} (Qn N vs) H):FnOk P w K mg base M8 (k+1) f fd ps sp:=by
 obtain⟨u,od,kV,p,r,y,v,n,rfl,lk,m⟩:=F.ex;refine UH lk m S j λA outer s H vs Q E o l=>?_;obtain⟨t,h,q⟩:=a A outer s H vs Q E o l;exact⟨t,h.nox,q⟩
theorem kM{K}(KX:K.In s₁.heap)(i:s₁.heap.Ns f6 mg)(f:s₁.heap.Ns v5 mb)(z5:∀x:Str,x≠"__name__"->mb x=kq x)(G:s₁.heap.NoLimit)(z4:Av mg s₁.heap)(hg:s₁.gens= #[])(Y:CodeHd s₁.heap c T)(X:s₁.heap.get? T=aA (tabObj #[]))(z_:K.lookup T=aB)(Q:s₁.heap.get? a=aA {cls:=.type "list",data:=.seq vs.toArray})(hi:AN vs ns)(hl:ns.length<=sizeLine)(hr:dU k vq)(F:∀base,K.In base->base.Ns f6 mg->Av mg base->FnOk P w K mg base CX k fa fd [x] (spT T q sp))(L:∀s u,xq s fd ⟨[u],[]⟩ [(x,u)])(R:∀H,W3 K H a (ns.map V.int)->sp [.ref a] H (λv H'=>v= .bl aC/\Zm H H') λ_ _ _=>False)(yB:∀H e s',CX [] H s₁ (λ_ _ _=>False) e s'->False):
  rj (dw P w) vq (.call (.ref fa) ⟨[.ref a],[]⟩) (λr s'=>r= .ok (.ret<|.bool aC)/\OldK s₁.heap s'.heap/\s'.os=s₁.os/\uc s'.gens) s₁:=by
 have rv:=jE hi;have lenV:=hi.length;have aT:a≠T:=λz=>by rw[z,X]at Q;cases Q
 have E:∀H:Hp,(∀b,b≠T->H b=aB\/∃o xs,H b=aA (.frz o<|.lst xs))->H T=aA (.tab q)->W3 K H a (ns.map V.int)->Rc P w H s₁.heap->(∀b,H b≠aB->b=a\/b=T)->(H a≠aB->K.lookup a=aB)->
   rj (dw P w) vq (.call (.ref fa) ⟨[.ref a],[]⟩) (λr s'=>r= .ok (.ret<|.bool aC)/\OldK s₁.heap s'.heap/\s'.os=s₁.os/\uc s'.gens) s₁:=by
  intro H hO J hS g hA hK;have j:∀{b:aq} {o:Obj},s₁.heap.get? b=aA o->H b=aB->(V1 s₁.heap H).get? b=aA o:=λe n=>lU e n;have O:∀{b:aq} {o:Obj},s₁.heap.get? b=aA o->o.cls≠.none->o.cls≠.type "list"->H b=aB:=fun{b o} e d1 d2=>by
   cases q:H b with
   |none=>rfl
   |some u=>
    rcases hA b (by rw[q];simp)with e'|e'
    .subst e';rw[Q]at e;cases e;exact dt rfl d2
    .subst e';rw[X]at e;cases e;exact dt rfl d1
  have N:∀{b:aq} {o:Obj} {es:Array ou} {ep:Nat},s₁.heap.get? b=aA o->o.data= .dict es ep->H b=aB:=fun{b o es ep} e d=>by
   cases q:H b with
   |none=>rfl
   |some u=>
    rcases hA b (by rw[q];simp)with e'|e'
    .subst e';rw[Q]at e;cases e;cases d
    .subst e';rw[X]at e;cases e;cases d
  have B:∀{b:aq} {m:Str->Á am},s₁.heap.Ns b m->(V1 s₁.heap H).Ns b m:=fun{b m} ⟨o,es,ep,e,d,r⟩=>⟨o,es,ep,j e<|N e d,d,r⟩
  have I:K.In<|V1 s₁.heap H:=λb o e=>j (KX b o e) (by
   cases q:H b with
   |none=>rfl
   |some u=>
    rcases hA b (by rw[q];simp)with e'|e'
    .subst e';rw[hK (by rw[q];simp)]at e;cases e
    .subst e';rw[z_]at e;cases e)
  have yC:Av mg<|V1 s₁.heap H:=by obtain⟨bm,ob,b1,b2,b3,b4,b5,b6⟩:=z4;exact⟨bm,ob,b1,b2,j b3 (O b3 (by rw[b4];intro z;cases z) (by rw[b4];decide)),b4,b5,b6⟩
  have hM:Mod K mg<|V1 s₁.heap H:=⟨I,B i,⟨mb,B f,z5⟩,let⟨mc,h1,h2⟩:=G;⟨mc,B h1,h2⟩⟩
  have e0:Env0 P w K mg (V1 s₁.heap H) vq [] s₁ H:=⟨rfl,hM,λb o e=>nT e,GZ<|PySem.W.hideAll_size _ _,trivial,λb f=>dt (show b∈([]:À aq)from f) Δ,g,.of_eq hg⟩
  refine wj ((F _ I (B i) yC).run vq [] s₁ H ⟨[.ref a],[]⟩ [.ref a] [.ref a] _ _ hr e0 (L s₁<|.ref a) (.cons rfl .nil) ⟨J,R H hS⟩) λr s' h=>?_;cases r with
  |error e=>exact(yB H e s' h).elim
  |ok fl=>
   cases fl with
   |next=>exact ln h
   |brk=>exact ln h
   |cont=>exact ln h
   |ret u=>
    obtain⟨v,H',os,M,un,C,r',rfl,sm⟩:=h;obtain rfl:u=nz aC:=r';have kept:∀b o,b≠T->s₁.heap.get? b=aA o->s'.heap.get? b=aA o:=λb o f e=>by
     cases q:H b with
     |none=>exact un.keep b o e q (by intro z;exact dt (show b∈([]:À aq)from z) Δ) Δ
     |some u=>
      rcases hO b f with z|⟨ob,xs,z⟩
      .rw[q]at z;cases z
      .obtain⟨e1,_⟩:=g b _ z;obtain⟨e2,_⟩:=C b _<|sm _ _ z;rw[e]at e1;cases e1;exact e2
    obtain⟨ps,Z,_⟩:=C T _<|sm _ _ J;refine⟨rfl,⟨λb o e=>?_,λb o e=>?_⟩,os,M⟩
    .by_cases y:b=T
     .subst y;rw[X]at e;cases e;exact .inr<|.inl ⟨(Y.tab X).isCodeTable,rfl,#[],ps,rfl,by rw[Z];simp⟩
     .exact .inl (kept b o y e)
    .by_cases y:b=T
     .subst y;exact⟨_,Z⟩
     .exact⟨o,kept b o y e⟩
 have p:∀H:Hp,Wc P w H s₁.heap T<|.tab q:=λH=>⟨#[],X,trivial,λpos cv z=>by cases z⟩
 cases U:K.lookup a with
 |some o=>
  have e:=KX a o U;rw[Q]at e;cases e;refine E (λb=>if b=T then aA (.tab q)else aB) (λb f=>.inl<|dY f) (dZ rfl) (.inr ⟨_,vs.toArray,_,U,rfl,rfl,rfl,by rw[c9,lenV];exact hl,by simpa using rv⟩) (λb u z=>?_) (λb z=>?_) λz=>dt (dY aT) z
  .by_cases f:b=T
   .have A:=(dZ f).symm.trans z;cases A;subst f;exact p _
   .have A:=(dY f).symm.trans z;cases A
  .by_cases f:b=T
   .exact .inr f
   .exact dt (dY f) z
 |none=>
  refine E (λb=>if b=T then aA (.tab q)else if b=a then aA (.frz {cls:=.type "list",data:=.seq vs.toArray}<|.lst<|ns.map V.int)else aB) (λb f=>?_) (dZ rfl) (.inl<|.inr ⟨{cls:=.type "list",data:=.seq vs.toArray},by simp[aT]⟩) (λb u z=>?_) (λb z=>?_) λ_=>U
  .by_cases l:b=a
   .exact .inr ⟨_,_,by simp only[dY f];exact dZ l⟩
   .exact .inl (by simp only[dY f];exact dY l)
  .by_cases f:b=T
   .have A:=(dZ f).symm.trans z;cases A;subst f;exact p _
   .have z:=(dY f).symm.trans z;by_cases l:b=a
    .have A:=(dZ l).symm.trans z;cases A;subst l;exact⟨Q,by rw[aj];exact hl,vs,_,rv,Q⟩
    .have A:=(dY l).symm.trans z;cases A
  .by_cases f:b=T
   .exact .inr f
   .by_cases l:b=a
    .exact .inl l
    .exact dt (by simp[f,l]) z
end
section
open PySem.Calls
noncomputable def leS(a b:Str):Bool:=decide (¬b.cps.toList<a.cps.toList)
def G6(a:À Str):À Str:=a.mergeSort leS
theorem Oq(ss):(G6 ss).Perm ss:=List.mergeSort_perm _ _
theorem n7(h1:leS a b=aC)(h2:leS b a=aC):a=b:=by simp only[leS,decide_eq_true_eq]at*;have e:a.cps.toList=b.cps.toList:=List.le_antisymm (mx.mp h1)<|mx.mp h2;have c:a.cps=b.cps:=w9.mp e;cases a;cases b;simp only at c;subst c;rfl
theorem Sy:∀l p,risingS p l=aC->(p::l).Pairwise λa b=>leS a b=aC
 | [],p,_=>Δ
 |x::l,p,h=>by
  unfold risingS at h;rw[ig]at h;have j:=Sy l x h.2;have c:leS p x=aC:=by have:=h.1;rw[ltCps_eq]at this;simp only[leS,decide_eq_true_eq];simpa using this
  refine CZ.mpr ⟨λy m=>?_,j⟩;rcases az.mp m with z|z
  .rw[z];exact c
  .have f:=(CZ.mp j).1 y z;simp only[leS,decide_eq_true_eq]at*;exact mx.mpr<|GH (mx.mp c)<|mx.mp f
theorem kK:∀{l:À Str},sortedS l=aC->l.Pairwise λa b=>leS a b=aC
 | [],_=>.nil
 |p::l,h=>Sy l p h
end
section
open PySem.Calls
theorem iD(h:StrsAre vs ss):Yg (ss.map V.str) vs:=by
 induction h with
 |nil=>exact .nil
 |cons n t _ a=>exact .cons ⟨t,rfl⟩ a
end
section
open PySem.Calls
theorem IY{K:ak}:∀(ns:À Str),dJ K F (ns.map D.str) (ns.map V.str)
 | []=>.nil
 |n::ns=>.cons (.str n)<|IY ns
@[simp]noncomputable def X4:D->D->Option SV
 | .str a,.str b=>aA<|.fz<|.bl<|decide (a.cps.toList<b.cps.toList)
 |_,_=>aB
end
section
open PySem.Calls
open PySem.W (CodeHd tabObj)
noncomputable def S2(names:List<|Str×ja)(a:List<|Str×aq):Bool:=names.all λp=>p.2 != .free|| (a.lookup p.1).isSome
theorem uD(h:S2 names cl=aC)(y)(e:names.lookup y=aA .free):∃c,cl.lookup y=aA c:=by have:=gi.mp h (y,.free)<|ke e;have z:((ia !=ia)|| (cl.lookup y).isSome)=aC:=this;rw[show(ia !=ia)=aE by decide,GL]at z;exact yj.mp z
noncomputable def jsB(N:List Str)(a c:List<|Str×ja):List Nat->List Str->Bool
 |j::js,y::fs=>N[j]? ==aA y&&a.lookup y==aA .cell&&c.lookup y==aA .free&&jsB N a c js fs
 | [],[]=>aC
 |_,_=>aE
theorem O_:∀{a:À Nat} {fs:À Str},jsB N sc lc a fs=aC->a.length=fs.length
 | [],[],_=>rfl
 |j::a,y::fs,h=>by unfold jsB at h;simp only[ig]at h;simp[O_ h.2]
 | [],_::_,h=>by cases h
 |_::_,[],h=>by cases h
theorem QO:∀{a:À Nat} {fs:À Str},jsB N sc lc a fs=aC->∀(i j:Nat) y,a[i]? =aA j->fs[i]? =aA y->N[j]? =aA y/\sc.lookup y=aA .cell/\lc.lookup y=aA .free
 | [],_,_,i,j,y,z,_=>by simp at z
 |j::a,[],h,_,_,_,_,_=>by cases h
 |j::a,w::fs,h,i,c,y,z1,z2=>by
  unfold jsB at h;simp only[ig,beq_iff_eq]at h;cases i with
  |zero=>
   obtain rfl:j=c:=by simpa using z1
   obtain rfl:w=y:=by simpa using z2
   exact⟨h.1.1.1,h.1.1.2,h.1.2⟩
  |succ i=>exact QO h.2 i c y (by simpa using z1) (by simpa using z2)
theorem n6{l:u6}{K:wy->ak}{sp:ak->Sp}(hn:l.most=aA n)(A:n<=sizeLine)(C:d.params.defaults=[])(Z:dU k vq)(M:∀w h,YP w h->(K w.params).In h/\h.get? T=aA (tabObj #[]))(E:∀p,wx (K p) c T=aC)(L:∀p,(K p).lookup T=aB)(F:∀w mg fa h,(K w.params).In h->h.Ns f6 mg->mg d.name=aA (.ref fa)->
   ∃fd,(∀s u,xq s fd ⟨[u],[]⟩ [(x,u)])/\
    ∀base,(K w.params).In base->base.Ns f6 mg->Av mg base->FnOk l.prog w (K w.params) mg base CX k fa fd [x] (spT T q<|sp<|K w.params))(z:∀K H a (ns:À Int),ns.length<=n->W3 K H a (ns.map V.int)->sp K [.ref a] H (λv H'=>v= .bl aC/\Zm H H') λ_ _ _=>False)(P:∀H s e s',CX [] H s (λ_ _ _=>False) e s'->False):
  GE qp loose XP YP l.row.toRowW d [] (λf vs=>CS f vs):=by
 refine Att.attach_call hn C λw X r mg mb fa o W cd U a vs ns G Y ho hd I B y m j i=>?_;obtain⟨Q,N⟩:=M w _ Y;obtain⟨fd,J,R⟩:=F w mg fa _ Q G.T.g B;exact kM Q G.T.g G.T.b G.T.builtins G.T.nolimit G.T.bmain i (BR Q<|E w.params) N (L w.params) y m (fg j A) Z R J (λH O=>z _ H a ns j O) λH e s'=>P H r e s'
end
section
open PySem.Calls
section
variable{X:Cx}{Z:dP X.K}{a b:dz}{fa fb:FE}{pos:Pos}
theorem qU(x fs js){params}{p1 lp kp}(v:dU 3 X.A)(s:X.A.units+64<jf)(h1:X.mg "sorted"=aB)(C:FU X.base c P)(F:Z.h P=aA (.tab q))(B:Av X.mg X.base)(E:PE X a<|liftE Z fa)(z:∀f c A i H1 H,(cxL X (x::fs) q sc f c X.e.cells A i H1).A.units+1<jf->PE (cxL X (x::fs) q sc f c X.e.cells A i H1) body (liftE (ent H1 H:dP X.K) fb))(j:‹X.e.code= .ref c›)(w:‹X.e.qual++ "<lambda>"=q›)(S:LamS x fs sc:=by exact⟨rfl,rfl,rfl,rfl,Ξ,Γ⟩)(r:‹v4 sc X.e=jh X.e.cells›)(n:‹CH params X.e=([],[])›)(l:∀I G c g u,vd (PySem.W.kla_fn "<lambda>" q params body sc I G (.ref c) g) ⟨[u],[]⟩=jh [(x,u)]:=by intro _ _ _ _ _;rfl)(has:‹S2 sc.names X.e.cells=aC›)(m:‹jsB X.N X.e.scope.names sc.names js fs=aC›)(g1:‹Gl X "sorted"›)(p:‹Se X a []›)(o:‹Bk X pos []›):
  PE X (.Call (.Name "sorted" p1) [a] [⟨aA "key",.Lambda params body sc lp,kp⟩] pos) (liftE Z<|UW fa js fb):=
 L2.qX v s h1 j C F w B S r n l (λ_ _ h=>h) (λy e=>uD has y e) (O_ m) (QO m) E z g1 p o
end
end
section
open PySem.Calls
section
variable{prog:eg}{w:gq}{A:fj}{E:am->au->Prop}{s:au}{d:aq}{od:Obj}{es:Array ou}{ep:Nat}
theorem kJ(q:A.handled=aB)(I:aq)(j:d≠I)(c:od.data= .dict es ep):Walks prog w A I [I,d] [I] es.size (λi v=>∃e,es[i]? =aA e/\v=e.key) (λi h=>h.IsKeyIter I d i es.size ep/\h.get? d=aA od)where
 sub:=λb a=>by simp at a;simp[a]
 frame:=λ_ _ _ st m=>⟨(λk=>let⟨o,e,r⟩:=st.1;⟨o,k o e,r⟩) λo e=>m I Δ o e,m d Δ _ st.2⟩
 item:=λi s Q E p st hQ=>by
  have n:es[i]? =aA es[i]:=by simp[p]
  refine mG st.1 st.2 c rfl n λh' t' f=>?_;exact hQ _ h' s.toks ⟨_,n,rfl⟩ ⟨t',(f.2 d j).trans st.2⟩ λb o a e=>(f.2 b<|λh=>a ρ).trans e
 done:=λs Q E st hQ=>mF q st.1 st.2 c rfl (cj _) λh' l=>hQ h' s.toks λb o a e=>l b o (λh=>a ρ) e
 self:=λ_ _ _ _ st hQ=>wpAny_pyIter_keyiter st.1 hQ
theorem qT(lo:(d==i7)=aE)(x:od.ExactDict)(c:od.data= .dict es ep):PySem.W.KdlSrc prog w "dict" d d es.size (λi v=>∃e,es[i]? =aA e/\v=e.key) (λh=>h.get? d=aA od)where
 type:=λ_ g=>⟨od,g,x.1⟩
 there:=λ_ g=>⟨cn g,cn g⟩
 keep:=λ_ _ g f=>f d (.inl rfl) _ g
 notList:=Γ
 notTuple:=Γ
 hint:=λ_ _ _ _ g a=>PySem.W.kdl_hint_dict ⟨od,g,x.1⟩ a
 iter:=λ_ _ j g=>⟨_,_,(λ_ _ a=>mH lo g x c a),kJ j _ (eh<|cn g) c,⟨⟨_,dn _ rfl,rfl,rfl⟩,aw _ g⟩⟩
theorem iv(z:A.handled=aB)(lo:(d==i7)=aE)(x:od.ExactDict)(c:od.data= .dict es ep)(g:s.heap.get? d=aA od)(hn:es.size<=1000)(h:∀h' tk,(∀b o,s.heap.get? b=aA o->h'.get? b=aA o)->s.heap.objs.size<=h'.objs.size->Q (es.toList.map (·.key)) {s with heap:=h',toks:=tk}):de (dw prog w) A (collect<|.ref d) Q E s:=by
 have m:d<s.heap.objs.size:=cn g;have n:s.heap.objs.size≠d:=ku m;unfold collect;refine af<|wpAny_runValue<|lw PySem.F.entry_proto_collect ?_;rw[mi PySem.F.plain_proto_collect _];show de _ A.in1 (GT [] >>=λl=>again<|.builtin "list.__iadd__" ⟨[l,.ref d],[]⟩) _ _ s;refine af<|nw ?_;refine ay ⟨o7 y0 _,lw PySem.F.entry_list_iadd ?_⟩;rw[mi y0 _];show de _ A.in1 (rm (.ref s.heap.objs.size) (.ref d)<|.ref s.heap.objs.size) _ _ _;refine PySem.W.kdl_extend (R:=λu s'=>match u with
  | .ok (.ret v)=>de (dw prog w) A (match v with
   | .ref a=>(load a >>=λx=>match x.data with
    | .seq xs _=>jh xs.toList
    |_=>HG "internal:collect")
   |_=>HG "internal:collect") Q E s'
  | .ok _=>False
  | .error e=>E e s') (s:={s with heap:=s.heap.push {cls:=.type "list",data:=.seq #[] 0}}) (qT (prog:=prog) (w:=w) lo x c) z (aw _ g) s.heap.objs.size n n _ 0 (dn _ rfl) (λh' tk f C y r j=>?_) (by rw[jx];lia)
 show de _ A (load s.heap.objs.size >>=_) _ _ _;refine af<|HZ r ?_;refine ay ?_;have e:f.toList=es.toList.map (·.key):=by
  apply List.ext_getElem?;intro i;rw[lr,c8,lr];cases p:f[i]? with
  |none=>
   have:f.size<=i:=by simpa using p
   rw[j.1]at this;rw[show es[i]? =aB by simpa using this];rfl
  |some v=>obtain⟨e,B,rfl⟩:=j.2 i v p;rw[B];rfl
 show Q f.toList _;rw[e];exact h h' tk (λb o q=>y b o (eh<|cn q)<|aw _ q)<|qg<|cn r
end
end
section
open PySem.Calls
def QM(K:ak):V->À V->Hp->VK->Prop:=λx vs H Q=>∃l b xs zs,x= .ref l/\vs=[.ref b]/\H l=aA (.lst xs)/\W3 K H b zs/\xs.length+zs.length<=sizeLine/\Q .non (upd H l<|.lst<|xs++zs)
end
section
open PySem.Calls
theorem qS(l dM n b dH n2 dc sl)(m:¬(!dM.isEmpty&&jp (dM.size+dH.size))=aC)(f:dM.size<=sizeLine)(c:dM.size+dH.size<=sizeLine+1):
  DP (pv.«list.extend» ⟨[.ref l,.ref b],[]⟩) (λ_ R s=>s.heap.get? l=aA {cls:=.type "list",dict:=aB,data:=.seq dM n,slots:= #[]}/\s.heap.get? b=aA {cls:=.type "list",dict:=dc,data:=.seq dH n2,slots:=sl}/\R (.ok<|.ret ik) {s with heap:=s.heap.update l<|gp λx=>x++dH,toks:=s.toks}):=
 .of_wp λprog w A R s h=>by
  obtain⟨p,g,d,tk,os⟩:=s;obtain⟨j,o,h⟩:=h;have y:=ES;have v:=ui;have u:=u1;have r:=zq;have q:=zu;have a:(dM++dH).size<=sizeLine+1:=by rw[DX];exact c
  wp_walk using(pf j rfl (hz:=f) (_hz':=a)),o9 j,o9 o;exact⟨_,rfl,h⟩
theorem qR:MtM X "list.extend"<|QM X.K:=by
 intro dG s σ H x vs v us Q I y rv h;refine Wv λ_ p=>?_;obtain⟨l,b,xs,zs,rfl,rfl,j,T,hz,q⟩:=h;cases y;obtain⟨u,rfl,A⟩:=rv.one;cases A;obtain⟨z,dI,n,r,i,e⟩:=I.lstM j;obtain⟨a,f,⟨o,B,C,P,L,hd⟩,z2⟩:=I.list T;have E:=f.length;obtain⟨g,Z,m,w⟩:=o;cases P;cases hd;apply p;have hsz:dI.toArray.size+a.toArray.size<=sizeLine:=by rw[c9,c9];lia
 have c:¬(!dI.toArray.isEmpty&&jp (dI.toArray.size+a.toArray.size))=aC:=by rw[Kt hsz,yd];exact df
 refine j8 F.slot_list_extend ⟨_,e,rfl⟩ F.entry_list_extend (F.args_list_extend_2 _ _)
  (qS l dI.toArray n b a.toArray B Z w c ψ Θ) ⟨e,C,?_⟩
 refine⟨.non,_,I.lset (its':=dI++a) j e Δ (r.append f) ?_,rfl,q⟩;rw[ax];omega
end
theorem dR.appL{K:ak}:∀{xss:À (À D)} {ws:À V} {ns:Zy} {p:Nat} {b:aq},dR K F xss ws ns->ws[p]? =aA (.ref b)->(Jj ns).Nodup->
  E2 λxs vs=>A4 (xss[p]? =aA xs) ((b,HO.lst vs)∈ns) (dJ K F xs vs) (∀{ys:À D} {us:À V},dJ K F ys us->∃ns',A3 (dR K F (xss.set p<|xs++ys) ws ns') (Jj ns'=Jj ns) (∀q∈ns',q=(b,HO.lst<|vs++us)\/(q∈ns/\q.1≠b)))
 |_,_,_,_,_,.nil,e,_=>by simp at e
 |_,_,_,0,b,@dR.cons _ _ xs xss b' vs ws ns r t,e,nd=>by
  have n:b'=b:=by simpa using e
  subst n;obtain⟨a,f⟩:=fm.mp nd;refine⟨xs,vs,rfl,ac,r,fun{ys us} hd=>⟨(b',.lst<|vs++us)::ns,.cons (r.append hd) t,rfl,λq c=>?_⟩⟩;rcases az.mp c with z|z
  .exact .inl z
  .exact .inr ⟨ag _ z,λw=>a<|av.mpr ⟨q,z,w⟩⟩
 |_,_,_,p+1,b,@dR.cons _ _ xs0 xss b' vs0 ws ns r t,e,nd=>by
  refine Wv λ_ h=>?_;obtain⟨a,f⟩:=fm.mp nd;obtain⟨xs,vs,h1,h2,m,l⟩:=dR.appL (p:=p) (b:=b) t θ f;apply h;refine⟨xs,vs,by simpa using h1,ag _ h2,m,fun{ys us} hd=>?_⟩;obtain⟨ns',k1,k2,k3⟩:=l hd;refine⟨(b',.lst vs0)::ns',by rw[CY];exact .cons r k1,by show b'::Jj ns'=b'::Jj ns;rw[k2],λq c=>?_⟩;rcases az.mp c with z|z
  .refine .inr ⟨by rw[z];exact ac,λw=>a ?_⟩;rw[z]at w;exact av.mpr ⟨_,h2,w.symm⟩
  .rcases k3 q z with w|⟨w,j⟩
   .exact .inl w
   .exact .inr ⟨ag _ w,j⟩
def okX(xss:À (À D))(n:Nat):Prop:=xss.length<dg/\n<dg/\∀xs∈xss,xs.length+n<dg
section
open PySem.Calls
end
section
variable{K:ak}
@[simp]def Sz(i:Nat)(fe:FE):FS:=λδ=>match δ[i]? with
 |some (aA<|.ol _)=>(fe δ).bind λp=>(frz p.1 p.2).bind λq=>match q.1,q.2[i]? with
  | .lst ys,aA (aA<|.ol xs)=>if xs.length+ys.length<=dg then aA (.nx<|q.2.set i<|aA<|.ol<|xs++ys)else aB
  |_,_=>aB
 |_=>aB
theorem uC{Z:dP K}(h:liftS Z (Sz i fe) E σ H):Ch (tBM K "list" (QM K) (Bb i)<|G1 (liftE Z fe) T7) E σ H:=by
 obtain⟨F,δ,own,fl,s,e,k⟩:=h;unfold Sz at e;split at e
 .rename_i L u;refine L2.dO e λrv δ1 U R=>?_;refine L2.dO R λd δ2 O c=>?_;obtain⟨v,w,P⟩:=s.at' i _ u;obtain⟨a,f,ev,M,r0⟩:=Qb P;refine⟨v,w,?_,F,δ,own,rv,δ1,s,U,λy H1 F1 A sH Q X I=>?_⟩
  .subst ev;exact .inl ⟨rfl,f,.inl<|.inl (s.ok i (a,.lst f) (by rw[M];exact ac)).2.2⟩
  obtain⟨F2,r,T,G⟩:=X.settleR I;obtain⟨W,j,q,n,g⟩:=T.frzR G O;dsimp only at c;split at c
  .rename_i ys xs C;by_cases hz:xs.length+ys.length<=dg
   .rw[dZ hz]at c;cases c;obtain⟨Y,m,o⟩:=n.at' i _ C;rw[w]at m;cases m;obtain⟨b,vs,N,x,z⟩:=Qb o;have B:(b,HO.lst vs)∈j i:=by rw[x];exact ac
    subst N;cases g with
    | @lst l _ us hl _ ru=>refine⟨b,l,vs,us,rfl,rfl,(n.ok i _ B).2.2,Yt n.le hl,by rw[<-z.length,<-ru.length];exact hz,?_⟩;exact k σ _ W _ (Q.trans<|r.trans q)<|n.change (sv':=.ol<|xs++ys) (o':=.lst<|vs++us) (ns':=[(b,.lst<|vs++us)]) C w B (.ol<|z.append ru) (λp J=>.inl<|ao.mp J) Fs
   .rw[dY hz]at c;cases c
  .cases c
 .cases e
section
variable{X:Cx}{Z:dP X.K}{a b c:dz}{fa fb fc:FE}{pos:Pos}
theorem uB(i){px ZA cpos}(f:PE X b<|liftE Z fb)(j:‹Vr X i x›)(c:‹Mc X (.Name x px) "extend" ZA cpos b []›)(a:‹i6 (.Call (.Attribute (.Name x px) "extend" ZA) [b] [] cpos) aB pos.line X.e=jh aE›):
  PS X (.Expr (.Call (.Attribute (.Name x px) "extend" ZA) [b] [] cpos) pos) (liftS Z<|Sz i fb):=
 (Q9 (Ow gw uf ue qR (Jy (i:=i) j) (Y8 f Wu c.st) c) a).imp λ_ _ _ h=>uC h
end
end
section
open PySem.Calls
def OZ(_:ak):À V->Hp->VK->Prop:=λvs H Q=>∃a kvs ep c,vs=[.ref a]/\H a=aA (.dK kvs ep)/\kvs.map (·.1)=c.map Sum.inr/\c.length<64/\∀q,H q=aB->Q (.ref q) (upd H q<|.lst<|(G6 c).map V.str)
theorem kI{a:À Str}(q:Pairs (Yr P w) es vs)(h:vs.map (·.1)=a.map Sum.inr):StrsAre (es.map (·.key)) a:=by
 induction q generalizing a with
 |nil=>cases a with
  |nil=>exact .nil
  |cons _ _=>cases h
 |cons h1 _ t c=>cases a with
  |nil=>cases h
  |cons x a=>
   rw[cg,cg]at h;injection h with h2 h3;rw[h2]at h1;rw[cg];rcases Yv (k:=.inr x) h1 with⟨_,_,z,_⟩|⟨y,tk,z,e⟩
   .cases z
   .cases z;rw[e];exact .cons _ _<|c h3
theorem iC(hc:X.calm=aC):Ou X (.builtin "sorted")<|OZ X.K:=by
 intro dG s σ H xs us Q I r h;refine Wv λ_ F=>?_;obtain⟨a,kvs,ep,j,rfl,N,v,hz,q⟩:=h;obtain⟨u,rfl,U⟩:=Jw r;cases U;obtain⟨z,hd,vs,P,od,es,g,x,c,ko,T,W⟩:=(show Wc X.p X.w H s.heap a (.dK kvs ep)from I.hok a _ N)
 apply F;have n:vs.map (·.1)=j.map Sum.inr:=by
  rw[<-v];clear N T v z W;induction P with
  |nil=>rfl
  |cons h _ Y=>rw[cg,cg,Y,h.1]
 have C:=kI T n;have B:es.size=j.length:=by have:=jT T;rw[kn]at this;have h2:=congrArg p9 n;rw[aj,aj]at h2;lia
 refine Calls.call_function_entry HL GQ GV (args_sorted1 _) ?_;unfold pv.«sorted»;refine af (m:=IE "sorted" 1 1 _)<|ay ?_;refine af<|iv (A:=X.A.in1) (I.ok.hd hc) hd x c g Θ λh1 tk hk O=>?_;generalize es.toList.map (·.key)=dI at C;have il:dI.length=j.length:=C.length;refine af (yf ?_ (by rw[jx];(clear B;lia)));have E:(h1.push<|iz "list" dI.toArray 0).get? h1.objs.size=aA (iz "list" dI.toArray 0):=dn _ rfl;have Z:h1.objs.size<(h1.push<|iz "list" dI.toArray 0).objs.size:=cn E;refine af<|j6<|jt FI ⟨_,E,rfl⟩ ET (list_sort_treeK (s:={s with heap:=h1.push<|iz "list" dI.toArray 0,toks:=tk}) strKind_oneLt E C.keysOf (λJ G M e=>keyKind_strs (by rw[<-e];exact C)) (by clear B;lia) λf hp hs=>⟨_,rfl,?_⟩)<|args_list_sort _;refine Wv λ_ F=>?_;obtain⟨L,a1,a2,a3⟩:=sorted_out_str C hp hs;have e:L=G6 j:=List.Perm.eq_of_pairwise (λx y _ _ h1 h2=>n7 h1 h2) (kK a3) (List.pairwise_mergeSort (le:=leS) (λa b c h1 h2=>by
    simp only[leS,decide_eq_true_eq]at*;exact mx.mpr<|GH (mx.mp h1)<|mx.mp h2)
   (λa b=>by
    simp only[leS,xo,decide_eq_true_eq];rcases List.le_total a.cps.toList b.cps.toList with z|z
    .exact .inl (mx.mpr z)
    .exact .inr (mx.mpr z)) j)<|a2.trans (Oq j).symm
 subst e;obtain⟨cc,i⟩:=sortedHeap_at (out:=(DI f).map (·.2)) E;apply F;have keep:∀b o,s.heap.get? b=aA o->(IC (h1.push<|iz "list" dI.toArray 0) h1.objs.size dI ((DI f).map (·.2))).get? b=aA o:=λb o e=>by have R:=hk b o e;have l:b<h1.objs.size:=cn R;rw[sortedHeap_old (eh l)<|AI l Z];exact aw _ R
 have ok:Wc X.p X.w (upd H h1.objs.size<|.lst<|(G6 j).map V.str) (IC (h1.push<|iz "list" dI.toArray 0) h1.objs.size dI ((DI f).map (·.2))) h1.objs.size<|.lst<|(G6 j).map V.str:=by refine⟨?_,((DI f).map (·.2)).toList,cc,iD a1,by rw[Array.toArray_toList];exact i⟩;rw[aj,(Oq j).length_eq,jx];lia
 exact ay ⟨_,rfl,.ref h1.objs.size,_,I.laid (t':=tk) keep O ok,rfl,q _<|I.hok.fresh O⟩
end
section
open PySem.Calls
variable{K:ak}
noncomputable def txk?:List Key->Option (List Str)
 | []=>aA []
 | .inr x::r=>(txk? r).bind λl=>aA (x::l)
 | .inl _::_=>aB
@[simp]theorem KG:∀g,txk? (g.map Sum.inr)=some g
 | []=>rfl
 |s::g=>by rw[cg,txk?,KG g];rfl
theorem OY:∀{ks:À Key} {a:À Str},txk? ks=aA a->ks=a.map Sum.inr
 | [],_,h=>by cases h;rfl
 | .inr x::r,_,h=>by refine L2.dN (show(txk? r).bind _=_ from h) λl h1 h2=>?_;cases h2;rw[OY h1];rfl
 | .inl _::_,_,h=>nomatch h
def B7:List D->Option SV
 | [.dK ks _]=>(txk? ks).bind λa=>if a.length<64 then aA (.ol<|(G6 a).map D.str)else aB
 |_=>aB
theorem kH(h:ss.length<64):B7 [.dK (ss.map Sum.inr) vs]=aA (.ol<|(G6 ss).map D.str):=by show(txk?<|ss.map Sum.inr).bind _=_;rw[KG];show(if ss.length<64 then _ else _)=_;rw[dZ h]
theorem qQ{Z:dP K}:Ox Z (OZ K) B7:=by
 intro F H σ δ own vs ds sv Q s r e k;unfold B7 at e;split at e
 .refine L2.dN e λf n c=>?_;split at c
  .rename_i hz;cases c;obtain⟨_,rfl,h⟩:=r.one;obtain⟨a,kvs,rfl,⟨ep,l⟩,m,_⟩:=h.dK s.le;exact⟨a,kvs,ep,f,rfl,l,by rw[m];exact OY n,hz,λq j=>k.lst s (IY _) j⟩
  .cases c
 .cases e
section
variable{X:Cx}{Z:dP X.K}{a b c:dz}{fa fb fc:FE}{pos:Pos}
theorem qP{p}(l:X.calm=aC)(h:X.mg "sorted"=aB)(m:PE X a<|liftE Z fa)(j:‹Gl X "sorted"›)(f:‹Se X a []›)(c:‹Bk X pos []›):
  PE X (.Call (.Name "sorted" p) [a] [] pos) (liftE Z<|Yh B7<|Zd fa Zh):=Xj (iC l) qQ h L2.Fc (Zg m Zw f) j Γ Γ f c
end
end
section
open PySem.Calls
def UV(h ty tx:TE):TE:=λσ H Q=>h σ H λx H1=>∃a,x= .ref a/\(∃kvs,HK H1 a kvs)/\ty σ H1 λy H2=>tx σ H2 λz f=>∃kvs k,y=kV k/\HK f a kvs/\kvs.length<sizeLine/\
 ((∃v,Jz kvs k=aA v/\Q v f)\/(Jz kvs k=aB/\∀c,Q z<|upd f a<|.dK (Qi kvs k z) c))
theorem IX(ho:PE X o td)(he:PE X e ty)(hf:PE X f tx)(m:M2 X o "setdefault" ZA e f cpos):PE X (.Call (.Attribute o "setdefault" ZA) [e,f] [] cpos)<|UV td ty tx:=by
 intro dG s σ H Q I h;refine wpAny_Call_method m.base m.few m.line za xj PySem.F.type_dict_setdefault<|Wy (ho dG s σ H _ I h) λu O l=>?_;obtain⟨x,H1,i,U,a,ex,d,Y⟩:=l;subst ex;obtain rfl:u=g0 a:=U;obtain⟨J,G,_⟩:=rH i (.inl (let⟨kvs,e⟩:=d;⟨kvs,e.rd⟩));refine⟨J,G,?_⟩;rw[m.trees];refine u0 rfl (vm (p6 (Wy (he dG O σ H1 _ i Y) λn N ⟨y,H2,I2,R,W⟩=>
  p6 (Wy (hf dG N σ H2 _ I2 W) λfv M ⟨z,H3,K,P,kvs,k,ey,g,hl,T⟩=>ub ?_))))
 subst ey;obtain⟨hz,hd,vs,c,dd⟩:=Dp K.hok g;have A:vs.length=kvs.length:=(ug c).symm;refine jt xj dd.typeIs PySem.F.entry_dict_setdefault ?_<|PySem.F.args_dict_setdefault_3 _ _ _;unfold pv.«dict.setdefault»;refine af (m:=Builtin.Dict.keyAndDefault "setdefault" ⟨[.ref a,n,fv],[]⟩) ?_;show de _ _ (Builtin.Dict.notOrdered "setdefault" ⟨[.ref a,n,fv],[]⟩>>=_) _ _ M;refine af<|nj dd.typeIs ?_;refine ay (a:=(a,n,aA fv)) ?_;dsimp only;rw[dY (by rw[hd];simp)];refine af<|kt_dictSetDefault_pairs (knd:=Yr X.p X.w) (Ms R) dd (λv Z=>?_) (λC h' j hs=>?_) Θ
 .have r:=c.val k;rcases T with⟨L,ev,q⟩|⟨ev,_⟩
  .rw[Z,ev]at r;exact ay ⟨_,rfl,L,H3,K.tok _,r,q⟩
  .rw[Z,ev]at r;exact r.elim
 .have r:=c.val k;rcases T with⟨L,ev,q⟩|⟨ev,q⟩
  .rw[C,ev]at r;exact r.elim
  .have E:(Qi kvs k z).length<=sizeLine:=by have:=Bf kvs k z;(clear A;lia)
   have B:∃q,h'.get? a=aA q:=let⟨q,_,_,B,_⟩:=j;⟨q,B⟩
   obtain⟨ep,ok⟩:=Xd E hd (c.put k P) j;exact ay ⟨_,rfl,z,_,Ac K (by obtain⟨e0,e⟩:=g;rw[e];exact j9) hs B<|ok _,P,q ep⟩
end
section
variable{K:ak}
theorem Ia:∀{kvs:À (Key×V)},Qm (kvs.map (·.1)) k=aB->Jz kvs k=aB
 | [],_=>rfl
 |q::r,e=>by
  have e:(if q.1=k then aA 0 else(Qm (r.map (·.1)) k).map (· +1))=aB:=e;by_cases h:q.1=k
  .rw[dZ h]at e;cases e
  .rw[dY h]at e;rw[Ci h];exact Ia<|AG.mp e
theorem A_{k:Key}(h:Jz kvs k=aB):Qi kvs k z=kvs++[(k,z)]:=by unfold Qi;rw[dY];rw[Ri,h];exact λz=>nomatch z
theorem n5(h:dQ K F (.oR q ks xss) v ns):E3 λkvs ns' ep=>A4 (v= .ref q) (ns=(q,.dK kvs ep)::ns') (kvs.map (·.1)=ks) (dR K F xss (kvs.map (·.2)) ns'):=by
 cases h with
 |oR e r=>exact⟨_,_,_,rfl,rfl,e,r⟩
section
variable{Z:dP K}
theorem V_(s:SR Z F H σ δ own)(e:δ[i]? =aA (aA<|.oR a ks xss)):E3 λkvs ep ns'=>A5 (σ[i]? =aA (aA<|.ref a)) (own i=(a,.dK kvs ep)::ns') (H a=aA (.dK kvs ep)) (kvs.map (·.1)=ks) (dR K F xss (kvs.map (·.2)) ns'):=by refine Wv λ_ f=>?_;obtain⟨x,l,h⟩:=s.at' i _ e;obtain⟨kvs,ns',ep,rfl,c,m,j⟩:=n5 h;apply f;exact⟨kvs,ep,ns',l,c,(s.ok i (a,.dK kvs ep) (by rw[c];exact ac)).2.2,m,j⟩
theorem tM(s:SR Z F H σ δ own)(e:δ[i]? =aA (aA<|.oR a ks xss))(y:Qm ks k=aA p):
  ∃kvs ep c vs xs,σ[i]? =aA (aA<|.ref a)/\H a=aA (.dK kvs ep)/\kvs.length=xss.length/\Jz kvs k=aA (.ref c)/\H c=aA (.lst vs)/\xss[p]? =aA xs/\xs.length=vs.length/\F c=aB/\
   ∀ys us,dJ K F ys us->∃g,SR Z F (upd H c<|.lst<|vs++us) σ (δ.set i<|aA<|.oR a ks<|xss.set p<|xs++ys) g:=by
 refine Wv λ_ B=>?_;obtain⟨kvs,ep,ns',x,h,G,A,l⟩:=V_ s e;rw[<-A]at y;obtain⟨v,g1,g2⟩:=E6 y;obtain⟨c,rfl⟩:=l.ref g1;have j:=s.nod i;rw[h]at j;obtain⟨T,Q⟩:=fm.mp j;obtain⟨xs,vs,P,o,L,E⟩:=l.appL g1 Q;have u:(c,HO.lst vs)∈own i:=by rw[h];exact ag _ o
 obtain⟨fc,_,n⟩:=s.ok i _ u;apply B;refine⟨kvs,ep,c,vs,xs,x,G,by have:=l.length;rw[aj]at this;exact this.symm,g2,n,P,L.length,fc,λys us r=>?_⟩;obtain⟨f,k1,k2,k3⟩:=E r;have m:a≠c:=λz=>T<|av.mpr ⟨_,o,z.symm⟩;refine⟨_,s.change (sv':=.oR a ks<|xss.set p<|xs++ys) (o':=.lst<|vs++us) (ns':=(a,.dK kvs ep)::f) e x u (.oR A k1) (λq X=>?_) ?_⟩
 .rcases az.mp X with z|z
  .exact .inr ⟨by rw[h,z];exact ac,by rw[z];exact m⟩
  .rcases k3 q z with w|⟨w,C⟩
   .exact .inl w
   .exact .inr ⟨by rw[h];exact ag _ w,C⟩
 .show(a::Jj f).Nodup;rw[k2];exact j
theorem tL(s:SR Z F H σ δ own)(e:δ[i]? =aA (aA<|.oR a ks xss))(f:Qm ks k=aB):
  ∃kvs ep,σ[i]? =aA (aA<|.ref a)/\H a=aA (.dK kvs ep)/\kvs.length=xss.length/\Jz kvs k=aB/\F a=aB/\
   ∀l ys us g,H l=aB->dJ K F ys us->∃G,SR Z F (upd (upd (upd H l<|.lst []) a<|.dK (kvs++[(k,.ref l)]) g) l<|.lst us) σ (δ.set i<|aA<|.oR a (ks++[k])<|xss++[ys]) G:=by
 refine Wv λ_ X=>?_;obtain⟨kvs,ep,ns',n,u,Q,T,P⟩:=V_ s e;rw[<-T]at f;have E:=s.nod i;rw[u]at E;obtain⟨L,N⟩:=fm.mp E;apply X;have v:(a,HO.dK kvs ep)∈own i:=by rw[u];exact ac
 refine⟨kvs,ep,n,Q,by have:=P.length;rw[aj]at this;exact this.symm,Ia f,(s.ok i _ v).1,λl ys us g h r=>?_⟩;have C:l≠a:=λz=>by rw[z,Q]at h;cases h
 have U:upd (upd (upd H l<|.lst []) a<|.dK (kvs++[(k,.ref l)]) g) l (.lst us)=upd (upd H l<|.lst us) a (.dK (kvs++[(k,.ref l)]) g):=by
  funext c;unfold upd;by_cases h1:c=l
  .rw[dZ h1];by_cases h2:c=a
   .exact dt (h1.symm.trans h2) C
   .rw[dY h2,dZ h1]
  .rw[dY h1];by_cases h2:c=a
   .rw[dZ h2,dZ h2]
   .rw[dY h2,dY h2,dY h1,dY h1]
 rw[U];have J:=Wz (o:=HO.lst us) h;have M:=s.grow J;have t:dW Z F (upd H l<|.lst us) own (.ol ys) (.ref l) [(l,.lst us)]:=by
  refine⟨.ol r,Fs,λq B=>?_,λj q r B R z=>?_⟩
  .obtain rfl:=ao.mp B;exact⟨s.le.free h,s.old.free h,Z8⟩
  .obtain rfl:=ao.mp B;have I:l=r.1:=z;have:=(s.ok j r R).2.2;rw[<-I,h]at this;cases this
 have m:∀p∈own i,p.1≠l:=λp f z=>t.sep i (l,.lst us) p ac f z.symm;refine⟨_,M.changeT (o':=.dK (kvs++[(k,.ref l)]) g) (ns':=(a,.dK (kvs++[(k,.ref l)]) g)::(ns'++[(l,.lst us)])) t e n v (.oR (by rw[cb,T];rfl) (by rw[cb];exact P.snoc r)) (λp f=>?_) ?_⟩
 .rcases az.mp f with z|z
  .exact .inl z
  .rcases dm.mp z with z|z
   .exact .inr (.inl ⟨by rw[u];exact ag _ z,λw=>L<|av.mpr ⟨p,z,w⟩⟩)
   .exact .inr (.inr z)
 .show(a::(ns'++[(l,HO.lst us)]).map (·.1)).Nodup;rw[cb];refine fm.mpr ⟨λz=>?_,?_⟩
  .rcases dm.mp z with z|z
   .exact L z
   .exact m _ v (ao.mp z)
  .refine iw.mpr ⟨N,Fs,λx n y O z=>?_⟩;obtain⟨p,f,ep⟩:=av.mp n;have A:y=l:=ao.mp O;exact m p (by rw[u];exact ag _ f) (by rw[ep,z,A])
@[simp]def Lw(ks:List Key)(xss:List<|List D)(k:Key)(y:D):List Key×List (List D):=match Qm ks k with
 |some p=>(ks,xss.set p<|xss.getD p []++[y])
 |none=>(ks++[k],xss++[[y]])
open Classical in
def XC(i:Nat)(c:FE)(j:Nat):FS:=λδ=>match δ[i]? with
 |some (aA<|.oR _ _ _)=>(c δ).bind λp=>(frz p.1 p.2).bind λq=>q.1.key?.bind λk=>match q.2[i]?,q.2[j]? with
  |some (aA<|.oR a ks xss),aA (aA<|.fz d)=>if okX xss 1 then aA (.nx<|q.2.set i<|aA<|.oR a (Lw ks xss k d).1 (Lw ks xss k d).2)else aB
  |_,_=>aB
 |_=>aB
theorem qO(h:liftS Z (XC i fk j) E σ H):Ch (tBM K "list" Be (UV (Bb i) (liftE Z fk)<|VO T7)<|G1 (Bb j) T7) E σ H:=by
 obtain⟨F,δ,own,fl,s,e,k⟩:=h;unfold XC at e;split at e
 .rename_i P ks0 xss0 W;refine L2.dO e λrv δ1 e1 e=>?_;refine L2.dO e λkd δ2 e2 e=>?_;refine L2.dN e λq e3 e=>?_;dsimp only at e2 e3 e;split at e
  .rename_i a ks xss d hi hj;split at e
   .rename_i n;cases e;obtain⟨zK,yF,fN,r,yG,Y,_⟩:=V_ s W;refine⟨.ref P,r,P,rfl,⟨_,_,Y⟩,F,δ,own,rv,δ1,s,e1,λv H1 F1 ZR sH sF s1 r1=>?_⟩;refine Wv λ_ u=>?_;obtain⟨F2,M,s2,r2⟩:=s1.settleR r1;obtain⟨F3,WU,J,N,r3⟩:=s2.frzR r2 e2;obtain⟨y,hy,I⟩:=N.at' j _ hj;apply u;have ry:=Q0 I;have ek:=E5 e3<|Yz.of (H:=H1) r3;have x:=sF.trans<|M.trans J;refine⟨gr _,λl X=>?_⟩;have w:=Wz (o:=HO.lst []) X;cases T:Qm ks q with
    |some p=>
     refine Wv λ_ u=>?_;obtain⟨kvs,ep,c,vs,xs,A,g,m,Q,C,q1,q2,fc,O⟩:=tM (N.grow w) hi T;rw[r]at A;cases A;apply u;have R:=gh q1;have hz:=n.2.2 xs R;refine⟨kvs,q,ek,⟨ep,g⟩,by rw[m];exact n.1,.inl ⟨.ref c,Q,.inl ⟨rfl,vs,.inl<|.inl C⟩,y,hy,c,vs,y,rfl,rfl,C,Θ,?_⟩⟩;obtain⟨f,G⟩:=O [d] [y]<|.cons ry .nil;refine k σ _ F3 f x ?_;have:Lw ks xss q d=(ks,xss.set p<|xs++[d]):=by
      unfold Lw;rw[T];have:xss.getD p []=xs:=by rw[du,q1];rfl
      show(ks,xss.set p<|xss.getD p []++[d])=_;rw[this]
     rw[this];exact G
    |none=>
     refine Wv λ_ u=>?_;obtain⟨kvs,ep,A,g,m,Q,fa,O⟩:=tL N hi T;rw[r]at A;cases A;apply u;have yA:(upd H1 l<|.lst []) P=aA (.dK kvs ep):=w _ _ g;refine⟨kvs,q,ek,⟨ep,yA⟩,by rw[m];exact n.1,.inr ⟨Q,λL=>?_⟩⟩;rw[A_ Q];have U:l≠P:=λz=>by rw[z,g]at X;cases X
     have B:(upd (upd H1 l<|.lst []) P<|.dK (kvs++[(q,.ref l)]) L) l=aA (.lst []):=by rw[Zs U,Z8]
     refine⟨.inl ⟨rfl,[],.inl<|.inl B⟩,y,hy,l,[],y,rfl,rfl,B,by have h1:=n.2.1;simp;decide,?_⟩;obtain⟨f,G⟩:=O l [d] [y] L X<|.cons ry .nil;refine k σ _ F3 f x ?_;have:Lw ks xss q d=(ks++[q],xss++[[d]]):=by unfold Lw;rw[T]
     rw[this];exact G
   .cases e
  .cases e
 .cases e
def Ib(i:Nat)(f fv:FE):FS:=λδ=>match δ[i]? with
 |some (aA<|.oQ _ _ _)=>(f δ).bind λp=>(frz p.1 p.2).bind λq=>q.1.key?.bind λc=>(fv q.2).bind λr=>(frz r.1 r.2).bind λw=>match w.2[i]? with
  |some (aA<|.oQ a ks ds)=>if ds.length<dg then match Qm ks c with
   |some _=>aA<|.nx w.2
   |none=>aA<|.nx<|w.2.set i<|aA<|.oQ a (ks++[c])<|ds++[w.1]
   else aB
  |_=>aB
 |_=>aB
theorem QJ(s:SR Z F H σ δ own)(e:δ[i]? =aA (aA<|.oQ a ks ds)):E2 λkvs ep=>A5 (σ[i]? =aA (aA<|.ref a)) (own i=[(a,.dK kvs ep)]) (H a=aA (.dK kvs ep)) (kvs.map (·.1)=ks) (dJ K F ds (kvs.map (·.2))):=by refine Wv λ_ f=>?_;obtain⟨x,j,h⟩:=s.at' i _ e;obtain⟨kvs,ep,rfl,c,l,r⟩:=JW h;apply f;exact⟨kvs,ep,j,c,(s.ok i (a,.dK kvs ep) (by rw[c];exact ac)).2.2,l,r⟩
theorem qN(h:liftS Z (Ib i fk fv) E σ H):Ch (UV (Bb i) (liftE Z fk)<|liftE Z fv) E σ H:=by
 obtain⟨F,δ,own,fl,s,e,k⟩:=h;unfold Ib at e;split at e
 .rename_i n ks0 ds0 T;refine L2.dO e λrk δ1 e1 e=>?_;refine L2.dO e λkd δ2 e2 e=>?_;refine L2.dN e λl e3 e=>?_;refine L2.dO e λQ r e4 e=>?_;refine L2.dO e λd SA e5 e=>?_;dsimp only at e2 e3 e5 e;split at e
  .rename_i a ks ds Y;split at e
   .rename_i hz;obtain⟨R,yF,f,yG,X,_⟩:=QJ s T;refine⟨.ref n,f,n,rfl,⟨_,_,X⟩,F,δ,own,rk,δ1,s,e1,λy H1 F1 O B_ L s1 r1=>?_⟩;refine Wv λ_ u=>?_;obtain⟨F2,K,s2,r2⟩:=s1.settleR r1;obtain⟨F3,j,C,s3,r3⟩:=s2.frzR r2 e2;apply u;have g:=E5 e3<|Yz.of (H:=H1) r3;refine⟨F3,δ2,j,Q,r,s3,e4,λz H4 F4 N BV B s4 r4=>?_⟩;refine Wv λ_ u=>?_;obtain⟨F5,A,s5,r5⟩:=s4.settleR r4;obtain⟨I,c,x,P,r6⟩:=s5.frzR r5 e5;obtain⟨kvs,ep,U,en,hH,G,M⟩:=QJ P Y;rw[f]at U;cases U;apply u;have w:=B.trans<|A.trans x;have ll:ds.length=kvs.length:=by rw[M.length,aj]
    have J:Zm F I:=L.trans<|K.trans<|C.trans w;refine⟨kvs,l,g,⟨ep,hH⟩,by rw[<-ll];exact hz,?_⟩;have mb:(n,HO.dK kvs ep)∈c i:=by rw[en];exact ac
    cases o:Qm ks l with
    |some p=>rw[o]at e;cases e;obtain⟨v,g1,g2⟩:=E6 (kvs:=kvs) (by rw[G];exact o);exact .inl ⟨v,g2,k _ H4 I c J P⟩
    |none=>rw[o]at e;cases e;have W:=Ia (kvs:=kvs) (by rw[G];exact o);refine .inr ⟨W,λm=>?_⟩;rw[A_ W];exact k _ _ I _ J<|P.change (sv':=.oQ n (ks++[l])<|ds++[d]) (o':=.dK (kvs++[(l,z)]) m) (ns':=[(n,.dK (kvs++[(l,z)]) m)]) Y f mb (.oQ (by rw[cb,G];rfl) (by rw[cb];exact M.snoc r6)) (λq hq=>.inl<|ao.mp hq) Fs
   .cases e
  .cases e
 .cases e
end
section
variable{X:Cx}{Z:dP X.K}{a b c:dz}{fa fb fc:FE}{pos:Pos}
theorem qM(i){py ZA cpos}(f:PE X a<|liftE Z fa)(c:PE X b<|liftE Z fb)(j:‹Vr X i y›)(m:‹M2 X (.Name y py) "setdefault" ZA a b cpos›)(hs:‹i6 (.Call (.Attribute (.Name y py) "setdefault" ZA) [a,b] [] cpos) aB pos.line X.e=jh aE›):
  PS X (.Expr (.Call (.Attribute (.Name y py) "setdefault" ZA) [a,b] [] cpos) pos) (liftS Z<|Ib i fa fb):=
 (Q9 (IX (Jy (i:=i) j) f c m) hs).imp λ_ _ _ h=>qN h
theorem tK(i j){y:Str}{px py p2 ap1 cp1 ZA cpos}(p:PE X k<|liftE Z fk)(q:‹Vr X i x›)(n:‹X.N[j]? =aA y›)(c:‹Vis X.e.scope y›)(l:‹Nd y›)(a:‹(y==("__classdict__":Str))=aE›)(m:‹M2 X (.Name x px) "setdefault" ap1 k (.List [] p2) cp1›)(o:‹Mc X (.Call (.Attribute (.Name x px) "setdefault" ap1) [k,.List [] p2] [] cp1) "append" ZA cpos (.Name y py) []›)(f:‹i6 (.Call (.Attribute (.Call (.Attribute (.Name x px) "setdefault" ap1) [k,.List [] p2] [] cp1) "append" ZA) [.Name y py] [] cpos) aB pos.line X.e=jh aE›):
  PS X (.Expr (.Call (.Attribute (.Call (.Attribute (.Name x px) "setdefault" ap1) [k,.List [] p2] [] cp1) "append" ZA) [.Name y py] [] cpos) pos) (liftS Z<|XC i fk j):=
 (Q9 (Ow gw mm mj Oo (IX (Jy (i:=i) q) p (Kr Wu) m) (Y8 (Jy (i:=j) ⟨n,c,l,a⟩) Wu o.st) o) f).imp λ_ _ _ h=>qO h
end
end
section
variable{K:ak}
@[simp]noncomputable def QI(a:aq):SV->Option SV
 | .oK ks es=>aA<|.oQ a ks es
 | .oN ks xss=>aA<|.oR a ks xss
 |_=>aB
@[simp]noncomputable def WH(a:aq):Option (Option SV)->Option SV
 |some (aA<|.oQ b ks es)=>if b=a then aA (.oK ks es)else aB
 |some (aA<|.oR b ks xss)=>if b=a then aA (.oN ks xss)else aB
 |_=>aB
@[simp]noncomputable def SV.lends:SV->Bool
 | .oK _ _=>aC
 | .oN _ _=>aC
 |_=>aE
theorem iV(h:dQ K F sp v ns)(e:WH a (aA<|aA sp)=aA sv):v= .ref a/\dQ K F sv (.ref a) ns:=by
 cases h with
 | @oQ b _ _ _ _ e' r=>
  have c:(if b=a then aA (SV.oK _ _)else aB)=aA sv:=e;clear e;split at c
  .rename_i f;subst f;cases c;exact⟨rfl,.oK e' r⟩
  .cases c
 | @oR b _ _ _ _ _ e' r=>
  have c:(if b=a then aA (SV.oN _ _)else aB)=aA sv:=e;clear e;split at c
  .rename_i f;subst f;cases c;exact⟨rfl,.oN e' r⟩
  .cases c
 |_=>cases e
theorem S0(h:dQ K F sv v ns)(e:sv.lends=aC):∃a,v= .ref a:=by
 cases h with
 |oK _ _=>exact⟨_,rfl⟩
 |oN _ _=>exact⟨_,rfl⟩
 |_=>cases e
noncomputable abbrev VG:=aq->aq->List D->SV->SV->Option (SV×SV)
section
variable{Z:dP K}{H:Hp}{σ:L2.St}{Q:VK}{E:Ends}
def spV(K:ak)(n:Nat)(g:VG):Sp:=λvs H Q _=>∃F a b us ds m l j h r,vs=us++[V.ref a,V.ref b]/\Zm F H/\dJ K F ds us/\ds.length=n/\dQ K F m (.ref a) j/\dQ K F l (.ref b) h/\(Jj<|j++h).Nodup/\(∀p∈j++h,F p.1=aB/\H p.1=aA p.2)/\g a b ds m l=aA r/\
 ∀H' F' f c,Zm (Uw H<|j++h) H'->Zm F F'->Zm F' H'->(∀(b:aq) (o:HO),F' b=aA o->F b=aA o\/Uw H (j++h) b=aB)->dQ K F' r.1 (.ref a) f->dQ K F' r.2 (.ref b) c->(Jj<|f++c).Nodup->(∀p∈f++c,F' p.1=aB/\Uw H (j++h) p.1=aB/\H' p.1=aA p.2)->Q .non H'
theorem qL{E}(h:spV K n g vs H Q E):vs.length=n+2:=by obtain⟨F,a,b,us,ds,j,f,m,l,r,rfl,_,c,hn,_⟩:=h;rw[ax,<-c.length,hn];rfl
@[simp]def UU(n:Nat)(ds:À D)(c a:SV):Y5:=ds.map (λd=>some<|.fz d)++some c::some a::ir (n- ds.length- 2) none
@[simp]def VF(f:FS)(n:Nat):VG:=λa b ds h c=>(QI a h).bind λl=>(QI b c).bind λj=>match f (UU n ds l j)with
 |some (.nx δ)=>(WH a δ[ds.length]?).bind λx=>(WH b δ[ds.length+1]?).bind λy=>aA (x,y)
 |_=>aB
theorem OX{α:Type}(xs m x y)(z:À α)(h:xs.length=m):(xs++y::z).set m x=xs++x::z:=by subst h;rw[AW _ _<|cj _,wq,v8]
theorem kG(h:us.length+2<=N.length):((L2.Qn N us).set us.length<|aA x).set (us.length+1) (aA y)=L2.Qn N (us++[x,y]):=by
 unfold L2.Qn;obtain⟨m,a⟩:∃m,N.length- us.length=m+2:=⟨_,(CV<|AV h).symm⟩
 rw[a,o0,o0,OX _ _ _ _ _<|aj ..];have e:us.map aA++aA x::aB::ir m aB=(us.map aA++[aA x])++aB::ir m aB:=Δ
 have h2:N.length- (us++[x,y]).length=m:=by rw[ax,<-Nat.sub_sub,a];rfl
 rw[h2];simp
theorem iB(h:ds.length+2<=n):((Qu n ds).set ds.length<|aA pa).set (ds.length+1) (aA pb)=UU n ds pa pb:=by
 rw[Ck];unfold UU;obtain⟨m,a⟩:∃m,n- ds.length=m+2:=⟨_,(CV<|AV h).symm⟩
 rw[a,o0,o0,OX _ _ _ _ _<|aj ..];have e:ds.map (λd=>aA<|SV.fz d)++aA pa::aB::ir m aB=(ds.map (λd=>aA<|SV.fz d)++[aA pa])++aB::ir m aB:=Δ
 simp
theorem kF(hN:n+2<=N.length)(h:spV K n (VF f N.length) vs H Q E'):∃G F,liftS (ent G F:dP K) f {nx:=λ_ H'=>Q .non H',rt:=Q} (L2.Qn N vs) H:=by
 refine Wv λ_ Y=>?_;obtain⟨F,a,b,us,ds,sa,sb,A,B,r,rfl,le,R,hn,T,P,nd,ok,e,k⟩:=h;apply Y;refine⟨Uw H<|A++B,F,?_⟩;have q:=Ah (N:=N) le R;have s0:SR (ent (Uw H<|A++B) F:dP K) F H (L2.Qn N us) (Qu N.length ds) λ_=>[]:=
  ⟨q.le,λb o e=>.inl e,LH,q.len,q.at',q.nod,λ_ _ h=>(nomatch h),λ_ _ _ _ _ h=>(nomatch h)⟩
 have s:us.length=ds.length:=R.length.symm;have j:(L2.Qn N us).length=N.length:=by unfold L2.Qn;rw[ax,aj,j0];lia
 refine L2.dN e λpa M e=>?_;refine L2.dN e λpb J e=>?_;have Z:(Jj A++Jj B).Nodup:=by rw[<-cb];exact nd
 obtain⟨I,g,X⟩:=iw.mp Z;have L:∀p∈A++B,F p.1=aB/\Uw H (A++B) p.1=aB/\H p.1=aA p.2:=λp l=>⟨(ok p l).1,(dZ<|av.mpr ⟨p,l,rfl⟩),(ok p l).2⟩
 have ta:dW (ent (Uw H<|A++B) F:dP K) F H (λ_=>[]) pa (.ref a) A:=
  ⟨(by
   cases T with
   |oK C r=>cases M;exact .oQ C r
   |oN C r=>cases M;exact .oR C r
   |_=>cases M),I,λp l=>L p<|dr _ l,λ_ _ _ _ h=>(nomatch h)⟩
 have s1:=s0.store (i:=ds.length) ta (by rw[j];(clear j s;lia));have tb:dW (ent (Uw H<|A++B) F:dP K) F H (put (λ_=>[]) ds.length A) pb (.ref b) B:=by
  refine⟨(by
   cases P with
   |oK C r=>cases J;exact .oQ C r
   |oN C r=>cases J;exact .oR C r
   |_=>cases J),g,λp l=>L p<|di _ l,λi p q l E z=>?_⟩
  by_cases U:i=ds.length
  .subst U;rw[Yi]at E;exact X q.1 (av.mpr ⟨q,E,rfl⟩) p.1 (av.mpr ⟨p,l,rfl⟩) z.symm
  .rw[Yp U]at E;exact nomatch E
 have O:=s1.store (i:=ds.length+1) tb (by rw[io,j];(clear j s;lia));rw[<-s,kG (by clear j;lia),s,iB (by clear j s;lia)]at O;split at e
 .rename_i δ hf;refine L2.dN e λx ex e=>?_;refine L2.dN e λy ey e=>?_;cases e;refine⟨F,_,_,.nx δ,O,hf,λW H' F' m a' s'=>?_⟩;have get:∀(i:Nat) (c:aq) (sv:SV),WH c δ[i]? =aA sv->dQ K F' sv (.ref c) (m i):=λi c sv h=>by
   cases o:δ[i]? with
   |none=>rw[o]at h;cases h
   |some u=>cases u with
    |none=>rw[o]at h;cases h
    |some sp=>rw[o]at h;obtain⟨v,_,sh⟩:=s'.at' i sp o;exact(iV sh h).2
  refine k H' F' (m ds.length) (m<|ds.length+1) s'.old a' s'.le s'.fro (get _ _ _ ex) (get _ _ _ ey) ?_ λp l=>?_
  .show(Jj _).Nodup;rw[Jj,cb];exact iw.mpr ⟨s'.nod _,s'.nod _,λu hu w hw z=>by
    obtain⟨p,l,rfl⟩:=av.mp hu;obtain⟨q,E,rfl⟩:=av.mp hw;exact s'.sep _ _ p q Θ l E z⟩
  .rcases dm.mp l with z|z
   .exact s'.ok _ p z
   .exact s'.ok _ p z
 .cases e
def Lx(Z:dP K)(i j:Nat)(fd:FD):TA:=λσ H R=>liftD Z fd σ H λvs H1=>∃x y,σ[i]? =aA (aA x)/\σ[j]? =aA (aA y)/\R (vs++[x,y]) H1
open Classical in
def Ly(i j n:Nat)(g:VG)(fd:FD):FS:=λδ=>(fd δ).bind λp=>if p.1.length=n/\i≠j then match p.2[i]?,p.2[j]? with
 |some (aA sa),aA (aA sb)=>if sa.lends=aC/\sb.lends=aC then(if h:∃r,∀a b,g a b p.1 sa sb=aA r then aA (.nx<|(p.2.set i<|aA h.choose.1).set j<|aA h.choose.2)else aB)else aB
 |_,_=>aB else aB
theorem kE(hd:fd δ=aA (ds,δ1))(hn:ds.length=n)(c:i≠j)(p:δ1[i]? =aA (aA sa))(o:δ1[j]? =aA (aA sb))(m:sa.lends=aC)(l:sb.lends=aC)(f:∀a b,g a b ds sa sb=aA r):Ly i j n g fd δ=aA (.nx<|(δ1.set i<|aA r.1).set j<|aA r.2):=by
 unfold Ly;rw[hd];dsimp only[i5];rw[dZ ⟨hn,c⟩,p,o];have h:∃r,∀a b,g a b ds sa sb=aA r:=⟨r,f⟩
 dsimp only;rw[dZ ⟨m,l⟩,dif_pos h];have:=h.choose_spec 0 0;rw[f 0 0]at this;rw[<-h8.inj this]
theorem SR.hand2 {F F' H':Hp}{δ:Y5}{own:Nat->Zy}{i j:Nat}{sa sb ra rb:SV}{a b:aq}{na' nb':Zy}(s:SR Z F H σ δ own)(hij:i≠j)(hi:δ[i]?=aA (aA sa))(hj:δ[j]?=aA (aA sb))(WX:σ[i]?=aA (aA<|.ref a))(hvj:σ[j]?=aA (aA<|.ref b))(sH:Zm (Uw H<|own i ++ own j) H')(sF:Zm F F')(le':Zm F' H')(fro':∀ (b:aq) (o:HO),F' b=aA o->F b=aA o\/Uw H (own i ++ own j) b=aB)(sha:dQ K F' ra (.ref a) na')(shb:dQ K F' rb (.ref b) nb')(nd:(Jj<|na' ++ nb').Nodup)(ok':∀ p ∈ na' ++ nb',F' p.1=aB/\Uw H (own i ++ own j) p.1=aB/\H' p.1=aA p.2) :
    SR Z F' H' σ ((δ.set i<|aA ra).set j<|aA rb) (put (put own i na') j nb'):=by
  have O:i < δ.length:=(ci.mp hi).1;have N:j < δ.length:=(ci.mp hj).1;have P:∀ c,c ∈ Jj (own i ++ own j)->∃ q,(q ∈ own i\/q ∈ own j)/\c=q.1:=λc R=>by obtain ⟨q,A,e⟩:=av.mp R;exact ⟨q,dm.mp A,e.symm⟩
  have g:∀ c,Uw H (own i ++ own j) c=aB->Z.h c=aB:=λc R=>by
    rcases Sm R with z | z
    · obtain ⟨q,A | A,e⟩:=P c z
      · rw [e]; exact (s.ok i q A).2.1
      · rw [e]; exact (s.ok j q A).2.1
    · exact s.old.free z
  have keep:∀ l,l≠i->l≠j->∀ q ∈ own l,Uw H (own i ++ own j) q.1=aA q.2:=λl h1 h2 q A=>by
    rw [Rx λz=>?_]
    · exact (s.ok l q A).2.2
    · obtain ⟨r,C | C,e⟩:=P _ z
      · exact s.sep l i q r h1 A C e
      · exact s.sep l j q r h2 A C e
  have I:(Jj na' ++ Jj nb').Nodup:=by rw [<- cb]; exact nd
  obtain ⟨M,J,X⟩:=iw.mp I;have w:put (put own i na') j nb' i=na':=by rw [Yp hij,Yi]
  have n:put (put own i na') j nb' j=nb':=Yi;have f:∀ l,l≠i->l≠j->put (put own i na') j nb' l=own l:=λl h1 h2=>by rw [Yp h2,Yp h1]
  have G:∀ l p,p ∈ put (put own i na') j nb' l->F' p.1=aB/\Z.h p.1=aB/\H' p.1=aA p.2:=λl p E=>by
    by_cases h1:l=i
    · subst h1
      rw [w] at E;obtain ⟨x,y,z⟩:=ok' p<|dr _ E;exact ⟨x,g _ y,z⟩
    · by_cases h2:l=j
      · subst h2
        rw [n] at E;obtain ⟨x,y,z⟩:=ok' p<|di _ E;exact ⟨x,g _ y,z⟩
      · rw [f l h1 h2] at E
        obtain ⟨y1,Y,y3⟩:=s.ok l p E;have U:=keep l h1 h2 p E;refine ⟨?_,Y,sH _ _ U⟩;cases z:F' p.1 with
        | none=>rfl
        | some u =>
          rcases fro' _ u z with y | y
          · rw [y1] at y; cases y
          · rw [U] at y; cases y
  have B:∀ l,(l=i\/l=j)->∀ p ∈ put (put own i na') j nb' l,Uw H (own i ++ own j) p.1=aB:=λl hl p E=>by
    rcases hl with rfl | rfl
    · rw [w] at E; exact (ok' p<|dr _ E).2.1
    · rw [n] at E; exact (ok' p<|di _ E).2.1
  refine ⟨le',λc o e=>?_,λc o e=>?_,by rw [io,io]; exact s.len,λl sv e=>?_,λl=>?_,G,λl m q r Q A C z=>?_⟩
  · rcases fro' c o e with z | z
    · exact s.fro c o z
    · exact .inr<|g c z
  · refine sH c o ?_
    rw [Rx λz=>?_]
    · exact s.old c o e
    · obtain ⟨q,A | A,W⟩:=P c z
      · rw [W,(s.ok i q A).2.1] at e; cases e
      · rw [W,(s.ok j q A).2.1] at e; cases e
  · by_cases h2:l=j
    · subst h2
      rw [gv (by rw [io]; exact N)] at e;cases e;rw [n];exact ⟨_,hvj,shb⟩
    · rw [gj (Ne.symm h2)] at e
      by_cases h1:l=i
      · subst h1
        rw [gv O] at e;cases e;rw [w];exact ⟨_,WX,sha⟩
      · rw [gj (Ne.symm h1)] at e
        obtain ⟨v,g1,g2⟩:=s.at' l sv e;rw [f l h1 h2];exact ⟨v,g1,g2.mono sF⟩
  · by_cases h1:l=i
    · subst h1; rw [w]; exact M
    · by_cases h2:l=j
      · subst h2; rw [n]; exact J
      · rw [f l h1 h2]; exact s.nod l
  · -- apart
    by_cases T:l=i\/l=j
    · by_cases L:m=i\/m=j
      · rcases T with rfl | rfl
        · rcases L with rfl | rfl
          · exact Q rfl
          · rw [w] at A; rw [n] at C
            exact X q.1 (av.mpr ⟨q,A,rfl⟩) r.1 (av.mpr ⟨r,C,rfl⟩) z
        · rcases L with rfl | rfl
          · rw [n] at A; rw [w] at C
            exact X r.1 (av.mpr ⟨r,C,rfl⟩) q.1 (av.mpr ⟨q,A,rfl⟩) z.symm
          · exact Q rfl
      · have h:=B l T q A
        rw [f m (λy=>L<|.inl y) (λy=>L<|.inr y)] at C;rw [z,keep m (λy=>L<|.inl y) (λy=>L<|.inr y) r C] at h;cases h
    · rw [f l (λy=>T<|.inl y) (λy=>T<|.inr y)] at A
      by_cases L:m=i\/m=j
      · have h:=B m L r C
        rw [<- z,keep l (λy=>T<|.inl y) (λy=>T<|.inr y) q A] at h;cases h
      · rw [f m (λy=>L<|.inl y) (λy=>L<|.inr y)] at C
        exact s.sep l m q r Q A C z
theorem qK(h:liftS Z (Ly i j n g fd) E σ H):Ch (Dm (spV K n g) [] E'<|Lx Z i j fd) E σ H:=by
 obtain⟨F,δ,own,fl,s,e,k⟩:=h;refine L2.dO e λds δ1 e1 e=>?_;split at e
 .rename_i hn;split at e
  .rename_i N M J I;split at e
   .rename_i G;split at e
    .rename_i hg;cases e;refine⟨F,δ,own,ds,δ1,s,e1,λvs H1 F1 f sH O c R=>?_⟩;obtain⟨x,X,m⟩:=c.at' i _ J;obtain⟨y,T,l⟩:=c.at' j _ I;obtain⟨a,rfl⟩:=S0 m G.1;obtain⟨b,rfl⟩:=S0 l G.2;refine⟨_,_,X,T,?_⟩;show spV K n g ((vs++[V.ref a,V.ref b])++[]) H1 _ _;rw[iq];refine⟨F1,a,b,vs,ds,N,M,f i,f j,_,rfl,c.le,R,hn.1,m,l,?_,λp Q=>?_,hg.choose_spec a b,λH' F' W U B v P A r o L C=>?_⟩
     .show(Jj _).Nodup;rw[Jj,cb];exact iw.mpr ⟨c.nod _,c.nod _,λu hu w Y z=>by
       obtain⟨p,Q,rfl⟩:=av.mp hu;obtain⟨q,hq,rfl⟩:=av.mp Y;exact c.sep _ _ p q hn.2 Q hq z⟩
     .rcases dm.mp Q with z|z
      .exact⟨(c.ok _ p z).1,(c.ok _ p z).2.2⟩
      .exact⟨(c.ok _ p z).1,(c.ok _ p z).2.2⟩
     .exact k _ H' F' _ (O.trans v) (c.hand2 hn.2 J I X T B v P A r o L C)
    .cases e
   .cases e
  .cases e
 .cases e
end
section
variable{X:Cx}{Z:dP X.K}{a b c:dz}{fa fb fc:FE}
theorem tJ(i j)(r:PE X a<|Bb i)(o:PE X b<|Bb j)(n:‹Se X a [b]›)(c:‹Se X b []›):PA X [a,b]<|Lx Z i j Zp:=by intro p dG s σ H R I h;refine Y8 r (Y8 o Wu c) n p dG s σ H R I ?_;obtain⟨F,δ,own,ds,δ',f,e,k⟩:=h;cases e;obtain⟨x,y,m,l,q⟩:=k [] H F own (Zm.refl H) (Zm.refl F) f .nil;exact⟨x,m,y,l,q⟩
theorem KF(l:PE X a<|liftE Z fa)(c:PA X es<|Lx Z i j fd)(f:‹Se X a es›):PA X (a::es)<|Lx Z i j<|Zl fa fd:=by intro p dG s σ H R I h;refine Y8 l c f p dG s σ H R I ?_;exact Tb h
end
end
section
variable{K:ak}
inductive FlD:D->Prop where
 |non:FlD .non
 |bl (b:Bool):FlD<|.bl b
 |int (i:Int):FlD<|.int i
 |str (x:Str):FlD<|.str x
 |tup {xs:List D} (h:∀d∈xs,FlD d):FlD<|.tup xs
theorem S3(h:∀d∈ds,∀v,dS K F d v->dS K G d v)(r:dJ K F ds vs):dJ K G ds vs:=by
 induction ds generalizing vs with
 |nil=>cases r;exact .nil
 |cons d ds a=>cases r with
  |cons r t=>exact .cons (h _ ac _ r)<|a (λd hd=>h d<|ag _ hd) t
theorem n4(c:∀b us,F b=aA (.tup us)->G b=aA (.tup us))(h:FlD d):∀v,dS K F d v->dS K G d v:=by
 induction h with
 |non=>intro v r;cases r;exact .non
 |bl b=>intro v r;cases r;exact .bl b
 |int b=>intro v r;cases r;exact .int b
 |str b=>intro v r;cases r;exact .str b
 | @tup xs h ih=>intro v r;obtain⟨_,_,rfl,a,r⟩:=r.tupI;exact .tup (c _ _ a)<|S3 ih r
theorem dR.noTup(k:dR K F xss ws ns):∀p∈ns,∀us,p.2≠.tup us:=by
 induction k with
 |nil=>exact λ_ h=>nomatch h
 |cons r _ a=>
  intro p c us;rcases az.mp c with z|z
  .subst z;exact λy=>nomatch y
  .exact a p z us
theorem dQ.noTup(h:dQ K F sv v ns):∀p∈ns,∀us,p.2≠.tup us:=by
 have one:∀{q:aq×HO} {l:Zy},(∀us,q.2≠.tup us)->(∀p∈l,∀us,p.2≠.tup us)->∀p∈q::l,∀us,p.2≠.tup us:=λa f p c us=>by
  rcases az.mp c with z|z
  .subst z;exact a us
  .exact f p z us
 cases h with
 |fz h=>exact λ_ h=>nomatch h
 |ol r=>exact one (λ_ z=>nomatch z) λ_ h=>nomatch h
 |oK e r=>exact one (λ_ z=>nomatch z) λ_ h=>nomatch h
 |oT kb e r=>exact one (λ_ z=>nomatch z) λ_ h=>nomatch h
 |oN e r=>exact one (λ_ z=>nomatch z) r.noTup
 |oR e r=>exact one (λ_ z=>nomatch z) r.noTup
 |oL _ r=>exact one (λ_ z=>nomatch z) r.noTup
 |oQ e r=>exact one (λ_ z=>nomatch z) λ_ h=>nomatch h
@[simp]def icy(δ:Y5):Y5:=δ.map<|xx λsv=>.fz sv.toD
open Classical in
def Cq(f:FE):FE:=λδ=>(f<|icy δ).bind λp=>match p.1 with
 | .tmp (.ol xs)=>if∀d∈xs,FlD d then aA (.tmp<|.ol xs,δ)else aB
 |_=>aB
theorem JI(e:f (icy δ)=aA (.tmp<|.ol xs,δ'))(h:∀d∈xs,FlD d):Cq f δ=aA (.tmp<|.ol xs,δ):=by unfold Cq;rw[e];exact dZ h
def O0(own:Nat->Zy)(δ:Y5)(b:aq):Prop:=∃i sv p,δ[i]? =aA (aA sv)/\p∈own i/\p.1=b
section
variable{Z:dP K}{H:Hp}{σ:L2.St}{Q:VK}
open Classical in
theorem KC {f:FE} (h:liftE Z (Cq f) σ H Q):∃ Z':dP K,liftE Z' f σ H Q:= by
  obtain ⟨F,δ,own,rv,δ',s,e,k⟩:=h;refine L2.dO e λWN δ1 e1 e=>?_;dsimp only at e;split at e
  · rename_i xs
    split at e
    · rename_i G
      cases e;let A:Hp:=λb=>if O0 own δ b then H b else F b;have N:∀ {b},O0 own δ b->F b=aB:=λ{b} ⟨i,sv,p,_,c,e⟩=>by rw [<- e]; exact (s.ok i p c).1
      have R:Zm F A:=λb o e=>by show (if O0 own δ b then H b else F b)=aA o;rw [dY λz=>by rw [N z] at e; cases e]; exact e
      have L:Zm A H:=λb o e=>by
        have e:(if O0 own δ b then H b else F b)=aA o:=e;split at e
        · exact e
        · exact s.le b o e
      have I:∀ {i:Nat} {sv:SV} {v:V},δ[i]?=aA (aA sv)->dQ K F sv v (own i)->dS K A sv.toD v:=λ{i sv v} g m=>by
        refine (m.rep (s.nod i) λp c=>(s.ok i p c).1).mono λb o n=>?_;by_cases M:b ∈ Jj (own i)
        · obtain ⟨p,c,rfl⟩:=av.mp M
          rw [Rl (s.nod i) c] at n;cases n;show (if O0 own δ p.1 then H p.1 else F p.1)=_;rw [dZ ⟨i,sv,p,g,c,rfl⟩];exact (s.ok i p c).2.2
        · rw [Uu M] at n
          exact R b o n
      have s1:SR (ent H A:dP K) A H σ (icy δ) λ_=>[]:=by
        refine ⟨L,λb o e=>.inl e,Zm.refl H,by rw [icy,aj]; exact s.len,λi sv e=>?_,λ_=>gd,λ_ _ h=>(nomatch h),λ_ _ _ _ _ h=>(nomatch h)⟩;rw [icy,c8] at e;cases o:δ[i]? with
        | none=>rw [o] at e; cases e
        | some u=>cases u with
          | none=>rw [o] at e; cases e
          | some sv0 =>rw [o] at e;cases e;obtain ⟨v,P,m⟩:=s.at' i sv0 o;exact ⟨v,P,.fz<|I o m⟩
      refine ⟨ent H A,A,icy δ,λ_=>[],.tmp<|.ol xs,δ1,s1,e1,λv H' F' J B W s' r'=>?_⟩;obtain ⟨ns,t⟩:=r'
      let C:Hp:=λb=>if O0 own δ b then aB else F' b;have O:Zm F C:=λb o e=>by show (if O0 own δ b then aB else F' b)=aA o;rw [dY λz=>by rw [N z] at e; cases e]; exact W _ _<|R b o e
      have i2:Zm C F':=λb o e=>by
        have e:(if O0 own δ b then aB else F' b)=aA o:=e;split at e
        · cases e
        · exact e
      have U:∀ (b:aq) (o:HO),F' b=aA o->Z.f b=aA o\/Z.h b=aB\/O0 own δ b:=λb o e=>by
        rcases s'.fro b o e with z | z
        · have z:(if O0 own δ b then H b else F b)=aA o:=z
          split at z
          · rename_i w; exact .inr<|.inr w
          · rcases s.fro b o z with y | y
            · exact .inl y
            · exact .inr<|.inl y
        · exact .inr<|.inl<|s.old.free z
      let l:Nat->Zy:=λi=>if (∃ sv,δ[i]?=aA (aA sv)) then own i else []
      have sub:∀ {i p},p ∈ l i->p ∈ own i/\O0 own δ p.1:=λ{i p} c=>by
        have c:p ∈ (if (∃ sv,δ[i]?=aA (aA sv)) then own i else []):=c;split at c
        · rename_i w; obtain ⟨sv,w⟩:=w; exact ⟨c,i,sv,p,w,c,rfl⟩
        · exact nomatch c
      have Y:SR Z C H' σ δ l:=by
        refine ⟨i2.trans s'.le,λb o e=>?_,s.old.trans B,s.len,λi sv e=>?_,λi=>?_,λi p c=>?_,λi j p q X c T=>s.sep i j p q X (sub c).1 (sub T).1⟩
        · rcases U b o (i2 b o e) with z | z | z
          · exact .inl z
          · exact .inr z
          · have e:(if O0 own δ b then aB else F' b)=aA o:=e
            rw [dZ z] at e; cases e
        · obtain ⟨v,P,m⟩:=s.at' i sv e
          have:l i=own i:=dZ ⟨sv,e⟩;rw [this];exact ⟨v,P,m.mono O⟩
        · show (Jj (if (∃ sv,δ[i]?=aA (aA sv)) then own i else [])).Nodup
          split
          · exact s.nod i
          · exact gd
        · obtain ⟨h1,h2⟩:=sub c
          obtain ⟨x,y,z⟩:=s.ok i p h1;exact ⟨dZ h2,y,B _ _ z⟩
      refine k v H' C l B O Y ⟨ns,?_⟩;have m:=t.sh;cases m with
      | @ol a _ vs r =>
        refine ⟨.ol<|S3 (λd hd v rd=>n4 (F:=F') (λb us n=>?_) (G d hd) v rd) r,Fs,λp c=>?_,λi p q c T z=>?_⟩
        · have hn:¬ O0 own δ b:=λ⟨i,sv,p,g,c,ep⟩=>by obtain ⟨v0,_,E⟩:=s.at' i sv g;have h1:=B _ _ (s.ok i p c).2.2;have h2:=s'.le _ _ n;rw [ep,h2] at h1;exact E.noTup p c us (h8.inj h1).symm
          show (if O0 own δ b then aB else F' b) = _;rw [dY hn];exact n
        · obtain ⟨x,y,z⟩:=t.ok p c
          refine ⟨?_,s.old.free y,z⟩;show (if O0 own δ p.1 then aB else F' p.1)=aB;split
          · rfl
          · exact x
        · obtain ⟨x,y,w⟩:=t.ok p c
          have y:H p.1=aB:=y;have:=(s.ok i q (sub T).1).2.2;rw [<- z,y] at this;cases this
    · cases e
  · cases e
end
section
variable{X:Cx}{Z:dP X.K}{a:dz}{fa:FE}
theorem tI(c:∀g:dP X.K,PE X a<|liftE g fa):PE X a<|liftE Z<|Cq fa:=λdG s σ H Q I h=>let⟨g,h'⟩:=KC h;c g dG s σ H Q I h'
variable{pos:Pos}
theorem kD(i){py spos}(r:X.calm=aC)(S:CompScope X N' scope src)(v:SrcOk src k)(m:k∉g.tch)(n:∀M:dP X.K,PI X tg iter<|liftI M fi)(o:∀C G J ex,PG (X.block N' scope C G J ex) tg<|xG X.K g)(l:∀C G J ex,PTs (X.block N' scope C G J ex) ifs<|xT X.K tt)(p:∀C G J ex,PE (X.block N' scope C G J ex) elt<|xE X.K te)(u:X.N.Nodup)(c:‹X.N[i]? =aA y›)(j:‹X.e.scope.names.lookup y=aA .local›)(a:‹i6 (.ListComp elt [⟨tg,iter,ifs,0⟩] scope pos) (aA<|.Name y py) spos.line X.e=jh aC›)(hs:‹∀x,md iter X.e x=jh x›):PS X (.Assign [.Name y py] (.ListComp elt [⟨tg,iter,ifs,0⟩] scope pos) spos)<|liftS Z<|Z1 i<|Cq<|Y3 src k fi g tt te:=λdG s σ H D I h=>by
 obtain⟨M,h'⟩:=KC<|WE h;obtain⟨F,δ,own,rv,δ',f,e,q⟩:=h';exact(Ky r S (n M) o l p u c j a hs) dG s σ H D I (TK v m ⟨F,δ,own,rv,δ',f,e,q⟩)
end
end
abbrev AtF(K:ak)(x:Str)(st:lu)(f:aq)(fd:jg):Prop:=gu K f6 x=aA (aA<|.ref f)/\Fun K x x st f fd
abbrev AtC(K:ak)(c:aq)(x:Str)(st:lu)(f:aq)(fd:jg):Prop:=gu K f6 x=aA (aA<|.ref f)/\L2.FunC K x x st f fd c
abbrev Und(K:ak)(mg:Str->Á am):Prop:=∀{x:Str} {v:am},gu K f6 x=aA (aA v)->mg x=aA v
structure UnP(_:eg)(_:gq)(_:ie)(K:ak)(mg:Str->Á am):Prop where
 h:Und K mg
def Sv(P:eg)(w:gq)(K:ak)(mg:Str->Á am)(base:ie)(CX:CXT)(k:Nat)(x:Str)(ps:À Str)(sp:Sp):Prop:=
 ∃f fd,FnOk P w K mg base CX k f fd ps sp/\mg x=aA (.ref f)/\lg K (.ref f)=aC/\T8 K fd ps []
structure Sc(x:Str)(st:lu)(n:Nat)(N:À Str):Prop where
 S:FnScope N (N.take n)<|Yk st
 B:∀(kV ZI pm:am) (an:Á aq) (ZG ct:am) (us:À am),us.length=(N.take n).length->vd (kr x x (Oe st) (W6 st) (Yk st) .none kV ZI pm an ZG ct) ⟨us,[]⟩=jh ((N.take n).zip us)
 n:n=(N.take n).length
abbrev HB(P:eg)(w:gq)(K:ak)(mg:Str->Á am)(base:ie)(N:À Str)(x:Str)(st:lu)(f:aq)(k:Nat)(p:Hp->Prop)(c:FS)(a:am):Prop:=
 ∀{A:fj} {outer:À Env} {s:au} {H h:Hp} {E:XK},N.Nodup->p H->dU k (A.deeper<|nn x (Yk st) s.heap.objs.size f a)->(A.deeper<|nn x (Yk st) s.heap.objs.size f a).units+1<jf->(A.deeper<|nn x (Yk st) s.heap.objs.size f a).units+64<jf->
  Ma (Rg M8 P w K mg base N x (Yk st) f a A outer s H E).nox (W6 st) (liftS (ent H h:dP K) c)
section
variable{P:eg}{w:gq}{K:ak}{mg:Str->Á am}{base:ie}{x:Str}{st:lu}{f:aq}{fd:jg}
theorem J3(u:UnP P w base K mg)(a:∃f fd,AtF K x st f fd)(k n N g f0)(m:∀{f:aq} {c:am},HB P w K mg base N x st f k (λ_=>True) f0 c)(S:‹Sc x st n N›)(l:‹g=Yf f0 N.length›):Sv P w K mg base M8 (k+1) x (N.take n)<|Uv K n g:=by
 obtain⟨f,fd,a⟩:=a;exact⟨f,fd,(by
  subst l;exact a.2.ok S.S (λ_ _ _ _ h=>(K5 h).trans S.n) λc A outer s H vs Q E j h=>by
   obtain⟨o,h⟩:=Lb (N:=N) (f:=f0) h;exact⟨_,m S.S.nd trivial j (Pw j) j.units,h⟩),u.h a.1,a.2.kp,a.2.binds S.B⟩
variable{tq:aq}{q:Str}{c:aq}
theorem S1(a:AtF K x st f fd)(k n N g f0)(m:∀{c:am},HB P w K mg base N x st f k (λH=>H tq=aA (.tab q)) f0 c)(S:‹Sc x st n N›)(l:‹g=Yf f0 N.length›):FnOk P w K mg base M8 (k+1) f fd (N.take n)<|L2.spT tq q<|Uv K n g:=by
 subst l;exact a.2.ok S.S (λ_ _ _ _ h=>(K5 h.2).trans S.n) λc A outer s H vs Q E j h=>by obtain⟨o,h'⟩:=Lb (N:=N) (f:=f0) h.2;exact⟨_,m S.S.nd h.1 j (Pw j) j.units,h'⟩
theorem hW(u:UnP P w base K mg)(a:∃f fd,AtF K x st f fd)(k n N g f0)(l:∀{f:aq} {c:am},HB P w K mg base N x st f k (λH=>H tq=aA (.tab q)) f0 c)(S:‹Sc x st n N›)(j:‹g=Yf f0 N.length›):Sv P w K mg base M8 (k+1) x (N.take n)<|L2.spT tq q<|Uv K n g:=by
 obtain⟨f,fd,a⟩:=a;exact⟨f,fd,S1 a k n N g f0 l S j,u.h a.1,a.2.kp,a.2.binds S.B⟩
theorem hL(u:UnP P w base K mg)(a:∃f fd,AtC K c x st f fd)(k n N g f0)(m:∀{f:aq},HB P w K mg base N x st f k (λH=>H tq=aA (.tab q)) f0<|.ref c)(S:‹Sc x st n N›)(l:‹g=Yf f0 N.length›):Sv P w K mg base M8 (k+1) x (N.take n)<|L2.spT tq q<|Uv K n g:=by
 obtain⟨f,fd,a⟩:=a;refine⟨f,fd,?_,u.h a.1,a.2.kp,a.2.fn.binds S.B⟩;subst l;exact a.2.ok S.S (λ_ _ _ _ h=>(K5 h.2).trans S.n) λA outer s H vs Q E j h=>by obtain⟨o,h'⟩:=Lb (N:=N) (f:=f0) h.2;exact⟨_,m S.S.nd h.1 j (Pw j) j.units,h'⟩
theorem qJ(F:Fun K x x st f fd)(h:∀kV g G J i I v,vd (kr x x (Oe st) (W6 st) (Yk st) .none kV g G J i I) ⟨[v],[]⟩=jh [(p,v)])(s v):xq s fd ⟨[v],[]⟩ [(p,v)]:=by obtain⟨j,od,kV,g,G,J,i,I,a,rfl,lk,c⟩:=F.ex;exact .of_eq<|h kV g G J i I v
end
section
variable{X:Cx}{Z:dP X.K}{pos:Pos}{p:Pos}
theorem Bl(u:Und X.K X.mg)(h:∃t,gu X.K f6 x=aA (aA<|.str y t))(a:‹Gl X x›)(hd:‹Nd x›):PE X (.Name x pos)<|liftE Z<|Zb<|.str y:=let⟨_,h⟩:=h;nG (u h) a hd
theorem Bm(u:Und X.K X.mg)(h:∃t,gu X.K f6 x=aA (aA<|.int y t))(a:‹Gl X x›)(hd:‹Nd x›):PE X (.Name x pos)<|liftE Z<|Zb<|.int y:=let⟨_,h⟩:=h;nF (u h) a hd
theorem Zt(S:Sv X.p X.w X.K X.mg X.base M8 k x ps<|Uv X.K n g)(m:dU j X.A)(s:PA X (a::es)<|liftA Z fr)(o:‹k<=j›)(q:‹Gl X x›)(l:‹Nd x›)(r:‹Se X a es›)(f:‹Bk X pos es›):
  PE X (.Call (.Name x p) (a::es) [] pos) (liftE Z<|Z0 n g fr):=
 let⟨_,_,a,b,c,d⟩:=S;((T9 a (m.mono o) q b c d .nil WG s l r f).imp λ_ _ _ h=>TR h)
theorem X5(v:Z.h Q=aA (.tab q))(S:Sv X.p X.w X.K X.mg X.base M8 k x ps<|L2.spT Q q<|Uv X.K n g)(m:dU j X.A)(u:PA X (a::es)<|liftA Z fr)(o:‹k<=j›)(r:‹Gl X x›)(l:‹Nd x›)(s:‹Se X a es›)(f:‹Bk X pos es›):
  PE X (.Call (.Name x p) (a::es) [] pos) (liftE Z<|Z0 n g fr):=
 let⟨_,_,a,b,c,d⟩:=S;L2.qV v a (m.mono o) b c d u r l s f
end
section
variable{X:Cx}{Z:dP X.K}{pos:Pos}{src:À BSrc}{k:Nat}
theorem O1(N')(m:PI X tg iter<|liftI Z fi)(n:∀{C:aq} {a:au} {c:Hp} {ex:À aq} {Y:dP X.K},N'.Nodup->PG (X.block N' scope C a c ex) tg (liftG Y g))(j:∀{C:aq} {a:au} {c:Hp} {ex:À aq},PTs (X.block N' scope C a c ex) ifs<|xT X.K tt)(o:∀{C:aq} {a:au} {c:Hp} {ex:À aq} {Y:dP X.K},PE (X.block N' scope C a c ex) elt<|liftE Y te)(p:‹X.calm=aC›)(S:‹CompScope X N' scope src›)(q:SrcOk src k:=by exact UB _ ι ι)(f:N'.Nodup:=by decide+kernel)(l:‹k∉g.tch›)(hs:‹∀x,md iter X.e x=jh x›):PE X (.ListComp elt [⟨tg,iter,ifs,0⟩] scope pos)<|liftE Z<|Y3 src k fi g tt te:=
 (oF p S m (λ_ _ _ _=>xg λ_=>n f) (λ_ _ _ _=>j) (λ_ _ _ _=>xe λ_=>o) hs).imp λ_ _ _ h=>TK q l h
theorem Wg(i N'){y}{py spos}(w:X.N.Nodup)(p:PI X tg iter<|liftI Z fi)(r:∀{C:aq} {a:au} {c:Hp} {ex:À aq} {Y:dP X.K},N'.Nodup->PG (X.block N' scope C a c ex) tg (liftG Y g))(n:∀{C:aq} {a:au} {c:Hp} {ex:À aq},PTs (X.block N' scope C a c ex) ifs<|xT X.K tt)(u:∀{C:aq} {a:au} {c:Hp} {ex:À aq} {Y:dP X.K},PE (X.block N' scope C a c ex) elt<|liftE Y te)(v:‹X.calm=aC›)(S:‹CompScope X N' scope src›)(z:SrcOk src k:=by exact UB _ ι ι)(l:N'.Nodup:=by decide+kernel)(o:‹k∉g.tch›)(j:‹X.N[i]? =aA y›)(m:‹X.e.scope.names.lookup y=aA .local›)(f:‹i6 (.ListComp elt [⟨tg,iter,ifs,0⟩] scope pos) (aA<|.Name y py) spos.line X.e=jh aC›)(hs:‹∀x,md iter X.e x=jh x›):PS X (.Assign [.Name y py] (.ListComp elt [⟨tg,iter,ifs,0⟩] scope pos) spos)<|liftS Z<|Z1 i<|Y3 src k fi g tt te:=
 (Ky v S p (λ_ _ _ _=>xg λ_=>r l) (λ_ _ _ _=>n) (λ_ _ _ _=>xe λ_=>u) w j m f hs).imp λD σ H h=>by obtain⟨F,δ,own,rv,δ',s,e,q⟩:=WE h;exact TK z o ⟨F,δ,own,rv,δ',s,e,q⟩
end
theorem tG{K}{ns:À Int}(hn:g [.lst (ns.map D.int)]=aA (.fz<|.bl aC))(h:W3 K H a<|ns.map V.int):Uv K 1 g [.ref a] H (λv H'=>v= .bl aC/\Zm H H') λ_ _ _=>False:=by refine⟨H,[.lst (ns.map D.int)],.fz<|.bl aC,Zm.refl H,.cons (.lst h (.inr λd hd=>let⟨i,_,e⟩:=av.mp hd;⟨i,e.symm⟩)<|D7 ns) .nil,rfl,hn,λv H' F' j c _ _ _ f _ _=>?_⟩;cases Q0 f;exact⟨rfl,c⟩
abbrev SZ(l:u6)(x:Str)(k:Nat)(g:À D->Á SV)(tq:aq)(a:Str)(K:ak)(w:gq)(mg:Str->Á am)(fa:aq):Prop:=
 ∃fd:jg,(∀(s:au) (u:am),xq s fd ⟨[u],[]⟩ [(x,u)])/\∀base:ie,K.In base->base.Ns f6 mg->L2.Av mg base->FnOk l.prog w K mg base M8 k fa fd [x] (L2.spT tq a<|Uv K 1 g)
theorem fu{K:wy->ak}(hn:l.most=aA 63)(c:d.params.defaults=[])(s:∀w h,YP w h->(K w.params).In h/\h.get? tq=aA (PySem.W.tabObj #[]))(j:∀p,wx (K p) c0 tq=aC)(m:∀p,(K p).lookup tq=aB)(o:dU k vq)(a:∀ns:À Int,ns.length<=63->g [.lst (ns.map D.int)]=aA (.fz<|.bl aC))(F:∀w mg fa h,(K w.params).In h->h.Ns f6 mg->mg d.name=aA (.ref fa)->SZ l x k g tq qn (K w.params) w mg fa):
  GE q loose XP YP l.row.toRowW d [] (λf vs=>CS f vs):=
 L2.n6 (n:=63) (CX:=M8) (sp:=λK=>Uv K 1 g) hn Γ c o s j m F (λ_ _ _ ns r u=>tG (a ns r) u) λ_ _ _ _ z=>z
abbrev HBX(P:eg)(w:gq)(K:ak)(mg:Str->Á am)(base:ie)(N:À Str)(x:Str)(st:lu)(f:aq)(k:Nat)(c:FS)(a:am):Prop:=
 ∀{A:fj} {outer:À Env} {s:au} {H h:Hp} {E:XK},N.Nodup->True->dU k (A.deeper<|nn x (Yk st) s.heap.objs.size f a)->(A.deeper<|nn x (Yk st) s.heap.objs.size f a).units+1<jf->(A.deeper<|nn x (Yk st) s.heap.objs.size f a).units+64<jf->
  Ma (Rg (Dg P w) P w K mg base N x (Yk st) f a A outer s H E) (W6 st) (liftS (entX H h E:dP K) c)
abbrev HBM(P:eg)(w:gq)(K:ak)(mg:Str->Á am)(base:ie)(N:À Str)(x:Str)(st:lu)(f:aq)(k:Nat)(c:FS)(a:am):Prop:=
 ∀{A:fj} {outer:À Env} {s:au} {H h j:Hp} {E:XK},N.Nodup->True->dU k (A.deeper<|nn x (Yk st) s.heap.objs.size f a)->(A.deeper<|nn x (Yk st) s.heap.objs.size f a).units+1<jf->(A.deeper<|nn x (Yk st) s.heap.objs.size f a).units+64<jf->
  Ma (Rg M8 P w K mg base N x (Yk st) f a A outer s H E).nox (W6 st) (liftS (ent h j:dP K) c)
section
variable{P:eg}{w:gq}{K:ak}{mg:Str->Á am}{base:ie}{x:Str}{st:lu}{f:aq}{fd:jg}
theorem SY(u:UnP P w base K mg)(a:∃f fd,AtF K x st f fd)(k n N g f0)(m:∀{f:aq} {c:am},HBX P w K mg base N x st f k f0 c)(S:‹Sc x st n N›)(l:‹g=YQ f0 N.length›):Sv P w K mg base (Dg P w) (k+1) x (N.take n)<|spX K n g:=by
 obtain⟨f,fd,a⟩:=a;refine⟨f,fd,?_,u.h a.1,a.2.kp,a.2.binds S.B⟩;subst l;exact Fun.okX a.2 S.S (λ_ _ _ _ h=>(pN h).trans S.n) λc A outer s H vs Q E j h=>by obtain⟨o,h⟩:=jV (N:=N) (f:=f0) h;exact⟨_,m S.S.nd trivial j (Pw j) j.units,h⟩
theorem SW(u:UnP P w base K mg)(a:∃f fd,AtF K x st f fd)(k n N g f0)(m:∀{f:aq} {c:am},HBM P w K mg base N x st f k f0 c)(S:‹Sc x st n N›)(l:‹g=YL f0 N.length›)(h1:‹1=(N.take n).length›)(o:‹0<N.length›):Sv P w K mg base M8 (k+1) x (N.take n)<|spM K g:=by
 obtain⟨f,fd,a⟩:=a;refine⟨f,fd,?_,u.h a.1,a.2.kp,a.2.binds S.B⟩;subst l;exact a.2.ok S.S (λ_ _ _ _ h=>(pH h).trans h1) λc A outer s H vs Q E j h=>by obtain⟨p,q,h⟩:=jP (N:=N) (f:=f0) o h;exact⟨_,m S.S.nd trivial j (Pw j) j.units,h⟩
theorem L'(u:UnP P w base K mg)(a:∃f fd,AtF K x st f fd)(k n N)(S:‹Sc x st n N›):
  Sv P w K mg base M8 k x (N.take n) (Uv K n λ_=>aB):=by
 obtain⟨f,fd,a⟩:=a;exact⟨f,fd,(by
  refine⟨λvs H Q E h=>?_,λA outer s H c us vs Q E l m o j h=>?_⟩
  .obtain⟨F,ds,sv,_,_,_,e,_⟩:=h;cases e
  .obtain⟨F,ds,sv,_,_,_,e,_⟩:=h;cases e),u.h a.1,a.2.kp,a.2.binds S.B⟩
theorem Sv.mono(S:Sv P w K mg base CX k x ps sp)(h:k<=k'):Sv P w K mg base CX k' x ps sp:=
 let⟨f,fd,a,b,c,d⟩:=S;⟨f,fd,a.mono h,b,c,d⟩
end
section
variable{X:Cx}{Z:dP X.K}{a:dz}{pos:Pos}{k j n:Nat}{ps:À Str}{x:Str}{p:Pos}{es:À dz}
theorem L_{g:À D->Á XO}{fr:FAX}(S:Sv X.p X.w X.K X.mg X.base (Dg X.p X.w) k x ps<|spX X.K n g)(m:dU j X.A)(l:Du X Z.x)(s:PA X (a::es)<|liftAX Z fr)(o:‹k<=j›)(q:‹Gl X x›)(h:‹Nd x›)(r:‹Se X a es›)(f:‹Bk X pos es›):
  PE X (.Call (.Name x p) (a::es) [] pos) (liftX Z<|WA n g fr):=
 let⟨_,_,a,b,c,d⟩:=S;sJ a (m.mono o) b c d l s q h r f
theorem QH(i){cpos}(S:Sv X.p X.w X.K X.mg X.base M8 k x ps<|spM X.K g)(o:dU j X.A)(s:PE X a<|Bb i)(q:‹k<=j›)(r:‹Gl X x›)(m:‹Nd x›)(n:‹Se X a []›)(l:‹Bk X cpos []›)(f:‹i6 (.Call (.Name x p) [a] [] cpos) aB pos.line X.e=jh aE›):
  PS X (.Expr (.Call (.Name x p) [a] [] cpos) pos) (liftS Z<|Xz i g):=
 let⟨_,_,a,b,c,d⟩:=S;((Q9 (T9 a (o.mono q) r b c d .nil WG (Y8 s Wu n) m n l) f).imp λ_ _ _ h=>yQ h)
end
section
variable{P:eg}{w:gq}{K:ak}{mg:Str->Á am}{base:ie}{x:Str}{st:lu}{f:aq}{fd:jg}
theorem hJ(u:UnP P w base K mg)(a:∃f fd,AtF K x st f fd)(k n N g f0)(m:∀{f:aq} {c:am},HBM P w K mg base N x st f k f0 c)(S:‹Sc x st n N›)(l:‹g=VF f0 N.length›)(h2:‹n- 2+2=n›)(o:‹n- 2+2<=N.length›):Sv P w K mg base M8 (k+1) x (N.take n)<|spV K (n- 2) g:=by
 obtain⟨f,fd,a⟩:=a;refine⟨f,fd,?_,u.h a.1,a.2.kp,a.2.binds S.B⟩;subst l;exact a.2.ok S.S (λ_ _ _ _ h=>(qL h).trans<|h2.trans S.n) λc A outer s H vs Q E j h=>by obtain⟨p,q,h⟩:=kF (N:=N) (f:=f0) o h;exact⟨_,m S.S.nd trivial j (Pw j) j.units,h⟩
end
section
variable{X:Cx}{Z:dP X.K}{pos:Pos}{p:Pos}
theorem qI(i j){cpos}(S:Sv X.p X.w X.K X.mg X.base M8 k x ps<|spV X.K n g)(q:dU m X.A)(v:PA X (a::es)<|Lx Z i j fr)(r:‹k<=m›)(s:‹Gl X x›)(o:‹Nd x›)(u:‹Se X a es›)(l:‹Bk X cpos es›)(f:‹i6 (.Call (.Name x p) (a::es) [] cpos) aB pos.line X.e=jh aE›):
  PS X (.Expr (.Call (.Name x p) (a::es) [] cpos) pos) (liftS Z<|Ly i j n g fr):=
 let⟨_,_,a,b,c,d⟩:=S;((Q9 (T9 a (q.mono r) s b c d .nil WG v o u l) f).imp λ_ _ _ h=>qK h)
theorem qH(S:Sv X.p X.w X.K X.mg X.base (Dg X.p X.w) k x ps<|spX X.K n g)(o:dU m X.A)(u:PA X (a::es)<|liftA Z fr)(q:‹k<=m›)(j:‹Gl X x›)(l:‹Nd x›)(s:‹Se X a es›)(f:‹Bk X pos es›):
  PE X (.Call (.Name x p) (a::es) [] pos) (liftE Z<|Z0 n (YO g) fr):=
 let⟨_,_,a,b,c,d⟩:=S;((T9 (sp:=Uv X.K n<|YO g) (CX:=Dg X.p X.w) (a.imp λ_ _ _ _ h=>by
   obtain⟨a,ds,sv,le,r,hn,e,k⟩:=h;unfold YO at e;split at e
   .rename_i j;cases e;exact⟨a,ds,.v sv,le,r,hn,j,k⟩
   .cases e) (o.mono q) j b c d .nil xS u l s f).imp λ_ _ _ h=>TR h)
end
end L2
namespace My
open L2
theorem Zz(h:n<=16777216):n<=PySem.sizeLine:=h
theorem Ya(h:n<16777216):n<PySem.sizeLine:=h
theorem Z2(a b:Str):(a++b).length=a.length+b.length:=by show(a.cps++b.cps).size=a.cps.size+b.cps.size;simp
theorem pfx{a:Str}(h:(a++b).length+n<=dg):a.length+b.length<=PySem.sizeLine:=by rw[<-Z2];exact Nat.le_of_add_right_le h
theorem dF(c):(⟨#[c]⟩:Str).length=1:=rfl
theorem Aw:∀xs:À Str,xu (xs.map D.str)=aA xs
 | []=>rfl
 |x::r=>by simp[Aw r]
theorem qG(ns:À Int)(lo hi):∃g:À Int,Ai (ns.map D.int) lo hi=g.map D.int/\g.length<=ns.length:=by unfold Ai;refine⟨(ns.drop _).take _,by rw[GG,List.map_drop],?_⟩;rw[om,oo,aj];exact fg (um _ _)<|II _ _
noncomputable def Ux:List Str->Str
 | []=>""
 |x::r=>x++Ux r
theorem JH:∀xs,g5 (aa "") xs=Ux xs
 | []=>rfl
 | [x]=>by show x=x++dy;rw[ju]
 |x::y::r=>by show x++dy++g5 (aa "") (y::r)=x++Ux (y::r);rw[ju,JH (y::r)]
theorem UT(xs):tf (aa "") xs=Ux xs:=(StrLaws.glued_eq_join _ xs).trans<|JH xs
theorem US(h:∀x∈xs,x.length<=B)(hz:xs.length*B+xs.length*sep.length<=16777216):wb sep xs=aC:=by unfold wb;rw[StrLaws.joinFits h hz];rfl
theorem n3(xs)(h:∀x∈xs,x.length<=B):(g5 sep xs).length<=xs.length*B+xs.length*sep.length:=by
 have h1:=StrLaws.join_length_le sep xs;have h2:(xs.map (·.length)).sum<=xs.length*B:=by
  clear h1;induction xs with
  |nil=>simp
  |cons x r c=>have a:=h x ac;have b:=c λy f=>h y<|ag _ f;rw[cg,List.sum_cons,ca,GY];lia
 lia
theorem Ax{te:FE}:∀xs ys,(∀x∈xs,∀zs,te [aA (.fz x),aA<|.ol zs]=aA (.tmp<|.fz<|f x,[aA (.fz x),aA<|.ol zs]))->ys.length+xs.length<=16777216->
  Z7 [.own,.acc] 1 (Zj 0) Y1 te xs [aB,aA<|.ol ys]=aA [aB,aA<|.ol<|ys++xs.map f]
 | [],ys,_,_=>Δ
 |x::xs,ys,h,hl=>by rw[ca]at hl;have a:=Ax (te:=te) (f:=f) xs (ys++[f x]) (λy c=>h y<|ag _ c) τ;have l:=h x ac ys;have j:ys.length<PySem.sizeLine:=Ya Θ;simp[l,j];simpa using a
theorem JG{te:FE}:∀xs ys,(∀x∈xs,∀zs,te [aA (.fz x),c,aA<|.ol zs]=aA (.tmp<|.fz<|f x,[aA (.fz x),c,aA<|.ol zs]))->ys.length+xs.length<=16777216->
  Z7 [.own,.cap j,.acc] 2 (Zj 0) Y1 te xs [aB,c,aA<|.ol ys]=aA [aB,c,aA<|.ol<|ys++xs.map f]
 | [],ys,_,_=>Δ
 |x::xs,ys,h,hl=>by rw[ca]at hl;have a:=JG (te:=te) (f:=f) (c:=c) (j:=j) xs (ys++[f x]) (λy l=>h y<|ag _ l) τ;have n:=h x ac ys;have m:ys.length<PySem.sizeLine:=Ya Θ;simp[n,m];simpa using a
theorem Th:∀xs,(∀x∈xs,f x x=aA aC)->Am f xs xs=aA aC
 | [],_=>rfl
 |x::r,h=>by simp[h x ac,Th r λy a=>h y<|ag _ a]
end My
namespace My
open L2 StrLaws Builtin.Str
def gap(n:Nat):Nat->List Nat->Prop
 |_,[]=>True
 |a,p::r=>a<=p/\gap n (p+n) r
theorem X6:∀{a:Nat} {P:À Nat},gap n a P->∀i∈P,a<=i
 |_,[],_,i,h=>nomatch h
 |a,p::r,g,i,h=>by
  rcases az.mp h with e|e
  .rw[e];exact g.1
  .have:=X6 g.2 i e;have:=g.1;lia
theorem UR(s sub hi limit)(hn:1<=sub.length):∀m a G free P,gap sub.length free P->(∀i∈P,a<=i/\i<a+m)->
  (∀i,a<=i->((free<=i/\At s sub hi i)↔i∈P))->
  (forIn (xc a m) (G,free)<|occBody s sub hi limit).run.fst.toList=G.toList++P.take (limit- G.size)
 |0,a,G,free,P,g,hb,hm=>by
  have:P=[]:=by
   cases P with
   |nil=>rfl
   |cons p r=>have:=hb p ac;lia
  subst this;simp
 |m+1,a,G,free,P,g,hb,hm=>by
  rw[wz,po];unfold occBody;by_cases n:G.size<limit
  .by_cases j:a∈P
   .obtain⟨h1,h2,u⟩:=(hm a<|cj _).mpr j;rw[dZ ⟨⟨⟨n,h1⟩,h2⟩,u⟩];obtain⟨q,rfl⟩:∃q,P=a::q:=by
     cases P with
     |nil=>cases j
     |cons p r=>
      rcases az.mp j with e|e
      .exact⟨r,by rw[e]⟩
      .have:=X6 g.2 a e;have:=(hb p ac).1;lia
    have f:=UR s sub hi limit hn m (a+1) (G.push a) (a+sub.length) q g.2 (λi c=>by
      have o:=X6 g.2 i c;have z2:=(hb i<|ag _ c).2;lia) (λi c=>by
      constructor
      .rintro⟨o,z2⟩;have:=(hm i Θ).mp ⟨Θ,z2⟩;rcases az.mp this with e|e
       .lia
       .exact e
      .intro z;have o:=X6 g.2 i z;exact⟨o,((hm i Θ).mpr<|ag _ z).2⟩)
    refine Eq.trans f ?_;rw[Array.toList_push,EY,L2.sy n,List.take_succ_cons,f9];rfl
   .rw[dY λz=>j<|(hm a<|cj _).mp ⟨z.1.1.2,z.1.2,z.2⟩];refine UR s sub hi limit hn m (a+1) G free P g (λi c=>?_)<|λi c=>hm i Θ;have z:=hb i c;have:i≠a:=λe=>j (by rw[<-e];exact c);lia
  .rw[dY λz=>n z.1.1.1];have v:limit- G.size=0:=π
   have f:∀(l:À Nat) (st:Array Nat×Nat),¬st.fst.size<limit->(forIn l st<|occBody s sub hi limit).run.fst=st.fst:=by
    intro l;induction l with
    |nil=>intro st _;rfl
    |cons x l f=>intro st h;rw[po];unfold occBody;rw[dY λz=>h z.1.1.1];exact f _ h
   have:=f (xc (a+1) m) (G,free) n;refine Eq.trans (congrArg AQ this) ?_;rw[v];simp
theorem tF(x y limit P)(hn:1<=y.length)(g:gap y.length 0 P)(a:∀i,At x y x.length i↔i∈P):occurrences x y 0 x.length limit=P.take limit:=by
 rw[occ_eq];have:=UR x y x.length limit hn (x.length+1- 0) 0 #[] 0 P g (λi c=>by
  have:=((a i).mpr c).1;lia) (λi _=>by rw[<-a i];simp)
 simpa using this
noncomputable def jl(y:List Nat):List (List Nat)->List Nat
 | []=>[]
 | [p]=>p
 |p::q::r=>p++y++jl y (q::r)
noncomputable def pos(n:Nat):Nat->List (List Nat)->List Nat
 |_,[]=>[]
 |_,[_]=>[]
 |a,p::q::r=>(a+p.length)::pos n (a+p.length+n) (q::r)
theorem L4(n):∀a ps,gap n a (pos n a ps)
 |_,[]=>j9
 |_,[_]=>j9
 |a,p::q::r=>⟨EJ _ _,L4 n _ (q::r)⟩
theorem SU(f:∀j,y[j]? =aA c->j=o):∀ps a j,(∀p∈ps,c∉p)->(jl y ps)[j]? =aA c->∃i∈pos y.length a ps,a+j=i+o
 | [],a,j,_,e=>by simp[jl]at e
 | [p],a,j,hp,e=>dt (gh e)<|hp p ac
 |p::q::r,a,j,hp,e=>by
  have e:(p++y++jl y (q::r))[j]? =aA c:=e;by_cases h1:j<p.length
  .rw[f9,ix h1]at e;exact dt (gh e)<|hp p ac
  .by_cases h2:j<p.length+y.length
   .rw[f9,jb Θ,ix π]at e;have:=f _ e;exact⟨a+p.length,ac,π⟩
   .rw[jb (by rw[ax];lia),ax]at e;obtain⟨i,h,l⟩:=SU f (q::r) (a+p.length+y.length) _ (λz hz=>hp z<|ag _ hz) e;exact⟨i,ag _ h,π⟩
theorem OW:∀ps a i,i∈pos y.length a ps->a<=i/\i- a+y.length<=(jl y ps).length/\((jl y ps).drop<|i- a).take y.length=y
 | [],_,_,h=>nomatch h
 | [_],_,_,h=>nomatch h
 |p::q::r,a,i,h=>by
  show a<=i/\i- a+y.length<=(p++y++jl y (q::r)).length/\((p++y++jl y (q::r)).drop<|i- a).take y.length=y;rcases az.mp h with e|e
  .subst e;rw[ax,ax,show a+p.length- a=p.length by lia];refine⟨Θ,Θ,?_⟩;rw[f9,vj,yb]
  .obtain⟨f,z2,c⟩:=OW (q::r) (a+p.length+y.length) i e;obtain⟨d,rfl⟩:=Nat.exists_eq_add_of_le f;rw[Nat.add_sub_cancel_left]at z2 c;rw[ax,ax];refine⟨Θ,Θ,?_⟩;rw[show a+p.length+y.length+d- a=(p++y).length+d by rw[ax];lia,<-FV,vj];exact c
theorem Ic(y):∀ps,(g5 y ps).cps.toList=jl y.cps.toList (ps.map λp=>p.cps.toList)
 | []=>rfl
 | [p]=>rfl
 |p::q::r=>by show(p++y++g5 y (q::r)).cps.toList=p.cps.toList++y.cps.toList++jl y.cps.toList ((q::r).map λp=>p.cps.toList);rw[<-Ic y (q::r)];simp[qa]
theorem Qd(x:Str):x.cps.toList.length=x.length:=by simp[IF]
structure Sep(y:Str)(c o:Nat):Prop where
 at':y.cps.toList[o]? =aA c
 one:∀j,y.cps.toList[j]? =aA c->j=o
theorem Sep.pos(S:Sep y c o):1<=y.length:=by have:=(ci.mp S.at').1;rw[Qd]at this;lia
theorem OV(S:Sep y c o)(ps)(n:∀p∈ps,c∉p.cps.toList)(i):At (g5 y ps) y (g5 y ps).length i↔i∈pos y.length 0 (ps.map λp=>p.cps.toList):=by
 have l:=Ic y ps;have a:=Qd y;constructor
 .rintro⟨h1,h2⟩;rw[subAt_eq]at h2;have h2:=eq_of_beq h2;have s:(jl y.cps.toList<|ps.map λp=>p.cps.toList)[i+o]? =aA c:=by
   have z:=S.at';rw[<-h2,List.getElem?_take]at z;split at z
   .rw[List.getElem?_drop]at z;rw[<-l];exact z
   .cases z
  obtain⟨j,r,e⟩:=SU S.one (ps.map λp=>p.cps.toList) 0 (i+o) (λq m=>by
   obtain⟨p,h,rfl⟩:=av.mp m;exact n p h) s
  have:i=j:=Θ
  rw[this,<-a];exact r
 .intro h;rw[<-a]at h;obtain⟨u,z2,f⟩:=OW _ 0 i h;rw[<-l]at z2 f;have hz:=Qd<|g5 y ps;refine⟨by assumption,?_⟩;rw[subAt_eq,<-a];simpa using f
theorem Ay(S:Sep y c o)(ps)(a:∀p∈ps,c∉p.cps.toList)(limit):
  occurrences (g5 y ps) y 0 (g5 y ps).length limit=(pos y.length 0<|ps.map λp=>p.cps.toList).take limit:=
 tF _ _ _ _ S.pos (L4 _ _ _) (OV S ps a)
theorem Az(x l i j)(h:(x.cps.toList.drop i).take (j- i)=l):strSub x i j=⟨l.toArray⟩:=by apply Str.ext';apply w9.mp;rw[strSub_toList,h]
theorem JF(x):∀ps a,ps≠[]->x.cps.toList.drop a=jl y ps->a<=x.length->partsFrom x y.length a (pos y.length a ps)=ps.map λp=>⟨p.toArray⟩
 | [],_,h,_,_=>dt rfl h
 | [p],a,_,e,ha=>by
  show[strSub x a x.length]=[⟨p.toArray⟩]
  rw[Az x p a x.length (by
   rw[e];show p.take _=p;have:=congrArg p9 e;rw[oo,Qd]at this;have c:(jl y [p]).length=p.length:=rfl;rw[c]at this;rw[this];exact List.take_length)]
 |p::q::r,a,_,e,ha=>by
  have e:x.cps.toList.drop a=p++y++jl y (q::r):=e;show strSub x a (a+p.length)::partsFrom x y.length (a+p.length+y.length) (pos y.length (a+p.length+y.length) (q::r))=⟨p.toArray⟩::((q::r).map λp=>⟨p.toArray⟩)
  have l1:=congrArg p9 e;rw[oo,Qd,ax,ax]at l1;rw[Az x p a (a+p.length)<|by rw[e,show a+p.length- a=p.length by lia,f9,yb]];rw[JF x (q::r) (a+p.length+y.length) Δ (by
   rw[show a+p.length+y.length=a+(p++y).length by rw[ax];lia,<-FV,e,vj]) Θ]
theorem hI(ps:À Str):(ps.map λp=>p.cps.toList).map (λp=>(⟨p.toArray⟩:Str))=ps:=by rw[f7];have:∀p:Str,((λp=>(⟨p.toArray⟩:Str))∘λp:Str=>p.cps.toList) p=p:=λp=>rfl;rw[kj<|λp _=>this p,AJ]
theorem qF:∀{ps:À (À Nat)},pos n a ps=[]->ps=[]\/∃p,ps=[p]
 | [],_=>.inl rfl
 | [p],_=>.inr ⟨p,rfl⟩
theorem iA(S:Sep y c o)(l:o5 y=1)(ps)(h0:ps≠[])(a:∀p∈ps,c∉p.cps.toList):qu (g5 y ps) y=ps:=by
 have m:occurrences (g5 y ps) y 0 (g5 y ps).length ((g5 y ps).length+1)=pos y.length 0 (ps.map λp=>p.cps.toList):=by have h1:=Ay S ps a<|(g5 y ps).length+1;have h2:=Ay S ps a<|((g5 y ps).length+1)+(pos y.length 0<|ps.map λp=>p.cps.toList).length;rw[kx<|Nat.le_add_left _ _]at h2;have n:=occ_length_le_len (g5 y ps) y 0 (g5 y ps).length<|((g5 y ps).length+1)+(pos y.length 0<|ps.map λp=>p.cps.toList).length;rw[h2]at n;rw[h1,kx π]
 have one:pos y.length 0 (ps.map λp=>p.cps.toList)=[]->g5 y ps=ps.headD dy/\[ps.headD dy]=ps:=λe=>by
  rcases qF e with z|⟨p,z⟩
  .exact dt (List.map_eq_nil_iff.mp z) h0
  .match ps,z with
   | [q],_=>exact⟨rfl,rfl⟩
 unfold qu;by_cases hs:(decide ((g5 y ps).length<y.length)||decide (o5 (g5 y ps)<o5 y))=aC
 .rw[dZ hs];have j:(g5 y ps).length<y.length:=by
   rw[l]at hs;have:=PyProof.Rows.strKind_pos<|g5 y ps;rcases Bool.or_eq_true_iff.mp hs with z|z
   .exact da z
   .have:=da z;lia
  have e:pos y.length 0 (ps.map λp=>p.cps.toList)=[]:=by
   cases h:pos y.length 0 (ps.map λp=>p.cps.toList)with
   |nil=>rfl
   |cons i r=>have:=((OV S ps a i).mpr (by rw[h];exact ac)).1;lia
  rw[(one e).1];exact(one e).2
 .rw[dY hs,m];by_cases f:(pos y.length 0<|ps.map λp=>p.cps.toList).isEmpty=aC
  .rw[dZ f];have e:=List.isEmpty_iff.mp f;rw[(one e).1];exact(one e).2
  .rw[dY f,partsBetween_eq];have z:=JF (y:=y.cps.toList) (g5 y ps) (ps.map λp=>p.cps.toList) 0 (by simpa using h0) (by rw[oh];exact Ic y ps)<|gr _;rw[Qd,hI]at z;exact z
theorem JE(S:Sep y c o)(p)(f:c∉p.cps.toList):iu p y=(p,dy,dy):=by have h1:=Ay S [p] (λq a=>by rw[ao.mp a];exact f) 1;unfold iu;rw[show g5 y [p]=p from rfl]at h1;rw[h1];rfl
end My
namespace My
open L2
theorem Yl(h1:tg.run d δ=aA δ1)(h2:body δ1=aA (.nx δ2)):Yq tg body (d::ds) δ=Yq tg body ds δ2:=by show(tg.run d δ).bind _=_;rw[h1,i5,h2,i5]
theorem Kd(h1:tg.run d δ=aA δ1)(h2:body δ1=aA (.rt sv)):Yq tg body (d::ds) δ=aA (.rt sv):=by show(tg.run d δ).bind _=_;rw[h1,i5,h2,i5]
theorem S4(h1:t δ=aA (aC,δ1))(h2:b δ1=aA (.nx δ2)):Qj t b (n+1) δ=Qj t b n δ2:=by show(t δ).bind _=_;rw[h1,i5];show(b δ1).bind _=_;rw[h2,i5]
theorem Lz(h1:t δ=aA (aE,δ1)):Qj t b (n+1) δ=aA (.nx δ1):=by show(t δ).bind _=_;rw[h1,i5]
noncomputable abbrev S(l:List Nat):Str:=⟨l.toArray⟩
theorem QG(l):(S l).length=l.length:=by show l.toArray.size=_;simp
theorem VZ(a b):S a++S b=S (a++b):=by
 show(⟨a.toArray++b.toArray⟩:Str)=⟨(a++b).toArray⟩
 simp
theorem yO(h:S a=S b):a=b:=by have:a.toArray=b.toArray:=congrArg Str.cps h;simpa using this
theorem hG(x):x=S x.cps.toList:=by cases x;simp
theorem tE(l):(S l).cps.toList=l:=Δ
theorem Ke(p)(c:α):L2.atI (p++[c]) (-1)=aA c:=by
 unfold L2.atI L2.ixN;rw[ax,dv,dY Γ,dZ Θ];have e:(-1+((p.length+1:Nat):Int)).toNat=p.length:=Θ
 rw[e];simp
theorem Wh(p)(i:Nat)(c:α)(h:p[i]? =aA c):L2.atI p (i:Int)=aA c:=by have a:=(ci.mp h).1;unfold L2.atI L2.ixN;rw[dZ Θ,dZ Θ];simpa using h
section
variable{κ:Type}[DecidableEq κ]
theorem JD(k k' v):∀(ks:À κ) vs,k∈ks->ks.length=vs.length->Z5 ks ((ks.zip vs).map λp=>if p.1=k then v else p.2) k'=if k=k' then aA v else Z5 ks vs k'
 |a::ks,u::vs,hk,hl=>by
  rw[m8,cg];show(if a=k' then aA (if a=k then v else u)else Z5 ks ((ks.zip vs).map λp=>if p.1=k then v else p.2) k')=if k=k' then aA v else(if a=k' then aA u else Z5 ks vs k')
  by_cases j:a=k'
  .subst j;rw[dZ rfl,dZ rfl];by_cases f:a=k
   .subst f;rw[dZ rfl,dZ rfl]
   .rw[dY f,dY λe=>f e.symm]
  .rw[dY j,dY j];by_cases l:k∈ks
   .exact JD k k' v ks vs l ω
   .have m:k=a:=by
     rcases az.mp hk with e|e
     .exact e
     .exact dt e l
    rw[dY λe=>j<|m.symm.trans e];have:((ks.zip vs).map λp=>if p.1=k then v else p.2)=vs:=by
     have c:ks.length=vs.length:=by simpa using hl
     clear hk hl j;induction ks generalizing vs with
     |nil=>cases vs with
      |nil=>rfl
      |cons _ _=>simp at c
     |cons b ks n=>cases vs with
      |nil=>simp at c
      |cons w vs=>rw[m8,cg,dY λe=>l (by rw[<-e];exact ac),n vs (λh=>l<|ag _ h) μ]
    rw[this]
 | [],_,hk,_=>nomatch hk
theorem S5(k k' v):∀(ks:À κ) vs,k∉ks->ks.length=vs.length->Z5 (ks++[k]) (vs++[v]) k'=if k=k' then aA v else Z5 ks vs k'
 | [],[],_,_=>by show(if k=k' then aA v else aB)=_;rfl
 |a::ks,u::vs,hk,hl=>by
  show(if a=k' then aA u else Z5 (ks++[k]) (vs++[v]) k')=if k=k' then aA v else(if a=k' then aA u else Z5 ks vs k')
  by_cases c:a=k'
  .rw[dZ c,dZ c,dY λe=>hk (by rw[e,<-c];exact ac)]
  .rw[dY c,dY c];exact S5 k k' v ks vs (λh=>hk<|ag _ h) ω
theorem n1(k k' v)(ks:À κ)(vs)(a:ks.length=vs.length):Z5 (Y2 ks vs k v).1 (Y2 ks vs k v).2 k'=if k=k' then aA v else Z5 ks vs k':=by
 unfold Y2;split
 .rename_i h;exact JD k k' v ks vs h a
 .rename_i h;exact S5 k k' v ks vs h a
theorem qE(k v)(ks:À κ)(vs)(a:ks.length=vs.length):(Y2 ks vs k v).1.length=(Y2 ks vs k v).2.length/\(Y2 ks vs k v).2.length<=vs.length+1:=by
 unfold Y2;split
 .simp[a]
 .simp[a]
end
noncomputable abbrev Cr(s n:Nat):List D:=(xc s n).map λi:Nat=>D.int (i:Int)
theorem Jk(n):K4 0 n=Cr 0 n:=by unfold K4;rw[List.range_eq_range'];refine kj λi _=>?_;simp
theorem Ie{P:Nat->Y5->Prop}:∀n s δ,P s δ->(∀i,s<=i->i<s+n->∀δ,P i δ->∃δ1 δ2,tg.run (.int (i:Int)) δ=aA δ1/\body δ1=aA (.nx δ2)/\P (i+1) δ2)->
  ∃δ',Yq tg body (Cr s n) δ=aA (.nx δ')/\P (s+n) δ'
 |0,s,δ,h,_=>⟨δ,rfl,h⟩
 |n+1,s,δ,h,k=>by obtain⟨δ1,δ2,h1,h2,a⟩:=k s (cj _) Θ δ h;obtain⟨δ',e,h'⟩:=Ie (tg:=tg) (body:=body) (P:=P) n (s+1) δ2 a λi f c=>k i Θ Θ;refine⟨δ',?_,by rw[show s+(n+1)=s+1+n by lia];exact h'⟩;show Yq tg body (.int (s:Int)::Cr (s+1) n) δ=_;rw[Yl h1 h2];exact e
noncomputable def Uy(i:Nat):List D->List D
 | []=>[]
 |x::r=>.tup [.int (i:Int),x]::Uy (i+1) r
theorem u_(xs):∀i,((xs.zipIdx i).map λp=>D.tup [.int (p.2:Nat),p.1])=Uy i xs:=by
 induction xs with
 |nil=>intro i;rfl
 |cons x r a=>intro i;rw[List.zipIdx_cons,cg,a];rfl
theorem C7(xs):K7 xs=Uy 0 xs:=u_ xs 0
theorem S6(r:À Str):(r.map D.str).all D.isFlat=aC:=by rw[ky];simp
theorem X7(t)(r:À Str):Pb (.str t) (r.map D.str)=decide (t∈r):=by
 unfold Pb;induction r with
 |nil=>rfl
 |cons x r a=>
  rw[cg,o8,a,JT];by_cases h:x=t
  .subst h;simp
  .have h':¬t=x:=λe=>h e.symm;simp[h,h']
theorem S7(t)(r:À Str)(h:t∈r):((r.map D.str).findIdx? λy=>ZZ y<|.str t)=aA (r.findIdx λx=>decide (x=t)):=by
 induction r with
 |nil=>cases h
 |cons x r c=>
  rw[cg,lj,JT,t9];by_cases a:x=t
  .simp[a]
  .have f:t∈r:=by
    rcases az.mp h with e|e
    .exact dt e.symm a
    .exact e
   rw[c f];simp[a]
theorem Mf{st:À D->Y5}:∀ds ys,
  (∀d∈ds,∀zs i,zs.length<dg->Z7 src k g tt te (d::i) (st zs)=Z7 src k g tt te i (st<|zs++(f d).toList))->ys.length+ds.length<=16777216->
  Z7 src k g tt te ds (st ys)=aA (st<|ys++ds.filterMap f)
 | [],ys,_,_=>Δ
 |d::ds,ys,h,hl=>by
  rw[ca]at hl;rw[h d ac ys ds<|Ya Θ];have hz:(f d).toList.length<=1:=by cases f d<;> simp
  rw[Mf ds (ys++(f d).toList) (λx a=>h x<|ag _ a) (by rw[ax];lia),f9];congr 3;cases hd:f d with
  |none=>rw[jm hd];rfl
  |some v=>rw[ji hd];rfl
theorem X8(n xs)(h:∀x∈xs,Tz n x x=aA aC):Tz (n+1) (.lst xs) (.lst xs)=aA aC:=by simp[Th xs h]
theorem M_(n xs)(h:∀x∈xs,Tz n x x=aA aC):Tz (n+1) (.tup xs) (.tup xs)=aA aC:=by simp[Th xs h]
theorem A6(n x):Tz (n+1) (.str x) (.str x)=aA aC:=Δ
theorem vU(xs)(m:Nat)(h:m<=xs.length):Ai xs aB (aA (m:Int))=xs.take m:=by unfold Ai HT.sIx;dsimp only;rw[dY Θ,oh];congr 1;exact EU h
theorem nl(xs)(m:Nat)(h:m<=xs.length):Ai xs (aA (m:Int)) aB=xs.drop m:=by unfold Ai HT.sIx;dsimp only;rw[dY Θ,show min ((m:Int)).toNat xs.length=m from EU h];rw[kx (by rw[oo];lia)]
theorem B8(l:À α)(x n)(h:(l.length:Int)=n)(hn:0<n):∃c,c∈l/\L2.atI l (x % n)=aA c:=by
 have h0:0<=x % n:=kc _ π;have h1:x % n<n:=g7 _ hn;obtain⟨j,f⟩:=uv h0;have a:j<l.length:=Θ
 rw[f];exact⟨l[j],oq a,Wh _ _ _<|cf a⟩
end My
namespace My
open L2 StrLaws Builtin.Str
theorem Fd(c):∀l,∃g,g≠[]/\(∀p∈g,c∉p.cps.toList)/\S l=g5 (S [c]) g
 | []=>⟨[S []],Δ,Δ,rfl⟩
 |d::l=>by
  obtain⟨g,h1,h2,h⟩:=Fd c l;have e:S (d::l)=S [d]++S l:=(VZ [d] l).symm;cases g with
  |nil=>exact dt rfl h1
  |cons q r=>
   by_cases hd:d=c
   .subst hd;refine⟨S []::q::r,Δ,λp a=>?_,?_⟩
    .rcases az.mp a with a|a
     .rw[a];simp
     .exact h2 p a
    .show S (d::l)=S []++S [d]++g5 (S [d]) (q::r);rw[<-h,e,VZ [] [d]];rfl
   .refine⟨(S [d]++q)::r,Δ,λp a=>?_,?_⟩
    .rcases az.mp a with a|a
     .rw[a];have:(S [d]++q).cps.toList=d::q.cps.toList:=by simp[qa]
      rw[this,az];exact λz=>z.elim (λz=>hd z.symm)<|h2 q ac
     .exact h2 p (ag _ a)
    .rw[e,h];cases r with
     |nil=>rfl
     |cons f r=>show S [d]++(q++S [c]++g5 (S [c]) (f::r))=(S [d]++q)++S [c]++g5 (S [c]) (f::r);simp only[i4]
theorem Kf(c):Sep (S [c]) c 0:=⟨Δ,λj h=>by
 cases j with
 |zero=>rfl
 |succ j=>simp at h⟩
theorem Ti(c p q)(s:c∉p.cps.toList):iu (p++S [c]++q) (S [c])=(p,S [c],q):=by
 have x:=Kf c;obtain⟨a,m,l,h⟩:=Fd c q.cps.toList;rw[<-hG q]at h;have h1:=Ay x (p::a) (λz hz=>by
  rcases az.mp hz with e|e
  .rw[e];exact s
  .exact l z e) 1
 obtain⟨j,r,f⟩:∃j r,a=j::r:=by
  cases a with
  |nil=>exact dt rfl m
  |cons j r=>exact⟨j,r,rfl⟩
 have u:g5 (S [c]) (p::a)=p++S [c]++q:=by rw[h,f];rfl
 rw[u]at h1;have e:(pos (S [c]).length 0<|(p::a).map λp=>p.cps.toList).take 1=[p.length]:=by
  rw[f];show[0+p.cps.toList.length]=[p.length]
  rw[Qd,oi]
 rw[e]at h1;have o:(p++S [c]++q).cps.toList=p.cps.toList++(S [c]).cps.toList++q.cps.toList:=by simp[qa]
 have n:(p++S [c]++q).length=p.length+(S [c]).length+q.length:=by rw[Z2,Z2]
 unfold iu;rw[h1];have w:=Az (p++S [c]++q) p.cps.toList 0 p.length (by rw[oh,AH,o,f9,<-Qd p,yb]);have v:=Az (p++S [c]++q) q.cps.toList (p.length+(S [c]).length) (p++S [c]++q).length (by
  rw[o,n,show p.length+(S [c]).length=(p.cps.toList++(S [c]).cps.toList).length by rw[ax,Qd,Qd],vj];exact kx (by rw[Qd];(clear n;lia)))
 show(strSub (p++S [c]++q) 0 p.length,S [c],strSub (p++S [c]++q) (p.length+(S [c]).length) (p++S [c]++q).length)=(p,S [c],q)
 rw[w,v]
theorem S8(y x):∀xs,g5 y (x::xs)=x++Ux (xs.map λz=>y++z)
 | []=>by show x=x++dy;rw[ju]
 |z::r=>by
  show x++y++g5 y (z::r)=x++(y++z++Ux (r.map λz=>y++z))
  rw[S8 y z r];simp only[i4]
theorem X9:∀a b,Ux (a++b)=Ux a++Ux b
 | [],b=>by show Ux b=dy++Ux b;rw[ww]
 |x::a,b=>by show x++Ux (a++b)=(x++Ux a)++Ux b;rw[X9 a b,i4]
end My
namespace My
open L2
abbrev Zr(xs:À Str):À L2.Key:=xs.map Sum.inr
theorem W2(k):∀xs vs,Z5 (Zr xs) vs (Sum.inr k)=Z5 xs vs k
 | [],[]=>rfl
 | [],_::_=>rfl
 |_::_,[]=>rfl
 |x::xs,v::vs=>by
  show(if(Sum.inr x:L2.Key)=Sum.inr k then aA v else Z5 (Zr xs) vs<|Sum.inr k)=if x=k then aA v else Z5 xs vs k;rw[W2 k xs vs];by_cases h:x=k
  .rw[dZ h,dZ<|by rw[h]]
  .rw[dY h,dY λe=>h<|Sum.inr.inj e]
theorem Cs(k v xs vs):Y2 (Zr xs) vs (Sum.inr k) v=(Zr (Y2 xs vs k v).1,(Y2 xs vs k v).2):=by
 have c:((Sum.inr k:L2.Key)∈Zr xs)↔k∈xs:=by
  constructor
  .intro h;obtain⟨y,j,e⟩:=av.mp h;rw[<-Sum.inr.inj e];exact j
  .exact λh=>av.mpr ⟨k,h,rfl⟩
 unfold Y2;by_cases h:k∈xs
 .rw[dZ h,dZ<|c.mpr h];congr 1;have:∀(xs:À Str) (vs:À D),((Zr xs).zip vs).map (λp=>if p.1=(Sum.inr k:L2.Key)then v else p.2)=(xs.zip vs).map λp=>if p.1=k then v else p.2:=by
   intro xs;induction xs with
   |nil=>intro vs;rfl
   |cons x xs f=>
    intro vs;cases vs with
    |nil=>rfl
    |cons u vs=>
     show(if(Sum.inr x:L2.Key)=Sum.inr k then v else u)::((Zr xs).zip vs).map (λp=>if p.1=(Sum.inr k:L2.Key)then v else p.2)=(if x=k then v else u)::(xs.zip vs).map λp=>if p.1=k then v else p.2;rw[f vs];by_cases a:x=k
     .rw[dZ a,dZ<|by rw[a]]
     .rw[dY a,dY λe=>a<|Sum.inr.inj e]
  exact this xs vs
 .rw[dY h,dY λe=>h<|c.mp e];simp[Zr]
theorem JC{xs:À Str}(h:k∉xs):Y2 xs vs k v=(xs++[k],vs++[v]):=by unfold Y2;rw[dY h]
structure Dic(xs:À Str)(vs:À D):Prop where
 nd:xs.Nodup
 len:xs.length=vs.length
theorem nk:∀{vs:À D},xs.Nodup->xs.length=vs.length->∀(i:Nat) (x:Str) v,xs[i]? =aA x->vs[i]? =aA v->Z5 xs vs x=aA v:=by
 induction xs with
 |nil=>intro vs _ _ i x v h;simp at h
 |cons y xs m=>
  intro vs f o i x v a c;cases vs with
  |nil=>simp at c
  |cons u vs=>
   obtain⟨l,j⟩:=fm.mp f;show(if y=x then aA u else Z5 xs vs x)=aA v;cases i with
   |zero=>simp at a c;rw[dZ a,c]
   |succ i=>simp at a c;have n:=gh a;rw[dY λe=>l (by rw[e];exact n)];exact m j (by simpa using o) i x v a c
theorem JB:∀{vs:À D} {x:Str} {v:D},Z5 xs vs x=aA v->v∈vs:=by
 induction xs with
 |nil=>intro vs x v h;cases vs<;> cases h
 |cons y xs a=>
  intro vs x v h;cases vs with
  |nil=>cases h
  |cons u vs=>
   have h:(if y=x then aA u else Z5 xs vs x)=aA v:=h;split at h
   .cases h;exact ac
   .exact ag _ (a h)
theorem JA:∀xs,strK? (Zr xs)=aA xs
 | []=>rfl
 |x::xs=>by show(strK?<|Zr xs).bind (λt=>aA (x::t))=aA (x::xs);rw[JA xs];rfl
theorem S9:∀xs vs,(∀(i:Nat) x v,xs[i]? =aA x->vs[i]? =aA v->Z5 ys us x=aA v/\f v v=aA aC)->Xq f ys us xs vs=aA aC
 | [],_,_=>rfl
 |_::_,[],_=>rfl
 |x::xs,v::vs,h=>by
  obtain⟨h1,h2⟩:=h 0 x v rfl rfl;have a:=S9 xs vs λi x v j l=>h (i+1) x v (by simpa using j) (by simpa using l);show(match Z5 ys us x with
   |none=>aA aE
   |some u=>(f v u).bind λb=>(Xq f ys us xs vs).bind λc=>aA<|b&&c)=aA aC
  rw[h1];dsimp only;rw[h2,a];rfl
theorem UQ(n)(h:Dic xs vs)(j:∀v∈vs,Tz n v v=aA aC):Tz (n+1) (.dK (Zr xs) vs) (.dK (Zr xs) vs)=aA aC:=by show(strK?<|Zr xs).bind (λa=>(strK?<|Zr xs).bind λys=>if a.length=ys.length then Xq (Tz n) ys vs a vs else aA aE)=aA aC;rw[JA];dsimp only[Option.bind];rw[dZ rfl];exact S9 xs vs λi x v f c=>⟨nk h.nd h.len i x v f c,j v<|gh c⟩
noncomputable def ev{α:Type}:List α->List α
 | []=>[]
 | [a]=>[a]
 |a::_::r=>a::ev r
theorem OU(f:α->β):∀xs,ev (xs.map f)=(ev xs).map f
 | []=>rfl
 | [a]=>rfl
 |a::b::r=>by show f a::ev (r.map f)=f a::(ev r).map f;rw[OU f r]
theorem MZ:∀m (xs:À α),xs.length<=2*m->((gz m).map λk=>2*k).filterMap (xs[·]?)=ev xs
 |0,xs,h=>by have:xs=[]:=xf Θ;subst this;rfl
 |m+1,xs,h=>by
  rw[ux,cg,f7]
  match xs,h with
  | [],_=>simp[ev]
  | [a],_=>
   show a::vi (λx=>[a][x]?) (re ((λk=>2*k)∘xy)<|gz m)=_;have:vi (λx=>[a][x]?) (re ((λk=>2*k)∘xy)<|gz m)=[]:=by rw[List.filterMap_eq_nil_iff];intro x f;obtain⟨k,_,rfl⟩:=av.mp f;show[a][2*(k+1)]? =aB;rw[ox];simp;lia
   rw[this];rfl
  |a::b::r,h=>
   show a::vi (λx=>(a::b::r)[x]?) (re ((λk=>2*k)∘xy)<|gz m)=_;have c:=MZ m r (by simp at h;lia);have:vi (λx=>(a::b::r)[x]?) (re ((λk=>2*k)∘xy)<|gz m)=ev r:=by rw[<-c,v9,v9];congr 1
   rw[this];rfl
theorem na(xs:À α):Bj xs aB aB (aA 2)=ev xs:=by
 unfold Bj;have c:(l9 aB aB (aA 2) xs.length)=(0,(xs.length:Int),2):=rfl;rw[c];dsimp only;have a:CA 0 (xs.length:Int) 2=(gz<|(xs.length+1) / 2).map λk=>2*k:=by
  unfold CA;rw[dZ Γ];by_cases h:xs.length=0
  .rw[h];rfl
  .rw[dZ Θ];dsimp only;rw[show(((xs.length:Int)- 0+2- 1) / 2).toNat=(xs.length+1) / 2 by lia];refine kj λk _=>?_;lia
 rw[a];exact MZ _ xs Θ
theorem MY{α:Type}(f g:α->β)(b):∀xs:À α,ev (b::xs.flatMap λx=>[f x,g x])=b::xs.map g
 | []=>rfl
 |x::xs=>by show b::ev (g x::xs.flatMap λx=>[f x,g x])=_;rw[MY f g (g x) xs];rfl
end My
namespace L2
section
variable{α β:Type}
@[simp high]theorem zf0(a)(l:List α):(a::l)[0]? =some a:=rfl
@[simp high]theorem zf1(a)(l:List α)(n):(a::l)[n+1]? =l[n]?:=rfl
@[simp high]theorem zf2(f:α->β)(a l):(a::l).map f=f a::l.map f:=rfl
@[simp high]theorem zf3(f:α->β):[].map f=[]:=rfl
@[simp high]theorem zf4(a)(l:List α):(a::l).length=l.length+1:=rfl
@[simp high]theorem zf6(a)(l m:List α):(a::l)++m=a::(l++m):=rfl
@[simp high]theorem zf7(m:List α):[]++m=m:=rfl
@[simp high]theorem zf8:0+1=1:=rfl
@[simp high]theorem zfa(x):ZU "str" (.str x)=true:=rfl
@[simp high]theorem zfb(x):ZU "list" (.lst x)=true:=rfl
@[simp high]theorem zfd(x y):ZU "dict" (.dK x y)=true:=rfl
@[simp high]theorem zfe(a b:α):L2.atI [a,b] 0=some a:=rfl
@[simp high]theorem zff(a b:α):L2.atI [a,b] 1=some b:=rfl
@[simp high]theorem zfg(a:α):L2.atI [a] 0=some a:=rfl
@[simp high]theorem zfk(b):(true&&b)=b:=rfl
@[simp high]theorem zfl(b):(false&&b)=false:=rfl
@[simp high]theorem zfm(b):(true||b)=true:=rfl
@[simp high]theorem zfn(b):(false||b)=b:=rfl
@[simp high]theorem zfo:(!true)=false:=rfl
@[simp high]theorem zfp:(!false)=true:=rfl
end
end L2
noncomputable section
namespace Gen
open L2
noncomputable def top(i:Nat):Stmt:=PySem.Challenge.pw_citeward_k33_whole_texts_set.main.body.getD i<|.Pass ⟨0,0,0,0⟩
noncomputable abbrev L0:Nat:=1000
def Jb:FS:=Zo (B3 2<|Zf We (Za 3)<|Zb<|.int 5040)<|Z1 3<|Zf Qc (Za 3)<|Zb<|.int 5040
def Jc:FS:=Zo (Z1 3<|Zf We (Zf Xs (Zf Yu (Zf Yu (Za 3)<|Za 4)<|Zb<|.int 1)<|Zb<|.int 48271)<|Zb<|.int 2147483647)<|B3 2<|Zf We (Zf Xs (Za 3)<|Zb<|.int 69621)<|Zb<|.int 2147483629
def Ui:FS:=Zo (Z1 2<|Qa<|Zp)<|Zo (Z1 3<|Zf Qc (Za 0)<|Zb<|.int 2)<|Zo (Wo (Zq<|Zf Cz (Zf We (Za 0)<|Zb<|.int 2)<|Zb<|.int 1) (Zo (Q3 (ZW<|Zd (Za 1) Zh) (Zj 4) Jb)<|Ym<|Za 2)<|Yb)<|Zo (Z1 3<|Zf We (Za 3)<|Zb<|.int 2147483647)<|Zo (Q3 (ZW<|Zd (Za 1) Zh) (Zj 4) Jc)<|Ym<|Za 2
def Yx:=Yf Ui 5
def W8:FS:=Z1 8<|Zf Yu (Za 8)<|Zf Yn (Za 2)<|Zf We (Zf Yu (Zf Yn (Za 3)<|Za 9)<|Zf Xs (Zf Xs (Zb<|.int 7)<|Za 7)<|Yh XX<|Zd (Zf Cz (Za 9)<|Za 5) Zh)<|Zb<|.int 26
def Oh:FS:=Zo (Z1 8<|Zb<|.str "")<|Zo (Q3 (ZW<|Zd (Za 4) Zh) (Zj 9) W8)<|B3 6<|Za 8
def Tj:FS:=Zo (Z1 2<|Zb<|.str "abcdefghijklmnopqrstuvwxyz")<|Zo (Z1 3<|Z0 2 Yx<|Zd (Za 0)<|Zd (Zb<|.int 10)<|Zh)<|Zo (Z1 4<|Zf Yu (Zb<|.int 1)<|Zf We (Zf Yn (Za 3)<|Zb<|.int 8)<|Zb<|.int 8)<|Zo (Z1 5<|Zf We (Zf Yn (Za 3)<|Zb<|.int 9)<|Za 4)<|Zo (Z1 6<|Qa<|Zp)<|Zo (Q3 (ZW<|Zd (Za 1) Zh) (Zj 7) Oh)<|Ym<|Za 6
def C8:=Yf Tj 10
def Uj:FS:=Zo (Z1 5<|Z0 2 Yx<|Zd (Za 4)<|Zd (Zb<|.int 8)<|Zh)<|Zo (Z1 6<|Xw [("pages",Zb<|.str "1-9")])<|Zo (Wo (Zq<|Zf P7 (Zf We (Zf Yn (Za 5)<|Zb<|.int 0)<|Zb<|.int 3)<|Zb<|.int 0) (Cn 6 (Zb<|.str "title")<|Zf Yn (Qa<|W7 ["So it is","It","10"]<|Zp)<|Zf We (Zf Qc (Zf Yn (Za 5)<|Zb<|.int 0)<|Zb<|.int 3)<|Zb<|.int 3)<|Yb)<|Zo (Wo (Zq<|Zf P7 (Zf We (Zf Yn (Za 5)<|Zb<|.int 1)<|Zb<|.int 3)<|Zb<|.int 0) (Cn 6 (Zb<|.str "year")<|Zf Yn (Qa<|W7 ["2001","1999"]<|Zp)<|Zf We (Zf Qc (Zf Yn (Za 5)<|Zb<|.int 1)<|Zb<|.int 3)<|Zb<|.int 2)<|Yb)<|Zo (Wo (Zq<|Zf P7 (Zf We (Zf Yn (Za 5)<|Zb<|.int 2)<|Zb<|.int 5)<|Zb<|.int 0) (Cn 6 (Zb<|.str "hands")<|Zf Yn (Qa<|W7 ["Lee, Ann","Lee, Al","Kim, Bo & Lee, Ann C & Ng"]<|Zp)<|Zf We (Zf Qc (Zf Yn (Za 5)<|Zb<|.int 2)<|Zb<|.int 5)<|Zb<|.int 3)<|Yb)<|Zo (Wo (YF (Zq<|Zf Cz (Zf We (Zf Yn (Za 5)<|Zb<|.int 3)<|Zb<|.int 2)<|Zb<|.int 0)<|Zq<|Zf ltD (Zf Yu (Za 3)<|Zb<|.int 1)<|Yh Qk<|Zd (Za 0) Zh) (Cn 6 (Zb<|.str "in")<|Zf Yn (Za 0)<|Zf Yu (Zf Yu (Za 3)<|Zb<|.int 1)<|Zf We (Zf Yn (Za 5)<|Zb<|.int 4)<|Zf K6 (Zf K6 (Yh Qk<|Zd (Za 0) Zh)<|Za 3)<|Zb<|.int 1)<|Yb)<|Zo (Wo (Zq<|Zf Cz (Zf We (Zf Yn (Za 5)<|Zb<|.int 6)<|Zb<|.int 3)<|Zb<|.int 0) (Zo (Cn 6 (Zb<|.str "note")<|Zf Yu (Zf Yu (Zb<|.str "see <")<|Zf Yn (Za 0)<|Zf We (Zf Qc (Zf Yn (Za 5)<|Zb<|.int 6)<|Zb<|.int 3)<|Yh Qk<|Zd (Za 0) Zh)<|Zb<|.str " 7>")<|Cn 6 (Zb<|.str "note")<|Zf Yu (Zf Yu (Zf Yu (Zf Yn (Za 6)<|Zb<|.str "note")<|Zb<|.str "; <")<|Zf Yn (Za 0)<|Zf We (Zf Yn (Za 5)<|Zb<|.int 7)<|Yh Qk<|Zd (Za 0) Zh)<|Zb<|.str ">")<|Yb)<|Cn 2 (Zf Yn (Za 0)<|Za 3)<|tupF<|Zl (Zf Yn (Qa<|W7 ["part","book"]<|Zp)<|Zf We (Zf Yn (Za 5)<|Zb<|.int 5)<|Zb<|.int 2)<|Zl (Za 6)<|Zp
def Ry:FS:=Zo (Z1 2<|Fa)<|Zo (Q3 (K8<|Zl (Za 1) Zp) (W1 2<|Yj (Zj 3)<|Yj (Zj 4)<|W0) Uj)<|Ym<|Za 2
def Uz:=Yf Ry 7
def Pc:FT :=
  YF (Zq<|Zf ltD (Za 2)<|Yh Qk<|Zd (Za 0) Zh) (Zq<|Zf inZ (Zf Yn (Za 0)<|Za 2)<|Zb<|.str "ABCDEFGHIJKLMNOPQRSTUVWXYZabcdefghijklmnopqrstuvwxyz0123456789 .,!?'-/()&+*=:;")
def Pd:FS:=ZX 2 1
def Fe:FS:=Zo (Z1 2<|Za 1)<|Zo (Qj Pc Pd L0)<|Ym<|Za 2
def Ff:=Yf Fe 3
def Va:FS:=Zo (Wo (Zq<|Zf inZ (Zf Yn (Za 0)<|Za 1)<|Zb<|.str "[]") (Ym<|Zf Yu (Za 1)<|Zb<|.int 1)<|Yb)<|Zo (Wo (Zq<|Zf Cz (Zf Yn (Za 0)<|Za 1)<|Zb<|.str "{") (Z1 2<|Zf Yu (Md "str" Xy (Za 0)<|Zd (Zb<|.str "}")<|Zd (Za 1) Zh)<|Zb<|.int 1)<|Z1 2<|Z0 2 Ff<|Zd (Za 0)<|Zd (Za 1)<|Zh)<|Zo (Wo (Zq<|Zf leD (Za 2)<|Za 1) (Ql)<|Yb)<|Ym<|Za 2
def Vb:=Yf Va 3
def iU:FT:=
 Zq (Zf ltD (Za 2)<|Yh Qk<|Zd (Za 0) Zh)
def iT:FS:=Zo (Z1 3<|Z0 2 Vb<|Zd (Za 0)<|Zd (Za 2)<|Zh)<|Zo (B3 1<|slF Dh (Za 0) (Q4<|Za 2)<|Q4<|Za 3)<|Z1 2<|Za 3
def Vc:FS:=Zo (Z1 1<|Qa<|Zp)<|Zo (Z1 2<|Zb<|.int 0)<|Zo (Qj iU iT L0)<|Ym<|Za 1
def Ig:=Yf Vc 4
def B9:FS:=Zo (Wo (Zq<|Zf P7 (Lp 0)<|Zb<|.int 3) (Ql)<|Yb)<|Lo 0
def Uk:aq->À (À D)->Á (À (À D)):=YL B9 1
def Rz:FS:=Zo (Wo (Zq<|Zf Cz (Lp 0)<|Zb<|.int 1) (Ql)<|Yb)<|Zo (Lr 1 0)<|Zo (Wo (Zq<|Zf Cz (Yh Qk<|Zd (Za 1) Zh)<|Zb<|.int 0) (Ql)<|Yb)<|Jp 0<|tupF<|Zl (Zb<|.str "group")<|Zl (Yh Rq<|Zd (Za 1) Zh)<|Zp
def Bp:aq->À (À D)->Á (À (À D)):=YL Rz 2
def Ca:FE:=
 Zf inZ (Za 0) (Za 1)
def R0:FS:=Ym<|Yh XZ<|Zd (Y3 [.own,.cap 1,.acc] 2 (Y9<|Za 0) (Zj 0) (Y1) Ca) Zh
def U0:=Yf R0 2
def C9:FS:=Zo (Wo (Mm<|Zq<|Af (Mn "str")<|Za 0) (Ym<|Zb<|.bl aE)<|Yb)<|Ym<|VJ (MA leD leD (Zb<|.int 1) (Yh Qk<|Zd (Za 0) Zh)<|Za 2)<|Z0 2 U0<|Zd (Za 0)<|Zd (Za 1)<|Zh
def Wt:=Yf C9 3
def Ih:FS:=Ym<|Z0 3 Wt<|Zd (Za 0)<|Zd (Zb<|.str "abcdefghijklmnopqrstuvwxyz")<|Zd (Zb<|.int 8)<|Zh
def Ct:=Yf Ih 1
def A7:FS:=Wo (orF (Mm<|Zq<|Z0 1 Ct<|Zd (Za 0)<|Zh)<|Zq<|Zf Cz (Za 0)<|Zb<|.str "note") (Ql)<|Yb
def Ga:=Yf A7 1
def O2:FS:=Zo (WF<|Z0 1 Ga<|Zd (Zf Yn (Za 0)<|Zb<|.int 0)<|Zh)<|Zo (Wo (Mm<|Zq<|Z0 3 Wt<|Zd (Zf Yn (Za 0)<|Zb<|.int 1)<|Zd (Zb<|.str "123456789")<|Zd (Zb<|.int 1)<|Zh) (Ql)<|Yb)<|Zo (Wo (Mm<|Zq<|Z0 3 Wt<|Zd (Zf Yn (Za 0)<|Zb<|.int 2)<|Zd (Zb<|.str "012")<|Zd (Zb<|.int 1)<|Zh) (Ql)<|Yb)<|Ym<|tupF<|Zl (Zb<|.str "hands")<|Zl (Zf Yn (Za 0)<|Zb<|.int 0)<|Zl (Yh XD<|Zd (Zf Yn (Za 0)<|Zb<|.int 1) Zh)<|Zl (Yh XD<|Zd (Zf Yn (Za 0)<|Zb<|.int 2) Zh)<|Zp
def O3:=Yf O2 1
def L5:FS:=WF<|Z0 1 Ga<|Zd (Za 3)<|Zh
def A8:FS:=Zo (Wo (Zq<|Zf neY (Zf Yn (Za 0)<|Zb<|.int 0)<|Zb<|.str "{") (Ym<|tupF<|Zl (Zb<|.str "signs")<|Zl (Za 0)<|Zp)<|Yb)<|Zo (Z1 1<|Md "str" Rt (slF Dh (Za 0) (Q4<|Zb<|.int 1)<|Q4<|Af Mo<|Zb<|.int 1)<|Zd (Zb<|.str " ") Zh)<|Zo (Wo (Zq<|Zf Cz (Yh Qk<|Zd (Za 1) Zh)<|Zb<|.int 3) (Ym<|Z0 1 O3<|Zd (Za 1)<|Zh)<|Yb)<|Zo (Z1 2<|Yh Rq<|Zd (Md "str" Rt (slF Dh (Za 0) (Q4<|Zb<|.int 1)<|Q4<|Af Mo<|Zb<|.int 1)<|Zd (Zb<|.str "|") Zh) Zh)<|Zo (Wo (Zq<|Zf P7 (Yh Qk<|Zd (Za 2) Zh)<|Zb<|.int 4) (Ql)<|Yb)<|Zo (Q3 (Y9<|Za 2) (Zj 3) L5)<|Ym<|tupF<|Zl (Zb<|.str "field")<|Zl (Za 2)<|Zp
def Jq:=Yf A8 4
def Yc:FS:=Wo (Zq<|Zf Cz (Za 3)<|Zb<|.str "[") (Xz 2 Uk)<|Wo (Zq<|Zf Cz (Za 3)<|Zb<|.str "]") (Xz 2 Bp)<|Jp 2<|Z0 1 Jq<|Zd (Za 3)<|Zh
def Oa:FS:=Zo (Wo (Mm<|Zq<|Af (Mn "str")<|Za 0) (Ql)<|Yb)<|Zo (Z1 1<|Z0 1 Ig<|Zd (Za 0)<|Zh)<|Zo (Wo (Zq<|Zf P7 (Zf K6 (Yh Qk<|Zd (Za 1) Zh)<|Md "list" E9 (Za 1)<|Zd (Zb<|.str "]") Zh)<|Zb<|.int 30) (Ql)<|Yb)<|Zo (Z1 2<|QU)<|Zo (Q3 (Y9<|Za 1) (Zj 3) Yc)<|Zo (Wo (Zq<|Zf P7 (Lp 2)<|Zb<|.int 1) (Ql)<|Yb)<|Ym<|Rw 2
def Yy:=Yf Oa 4
def Qg:FE:=
 Z0 1 Yy (Zd (Zf Yn (Za 1)<|Zf We (Zf Qc (Za 0)<|Zb<|.int 7)<|Zb<|.int 10)<|Zh)
def Q5:FE:=
 Z0 1 Yy (Zd (Za 0)<|Zh)
def Ul:FE:=
 Zf Yn (Qa<|W7 ["hands","year","title","book"]<|Zp) (Zf We (Za 0)<|Zb<|.int 4)
def Fg:FS:=Zo (Z1 2<|Qa<|W7 ["{hands 1 0}","{hands 1 0} {year}","{hands 2 1} {year}","{hands 9 2}, {year}","{title}"]<|Zp)<|Zo (Z1 2<|Zf Yu (Za 2)<|Qa<|W7 ["{hands 9 2}: {title}","{book|title}","[{hands 9 2}, ][{year}, ]{title}","{kind|title}",""]<|Zp)<|Zo (Z1 3<|Y3 [.own,.cap 2,.acc] 2 (Y9<|Z0 2 Yx<|Zd (Za 0)<|Zd (Zf Yu (Zb<|.int 1)<|Zf We (Za 0)<|Zb<|.int 6)<|Zh) (Zj 0) (Y1) Qg)<|Zo (Wo (Zq<|Zf Cz (Zf We (Zf Qc (Za 0)<|Zb<|.int 6)<|Zb<|.int 2)<|Zb<|.int 0) (Z1 3<|Y3 [.own,.acc] 1 (Y9<|slF Dh (Za 2) (Q4<|Zb<|.int 1)<|Q4<|Zf Yu (Zb<|.int 2)<|Zf We (Za 0)<|Zb<|.int 4) (Zj 0) (Y1) Q5)<|Yb)<|Zo (Z1 4<|Y3 [.own,.acc] 1 (Y9<|Z0 2 Yx<|Zd (Za 1)<|Zd (Zf We (Za 1)<|Zb<|.int 4)<|Zh) (Zj 0) (Y1) Ul)<|Zo (Z1 5<|Z0 1 Yy<|Zd (Zf Yn (Qa<|W7 ["{hands 9 2}. {title}[, in {book}], {year}","{title}",""]<|Zp)<|Zf We (Zf Qc (Za 1)<|Zb<|.int 4)<|Zb<|.int 3)<|Zh)<|Ym<|Xw [("ladder",Za 3),("row",Za 5),("order",Za 4),("many",Zf Yu (Zb<|.int 1)<|Zf We (Zf Qc (Za 1)<|Zb<|.int 12)<|Zb<|.int 3)]
def U1:=Yf Fg 6
def Q6:FS:=Wo (YF (Zq<|Zf Cz (Zf We (Za 4)<|Zb<|.int 4)<|Zb<|.int 0)<|orF (Zq<|Zf Cz (Yh Qk<|Zd (Za 2) Zh)<|Zb<|.int 0)<|Mm<|Zq<|Af (Mn "str")<|Zf Yn (Za 2)<|Af Mo<|Zb<|.int 1) (B3 2<|Zf Yn (Qa<|W7 [" so: ","; and\n","(it) "]<|Zp)<|Zf We (Zf Qc (Za 4)<|Zb<|.int 4)<|Zb<|.int 3)<|Zo (Wo (Zq<|Zf P7 (Zf We (Zf Qc (Za 4)<|Zb<|.int 12)<|Zb<|.int 3)<|Zb<|.int 0) (Z1 3<|Zf Yn (Za 0)<|Zf We (Zf Qc (Za 4)<|Zb<|.int 36)<|Yh Qk<|Zd (Za 0) Zh)<|Yb)<|B3 2<|tupF<|Zl (Za 3)<|Zl (Zf Yn (Qa<|Zl (Zb .non)<|W7 ["12-14"," x"]<|Zp)<|Zf We (Zf Qc (Za 4)<|Zb<|.int 700)<|Zb<|.int 3)<|Zp
def R1:FS:=Zo (Z1 2<|Qa<|Zp)<|Zo (Z1 3<|Zf Yn (Za 0)<|Zb<|.int 0)<|Zo (Q3 (Y9<|Z0 2 Yx<|Zd (Za 1)<|Zd (Zf We (Za 1)<|Zb<|.int 9)<|Zh) (Zj 4) Q6)<|Ym<|Za 2
def Bq:=Yf R1 5
def Gb:FS:=Zo (Z1 5<|Md "str" Jf (Za 4)<|Zd (Zb<|.str ">") Zh)<|Zo (Wo (Zq<|Zf Cz (Zf Yn (Za 5)<|Zb<|.int 1)<|Zb<|.str "") (Ym<|Zb .non)<|Yb)<|YZ 3<|Qa<|Zl (Zf Yn (Za 5)<|Zb<|.int 0)<|Zl (Zf Yn (Za 5)<|Zb<|.int 2)<|Zp
def L6:FS:=Zo (Z1 2<|Md "str" Rt (Za 0)<|Zd (Zb<|.str "<") Zh)<|Zo (Z1 3<|Qa<|Zl (Zf Yn (Za 2)<|Zb<|.int 0)<|Zp)<|Zo (Q3 (Y9<|slF Dh (Za 2) (Q4<|Zb<|.int 1)<|Rp) (Zj 4) Gb)<|Ym<|ifF (Zq<|Z0 2 U0<|Zd (Md "str" Jo (Zb<|.str "")<|Zd (S' XS (Za 3) (Rp) (Rp)<|Q4<|Zb<|.int 2) Zh)<|Zd (Za 1)<|Zh) (Za 3)<|Zb .non
def A9:=Yf L6 6
def Tk:FS :=
  Ym (Z0 3 Wt<|Zd (Za 0)<|Zd (Zb<|.str "ABCDEFGHIJKLMNOPQRSTUVWXYZabcdefghijklmnopqrstuvwxyz0123456789 .,!?'-/()&+*=")<|Zd (Zb<|.int 80)<|Zh)
def Gc:=Yf Tk 1
def Gd:FS:=Zo (Z1 1<|Md "str" Jf (Za 0)<|Zd (Zb<|.str " ") Zh)<|Zo (Wo (Mm<|Zq<|Z0 1 Ct<|Zd (Zf Yn (Za 1)<|Zb<|.int 0)<|Zh) (E8 "NoText")<|Yb)<|Zo (Wo (Zq<|Zf Cz (Zf Yn (Za 1)<|Zb<|.int 1)<|Zb<|.str "") (Ym<|tupF<|Zl (Zb<|.str "point")<|Zl (Zf Yn (Za 1)<|Zb<|.int 0)<|Zl (Zb .non)<|Zp)<|Yb)<|Zo (Wo (Mm<|Zq<|Z0 1 Gc<|Zd (Zf Yn (Za 1)<|Zb<|.int 2)<|Zh) (E8 "NoText")<|Yb)<|Ym<|tupF<|Zl (Zb<|.str "point")<|Zl (Zf Yn (Za 1)<|Zb<|.int 0)<|Zl (Zf Yn (Za 1)<|Zb<|.int 2)<|Zp
def Oi:À D->Á XO:=YQ Gd 2
def Wb:FS:=Wo (Zq<|Zf Cz (Zf We (Za 3)<|Zb<|.int 2)<|Zb<|.int 1) (XT 2<|WA 1 Oi<|Ln (UC<|Za 4)<|Xu)<|Wo (Zq<|Zf neY (Za 4)<|Zb<|.str "") (B3 2<|Za 4)<|Yb
def Br:FS :=
  Zo (Wo (Mm<|Zq<|Af (Mn "str")<|Za 0) (E8 "NoText")<|Yb) (Zo (Z1 1<|Z0 2 A9<|Zd (Za 0)<|Zd (Zf Yu (Zb<|.str "ABCDEFGHIJKLMNOPQRSTUVWXYZabcdefghijklmnopqrstuvwxyz0123456789 .,!?'-/()&+*=:;")<|Zb<|.str "\n")<|Zh)<|Zo (Wo (Zq<|Zf Ey (Za 1)<|Zb .non) (E8 "NoText")<|Yb)<|Zo (Z1 2<|Qa<|Zp)<|Zo (Q3 (K8<|Zl (Za 1) Zp) (W1 2<|Yj (Zj 3)<|Yj (Zj 4)<|W0) Wb)<|Ym<|Za 2)
def W5:À D->Á XO:=YQ Br 5
def R3:À D->Á SV:=YO W5
def Jr:FT:=
 Mm (Zq<|Af (Mn "str")<|Za 0)
def Js:FE:=
 Zf Yn (Za 0) (Zb<|.int 1)
def Ge:FS:=Ym<|Y3 [.own,.acc] 1 (Y9<|Za 0) (Zj 0) (Jr) Js
def W9:=Yf Ge 1
def Wp:FS:=Wo (Zq<|Zf Cz (Zf Yn (Za 3)<|Zb<|.int 0)<|Za 2) (Ym<|Zf Yn (Za 3)<|Zb<|.int 1)<|Yb
def Cb:FS:=Zo (Q3 (Y9<|Pa "dict" Oz (Za 0)<|Zl (Za 1)<|Zl (Qa<|Zp)<|Zp) (Zj 3) Wp)<|Ym<|Zb .non
def Um:=Yf Cb 4
def Cc:FS:=Zo (Z1 3<|Zf Yn (Za 0)<|Zf Yn (Za 2)<|Zb<|.int 0)<|Zo (Z1 4<|Zf Yn (Za 3)<|Zb<|.int 1)<|Zo (Wo (Zq<|Zf inZ (Zf Yn (Za 2)<|Zb<|.int 1)<|Za 4) (Ym<|Zb .non)<|Yb)<|Zo (Z1 5<|Z0 3 Um<|Zd (Za 1)<|Zd (Zf Yn (Za 3)<|Zb<|.int 0)<|Zd (Zf Yn (Za 2)<|Zb<|.int 1)<|Zh)<|Zo (Z1 6<|Pa "dict" Oz (Za 4)<|Zl (Zb<|.str "in")<|Zp)<|Zo (Wo (orF (Zq<|Zf Ey (Za 5)<|Zb .non)<|orF (Zq<|Zf Ey (Za 6)<|Zb .non)<|Zq<|Zf Tg (Za 6)<|Za 0) (Ym<|Zb .non)<|Yb)<|Ym<|tupF<|Zl (Za 6)<|Zl (Za 5)<|Zp
def Uo:=Yf Cc 7
def Mg:FT:=
 Zq (Zf I8 (Za 6)<|Zb .non)
def Kg:FS:=Zo (Wo (Zq<|Zf inZ (Za 6)<|Za 5) (Ql)<|Yb)<|Zo (Cn 5 (Za 6)<|Yh Qk<|Zd (Za 4) Zh)<|Zo (B3 4<|Za 6)<|Z1 6<|Z0 3 Uo<|Zd (Za 0)<|Zd (Za 1)<|Zd (Za 6)<|Zh
def VY:FS:=Zo (Z1 4<|Qa<|Zp)<|Zo (Z1 5<|P')<|Zo (Z1 6<|tupF<|Zl (Za 2)<|Zl (Za 3)<|Zp)<|Zo (Qj Mg Kg L0)<|Ym<|Za 4
def X_:=Yf VY 7
def VX:FS:=Zo (Z1 4<|Zf Yn (Z0 4 X_<|Zd (Za 0)<|Zd (Za 1)<|Zd (Za 2)<|Zd (Za 3)<|Zh)<|Af Mo<|Zb<|.int 1)<|Ym<|Pa "dict" Oz (Zf Yn (Zf Yn (Za 0)<|Zf Yn (Za 4)<|Zb<|.int 0)<|Zb<|.int 1)<|Zl (Zf Yn (Za 4)<|Zb<|.int 1)<|Zp
def L7:=Yf VX 5
def Ea:FE:=
 Z0 4 L7 (Zd (Za 1)<|Zd (Za 2)<|Zd (Za 3)<|Zd (Za 0)<|Zh)
def R4:FE:=
 ifF (Zq<|Zf Ey (Za 0)<|Zb .non) (tupF<|Zl (Zb<|.int 0)<|Zl (Zb<|.str "")<|Zp) (tupF<|Zl (Zb<|.int 1)<|Zl (Za 0)<|Zp)
def UP:FS:=Zo (Z1 4<|Y3 [.own,.cap 0,.cap 1,.cap 2,.acc] 4 (Y9<|Za 3) (Zj 0) (Y1) Ea)<|Ym<|tupF<|Zl (Y3 [.own,.acc] 1 (Y9<|Za 4) (Zj 0) (Y1) R4)<|Zl (Za 2)<|Zp
def Hc:=Yf UP 5
def Gf:FS:=Cn 4 (Za 5)<|Z0 4 Hc<|Zd (Za 0)<|Zd (Za 1)<|Zd (Za 5)<|Zd (Za 3)<|Zh
def Tn:FS:=Zo (Z1 4<|Fa)<|Zo (Q3 (Y9<|Za 2) (Zj 5) Gf)<|Ym<|L2.UW (Za 2) [4]<|Zf Yn (Za 1)<|Za 0
def Ua:=Yf Tn 6
def Ub:FS:=Wo (YF (Zq<|Zf neY (Za 4)<|Za 1)<|Zq<|Zf inZ (Za 3)<|Za 5) (Ym<|tupF<|Zl (Za 4)<|Zl (Md "list" E7 (Za 5)<|Zd (Za 3) Zh)<|Zp)<|Yb
def He:FS:=Zo (Z1 3<|Zf Yn (Zf Yn (Za 0)<|Za 1)<|Za 2)<|Zo (Q3 (K8<|Zl (Za 0) Zp) (W1 2<|Yj (Zj 4)<|Yj (Zj 5)<|W0) Ub)<|Ym<|Zb .non
def Kh:=Yf He 6
def Qo:FS:=Wo (Zq<|Zf Ey (Z0 3 Kh<|Zd (Za 0)<|Zd (Za 1)<|Zd (Za 2)<|Zh)<|Zb .non) (Ym<|Za 2)<|Yb
def Ii:FS:=Zo (Q3 (ZW<|Zd (Yh Qk<|Zd (Zf Yn (Za 0)<|Za 1) Zh) Zh) (Zj 2) Qo)<|Ym<|Zb .non
def Mh:=Yf Ii 3
def j':FT:=
 Zq (Zf geD (Za 2)<|Zb<|.int 0)
def j_:FS:=Zo (Z1 1<|Zf Yu (Zf Yn (Zb<|.str "abcdefghijklmnopqrstuvwxyz")<|Zf We (Za 2)<|Zb<|.int 26)<|Za 1)<|Z1 2<|Zf K6 (Zf Qc (Za 2)<|Zb<|.int 26)<|Zb<|.int 1
def K':FS:=Zo (Z1 1<|Zb<|.str "")<|Zo (Z1 2<|Za 0)<|Zo (Qj j' j_ L0)<|Ym<|Za 1
def Cu:=Yf K' 3
def Qh:FS:=Zo (Z1 5<|Z0 2 Mh<|Zd (Za 0)<|Zd (Za 3)<|Zh)<|Wo (Zq<|Zf Ey (Za 5)<|Zb .non) (Zo (Z1 6<|Pa "dict" Oz (Za 2)<|Zl (Zf Yn (Za 4)<|Af Mo<|Zb<|.int 1)<|Zl (Zb<|.int 0)<|Zp)<|Zo (Cn 2 (Zf Yn (Za 4)<|Af Mo<|Zb<|.int 1)<|Zf Yu (Za 6)<|Zb<|.int 1)<|B3 1<|Zf Yu (Zf Yu (Zf Yn (Za 4)<|Af Mo<|Zb<|.int 1)<|Zb<|.str "^")<|Z0 1 Cu<|Zd (Za 6)<|Zh)<|B3 1<|Zf Yn (Za 4)<|Za 5
def R5:FS:=Zo (Z1 1<|Qa<|Zp)<|Zo (Z1 2<|Fa)<|Zo (Q3 (K8<|Zl (Za 0) Zp) (W1 2<|Yj (Zj 3)<|Yj (Zj 4)<|W0) Qh)<|Ym<|Za 1
def U2:=Yf R5 7
def L8:FS:=Wo (Zq<|Zf inZ (Za 2)<|Za 1) (Ym<|Zf Yn (Za 1)<|Za 2)<|Yb
def Eb:FS:=Zo (Q3 (Y9<|Za 0) (Zj 2) L8)<|Ym<|Zb .non
def Ec:=Yf Eb 3
def Pe:FE:=
 Zf Yu (slF Dh (Za 0) (Rp)<|Q4<|Zb<|.int 1) (Zb<|.str ". ")
def Pf:FE:=
 Zf Yu (Za 0) (Zb<|.str " ")
def Fh:FS:=Zo (Wo (Zq<|Zf Cz (Za 1)<|Zb<|.int 0) (Ym<|Zf Yn (Za 0)<|Zb<|.int 0)<|Yb)<|Zo (Wo (Zq<|Zf Cz (Za 1)<|Zb<|.int 1) (Ym<|Zf Yu (Md "str" Jo (Zb<|.str "")<|Zd (Y3 [.own,.acc] 1 (Y9<|Zf Yn (Za 0)<|Zb<|.int 1) (Zj 0) (Y1) Pe) Zh)<|Zf Yn (Za 0)<|Zb<|.int 0)<|Yb)<|Ym<|Zf Yu (Md "str" Jo (Zb<|.str "")<|Zd (Y3 [.own,.acc] 1 (Y9<|Zf Yn (Za 0)<|Zb<|.int 1) (Zj 0) (Y1) Pf) Zh)<|Zf Yn (Za 0)<|Zb<|.int 0
def Fi:=Yf Fh 2
def L9:FE:=
 Z0 2 Fi (Zd (Za 0)<|Zd (Za 1)<|Zh)
def Ed:FS:=Zo (Z1 3<|Y3 [.own,.cap 2,.acc] 2 (Y9<|Za 0) (Zj 0) (Y1) L9)<|Zo (Wo (Zq<|Zf P7 (Yh Qk<|Zd (Za 3) Zh)<|Za 1) (Ym<|Zf Yu (Md "str" Jo (Zb<|.str ", ")<|Zd (slF Dh (Za 3) (Rp)<|Q4<|Za 1) Zh)<|Zb<|.str " and others")<|Yb)<|Zo (Wo (Zq<|Zf ltD (Yh Qk<|Zd (Za 3) Zh)<|Zb<|.int 2) (Ym<|Md "str" Jo (Zb<|.str "")<|Zd (Za 3) Zh)<|Yb)<|Ym<|Zf Yu (Zf Yu (Md "str" Jo (Zb<|.str ", ")<|Zd (slF Dh (Za 3) (Rp)<|Q4<|Af Mo<|Zb<|.int 1) Zh)<|Zb<|.str " and ")<|Zf Yn (Za 3)<|Af Mo<|Zb<|.int 1
def Ee:=Yf Ed 4
def Pg:FS:=Wo (Mm<|Zq<|Z0 3 Wt<|Zd (Za 3)<|Zd (Zb<|.str "ABCDEFGHIJKLMNOPQRSTUVWXYZabcdefghijklmnopqrstuvwxyz")<|Zd (Zb<|.int 15)<|Zh) (Ql)<|Yb
def Fj:FS:=Zo (Z1 1<|Md "str" Jf (Za 0)<|Zd (Zb<|.str ", ") Zh)<|Zo (Z1 2<|ifF (Zq<|Zf Cz (Zf Yn (Za 1)<|Zb<|.int 1)<|Zb<|.str ", ") (Md "str" Rt (Zf Yn (Za 1)<|Zb<|.int 2)<|Zd (Zb<|.str " ") Zh)<|Qa<|Zp)<|Zo (Wo (Zq<|Zf P7 (Yh Qk<|Zd (Za 2) Zh)<|Zb<|.int 4) (Ql)<|Yb)<|Zo (Q3 (Y9<|Zf Yu (Qa<|Zl (Zf Yn (Za 1)<|Zb<|.int 0)<|Zp)<|Za 2) (Zj 3) Pg)<|Ym<|tupF<|Zl (Zf Yn (Za 1)<|Zb<|.int 0)<|Zl (Yh Rq<|Zd (Za 2) Zh)<|Zp
def Fk:=Yf Fj 4
def Na:FE:=
 Z0 1 Fk (Zd (Za 0)<|Zh)
def Ef:FS:=Zo (Wo (Mm<|Zq<|Af (Mn "str")<|Za 0) (Ql)<|Yb)<|Zo (Z1 1<|Md "str" Rt (Za 0)<|Zd (Zb<|.str " & ") Zh)<|Zo (Wo (Zq<|Zf P7 (Yh Qk<|Zd (Za 1) Zh)<|Zb<|.int 6) (Ql)<|Yb)<|Ym<|Y3 [.own,.acc] 1 (Y9<|Za 1) (Zj 0) (Y1) Na
def Eg:=Yf Ef 2
def Nb:FS:=Ym<|Za 2
def Eh:FS:=Zo (Z1 2<|Pa "dict" Oz (Za 1)<|Zl (Zf Yn (Za 0)<|Zb<|.int 1)<|Zp)<|Zo (Wo (Zq<|Zf Ey (Za 2)<|Zb .non) (Ym<|Zb .non)<|Yb)<|Zo (YN (Z1 3<|Z0 1 Eg<|Zd (Za 2)<|Zh) [⟨aB,[],["NoText"],Nb⟩])<|Ym<|Z0 3 Ee<|Zd (Za 3)<|Zd (Zf Yn (Za 0)<|Zb<|.int 2)<|Zd (Zf Yn (Za 0)<|Zb<|.int 3)<|Zh
def Ei:=Yf Eh 4
def Nc(a:À D->Á SV):FE:=
 Z0 2 a (Zd (Za 0)<|Zd (Za 1)<|Zh)
def Ej(a:À D->Á SV):FS:=
 Zo (Z1 2<|Y3 [.own,.cap 1,.acc] 2 (Y9<|Za 0) (Zj 0) (Y1)<|Nc a) (Zo (Wo (Zq<|Zf inZ (Zb .non)<|Za 2) (Ym<|Zb<|.str "")<|Yb)<|Ym<|Md "str" Jo (Zb<|.str "")<|Zd (Za 2) Zh)
def Gg(a:À D->Á SV):À D->Á SV:=Yf (Ej a) 3
def Oj(a:À D->Á SV):FS:=
 Zo (Wo (Zq<|Zf Cz (Zf Yn (Za 0)<|Zb<|.int 0)<|Zb<|.str "signs") (Ym<|Zf Yn (Za 0)<|Zb<|.int 1)<|Yb) (Zo (Wo (Zq<|Zf Cz (Zf Yn (Za 0)<|Zb<|.int 0)<|Zb<|.str "field") (Ym<|Z0 2 Ec<|Zd (Zf Yn (Za 0)<|Zb<|.int 1)<|Zd (Za 1)<|Zh)<|Yb)<|Zo (Wo (Zq<|Zf Cz (Zf Yn (Za 0)<|Zb<|.int 0)<|Zb<|.str "hands") (Ym<|Z0 2 Ei<|Zd (Za 0)<|Zd (Za 1)<|Zh)<|Yb)<|Ym<|Z0 2 (Gg a)<|Zd (Zf Yn (Za 0)<|Zb<|.int 1)<|Zd (Za 1)<|Zh)
def Gh:Nat->List D->Option SV
 |0=>λ_=>aB
 |n+1=>Yf (Oj<|Gh n) 2
def Ek:À D->Á SV:=Gh 12
def nZ:FE:=
 Z0 2 Ek (Zd (Za 0)<|Zd (Za 1)<|Zh)
def nY:FT:=
 Zq (Zf I8 (Za 0)<|Zb .non)
def nX:FE:=
 Za 0
def OT:FS:=Zo (Z1 2<|Y3 [.own,.cap 1,.acc] 2 (Y9<|Za 0) (Zj 0) (Y1) nZ)<|Ym<|Md "str" Jo (Zb<|.str "")<|Zd (Y3 [.own,.acc] 1 (Y9<|Za 2) (Zj 0) (nY) nX) Zh
def Ij:=Yf OT 3
def U3:FS:=Zo (Z1 6<|Z0 4 L7<|Zd (Za 0)<|Zd (Za 1)<|Zd (Za 2)<|Zd (Za 5)<|Zh)<|Wo (Zq<|Zf I8 (Za 6)<|Zb .non) (Cn 4 (Za 5)<|Za 6)<|Yb
def Ik:FS:=Zo (Z1 4<|Fa)<|Zo (Q3 (Y9<|Za 3) (Zj 5) U3)<|Ym<|Za 4
def Mi:=Yf Ik 7
def Up:FS:=Cn 1 (Za 2)<|Zb<|.bl aC
def R6:FS:=Zo (Z1 1<|Fa)<|Zo (Q3 (Y9<|Za 0) (Zj 2) Up)<|Ym<|Yh XH<|Zd (Za 1) Zh
def U4:=Yf R6 3
def Hf(a:À D->Á SV):FS:=
 Wo (Zq<|Zf Cz (Zf Yn (Za 2)<|Zb<|.int 0)<|Zb<|.str "field") (WI 1<|Zf Yn (Za 2)<|Zb<|.int 1) (Wo (Zq<|Zf Cz (Zf Yn (Za 2)<|Zb<|.int 0)<|Zb<|.str "hands") (B3 1<|Zf Yn (Za 2)<|Zb<|.int 1)<|Wo (Zq<|Zf Cz (Zf Yn (Za 2)<|Zb<|.int 0)<|Zb<|.str "group") (YZ 1<|Z0 1 a<|Zd (Zf Yn (Za 2)<|Zb<|.int 1)<|Zh)<|Yb)
def Gi(a:À D->Á SV):FS:=
 Zo (Z1 1<|Qa<|Zp) (Zo (Q3 (Y9<|Za 0) (Zj 2)<|Hf a)<|Ym<|Za 1)
def To:Nat->List D->Option SV
 |0=>λ_=>aB
 |n+1=>Yf (Gi<|To n) 3
def Nf:À D->Á SV:=To 12
def MX:FS:=Ym<|Z0 1 U4<|Zd (Z0 1 Nf<|Zd (Za 0)<|Zh)<|Zh
def Ki:=Yf MX 1
def Nh:FS:=Ym<|Z0 2 Ij<|Zd (Za 3)<|Zd (Z0 4 Mi<|Zd (Za 0)<|Zd (Za 1)<|Zd (Za 2)<|Zd (Z0 1 Ki<|Zd (Za 3)<|Zh)<|Zh)<|Zh
def R7:=Yf Nh 4
def Cd:FE:=
 Z0 4 R7 (Zd (Za 1)<|Zd (Za 2)<|Zd (Za 3)<|Zd (Za 0)<|Zh)
def R8:FS:=Ym<|Y3 [.own,.cap 0,.cap 1,.cap 2,.acc] 4 (Y9<|Za 3) (Zj 0) (Y1) Cd
def Bs:=Yf R8 4
def Gj:FE:=
 Z0 4 Bs (Zd (Za 1)<|Zd (Za 2)<|Zd (Za 0)<|Zd (Za 3)<|Zh)
def Tq:FS:=Ym<|Y3 [.own,.cap 0,.cap 1,.cap 3,.acc] 4 (Y9<|Za 2) (Zj 0) (Y1) Gj
def Uc:=Yf Tq 4
def Tr:FS:=Ym<|ifF (Zq<|Zf Cz (Za 1)<|Zb<|.str "") (Za 0)<|Zf Yu (Zf Yu (Za 0)<|Zb<|.str " ^")<|Za 1
def O4:=Yf Tr 2
def Gk:FS:=Zo (Wo (Zq<|Zf Ey (Za 1)<|Zb .non) (Ym<|Zf Yu (Zf Yu (Zb<|.str "(")<|Za 0)<|Zb<|.str ")")<|Yb)<|Ym<|Zf Yu (Zf Yu (Zf Yu (Zf Yu (Zb<|.str "(")<|Za 0)<|Zb<|.str ", ")<|Za 1)<|Zb<|.str ")"
def Om:=Yf Gk 2
def Q7:FS:=Wo (Zq<|Af (Mn "str")<|Za 4) (B3 2<|Za 4)<|Zo (B3 2<|Z0 2 Om<|Zd (ifF (Zq<|Zf Cz (Zf Yn (Za 4)<|Zb<|.int 1)<|Za 3) (Zb<|.str "there")<|Zf Yn (Za 1)<|Zf Yn (Za 4)<|Zb<|.int 1)<|Zd (Zf Yn (Za 4)<|Zb<|.int 2)<|Zh)<|Z1 3<|Zf Yn (Za 4)<|Zb<|.int 1
def R9:FS:=Zo (Z1 2<|Qa<|Zp)<|Zo (Z1 3<|Zb .non)<|Zo (Q3 (Y9<|Za 0) (Zj 4) Q7)<|Ym<|Md "str" Jo (Zb<|.str "")<|Zd (Za 2) Zh
def Bt:=Yf R9 5
def Ce:FS:=Ym<|Qa<|Zp
def Bu:FS:=Zo (YN (VM 1<|WA 1 W5<|Ln (UC<|Pa "dict" Oz (Zf Yn (Za 0)<|Zb<|.int 1)<|Zl (Zb<|.str "note")<|Zp)<|Xu) [⟨aB,["NoText"],[],Ce⟩])<|Ym<|Z0 1 W9<|Zd (Za 1)<|Zh
def U5:=Yf Bu 2
def U6:FS:=Ib 2 (Za 5)<|Za 1
def Il:FS:=Zo (Z1 4<|Zf Yn (Za 0)<|Za 1)<|Zo (Q3 (Y9<|Z0 1 U5<|Zd (Za 4)<|Zh) (Zj 5) U6)<|Wo (Zq<|Zf inZ (Zb<|.str "in")<|Zf Yn (Za 4)<|Zb<|.int 1) (XC 3 (Zf Yn (Zf Yn (Za 4)<|Zb<|.int 1)<|Zb<|.str "in") 1)<|Yb
def Os:VG:=VF Il 6
def Jt:FS:=Zo (Wo (Zq<|Zf inZ (Za 0)<|Za 1) (Ym<|tupF<|Zl (Zb<|.str "note")<|Zl (Zf Yn (Za 1)<|Za 0)<|Zp)<|Yb)<|Zo (Z1 4<|Pa "dict" Oz (Za 2)<|Zl (Za 0)<|Zl (Qa<|Zp)<|Zp)<|Zo (Wo (Zq<|Zf geD (Yh Qk<|Zd (Za 4) Zh)<|Za 3) (Ym<|tupF<|Zl (Zb<|.str "parts")<|Zl (Yh Rq<|Zd (slF Dh (Za 4) (Rp)<|Q4<|Za 3) Zh)<|Zp)<|Yb)<|Ym<|Zb .non
def Qr:=Yf Jt 5
def Gm:FT:=
 Zq (Zf inZ (Za 0)<|Za 1)
def Gn:FE:=
 tupF (Zl (Za 0)<|Zl (Zb<|.int 0)<|Zl (tupF<|Zl (Zb<|.str "text")<|Zp)<|Zp)
def Go:FS:=Ly 4 5 2 Os<|Zl (Za 0)<|Zl (Zf Yn (Za 8)<|Zb<|.int 0)<|Zp
def Jg:FE:=
 Zf Yn (Za 0) (Zb<|.int 0)
def Jh:FT:=
 Zq (Zf Tg (Za 0)<|Za 4)
def Ji:FE:=
 tupF (Zl (Za 0)<|Zl (Z0 4 Qr<|Zd (Za 0)<|Zd (Za 1)<|Zd (Za 2)<|Zd (Za 3)<|Zh)<|Zp)
def O5:FT:=
 Zq (Zf I8 (Za 1)<|Zb .non)
def O6:FE:=
 tupF (Zl (Za 0)<|Zl (Za 2)<|Zl (Za 1)<|Zp)
def Ud:FT:=
 Zq (Zf P7 (Yh Qk<|Zd (Za 6) Zh)<|Zb<|.int 0)
def Jl:FS:=Zo (Sz 3<|Za 6)<|Zo (Q3 (Y9<|Za 6) (Zj 8) Go)<|Zo (ZX 7 1)<|Zo (Z1 9<|Cq<|Y3 [.own,.acc] 1 (Y9<|Za 3) (Zj 0) (Y1) Jg)<|Zo (Z1 10<|Cq<|Y3 [.own,.cap 4,.cap 5,.cap 2,.cap 9,.acc] 5 (Y9<|Yh B7<|Zd (Za 0) Zh) (Zj 0) (Jh) Ji)<|Z1 6<|Y3 [.own,.own,.cap 7,.acc] 3 (Y9<|Za 10) (W1 2<|Yj (Zj 0)<|Yj (Zj 1)<|W0) (O5) O6
def Ni:FS:=Zo (Z1 3<|Qa<|Zp)<|Zo (Z1 4<|Fa)<|Zo (Z1 5<|QZ)<|Zo (Z1 6<|Y3 [.own,.cap 0,.acc] 2 (Y9<|Z0 1 U4<|Zd (Za 1)<|Zh) (Zj 0) (Gm) Gn)<|Zo (Z1 7<|Zb<|.int 0)<|Zo (Qj Ud Jl L0)<|Ym<|Za 3
def Cv:=Yf Ni 11
def Bv:FS:=Ym<|Zf Yn (Md "str" Jf (Za 0)<|Zd (Zb<|.str "^") Zh)<|Zb<|.int 2
def U7:=Yf Bv 1
def Gp:FS:=Wo (Zq<|Zf Tg (Za 6)<|Za 0) (Ql)<|Yb
def El:FE:=
 Zf Yn (Za 0) (Zb<|.int 0)
def Gq:FE:=
 Z0 4 R7 (Zd (Za 1)<|Zd (Za 2)<|Zd (Za 0)<|Zd (Zf Yn (Za 3)<|Zb<|.str "row")<|Zh)
def Gr:FE:=
 Z0 2 O4 (Zd (Za 0)<|Zd (Z0 1 U7<|Zd (Za 1)<|Zh)<|Zh)
def Ts:FS:=Zo (Z1 4<|Z0 1 R3<|Zd (Za 3)<|Zh)<|Zo (Z1 5<|Z0 1 W9<|Zd (Za 4)<|Zh)<|Zo (Q3 (Y9<|Za 5) (Zj 6) Gp)<|Zo (Z1 7<|Y3 [.own,.acc] 1 (Y9<|Z0 3 Cv<|Zd (Za 0)<|Zd (Za 5)<|Zd (Zf Yn (Za 2)<|Zb<|.str "many")<|Zh) (Zj 0) (Y1) El)<|Zo (Z1 8<|Z0 4 Ua<|Zd (Za 0)<|Zd (Za 1)<|Zd (Za 7)<|Zd (Zf Yn (Za 2)<|Zb<|.str "order")<|Zh)<|Zo (Z1 9<|Z0 1 U2<|Zd (Z0 4 Uc<|Zd (Za 0)<|Zd (Za 1)<|Zd (Za 8)<|Zd (Zf Yn (Za 2)<|Zb<|.str "ladder")<|Zh)<|Zh)<|Zo (Z1 10<|Y3 [.own,.cap 0,.cap 1,.cap 2,.acc] 4 (Y9<|Za 8) (Zj 0) (Y1) Gq)<|Zo (Z1 11<|Y3 [.own,.own,.acc] 2 (RH<|Zl (Za 10)<|Zl (Za 9) Zp) (W1 2<|Yj (Zj 0)<|Yj (Zj 1)<|W0) (Y1) Gr)<|Ym<|tupF<|Zl (Z0 2 Bt<|Zd (Za 4)<|Zd (Yh XF<|Zd (Za 8)<|Zd (Za 9) Zh)<|Zh)<|Zl (Yh XG<|Zd (Za 8)<|Zd (Za 11) Zh)<|Zp
def Gs:=Yf Ts 12
def Ju:FT:=
 Zq (Zf neY (Za 0)<|Za 3)
def On:FE:=
 Zf inZ (Za 1) (Zf Yn (Za 2)<|Za 0)
def Qs:FS:=Wo (QV<|Zq<|Zf Tg (Zb<|.bl aC)<|Y3 [.own,.cap 2,.cap 0,.cap 1,.acc] 4 (ZW<|Zd (Yh Qk<|Zd (Za 0) Zh) Zh) (Zj 0) (Ju) On) (Ym<|Za 2)<|Yb
def Tt:FS:=Zo (Q3 (Y9<|Zf Yn (Za 0)<|Za 1) (Zj 2) Qs)<|Ym<|Zb .non
def Ue:=Yf Tt 3
def Qt:FS:=Zo (Z1 5<|Z0 2 Ue<|Zd (Za 0)<|Zd (Za 3)<|Zh)<|Wo (Zq<|Zf Ey (Za 5)<|Zb .non) (Zo (Cn 2 (Zf Yn (Za 4)<|Af Mo<|Zb<|.int 1)<|Zf Yu (Pa "dict" Oz (Za 2)<|Zl (Zf Yn (Za 4)<|Af Mo<|Zb<|.int 1)<|Zl (Zb<|.int 0)<|Zp)<|Zb<|.int 1)<|B3 1<|tupF<|Zl (Zf Yu (Zf Yn (Za 4)<|Af Mo<|Zb<|.int 1)<|Zb<|.str "^")<|Zl (Z0 1 Cu<|Zd (Zf K6 (Zf Yn (Za 2)<|Zf Yn (Za 4)<|Af Mo<|Zb<|.int 1)<|Zb<|.int 1)<|Zh)<|Zp)<|B3 1<|tupF<|Zl (Za 5)<|Zl (Zb<|.str "")<|Zp
def Tu:FS:=Zo (Z1 1<|Qa<|Zp)<|Zo (Z1 2<|Fa)<|Zo (Q3 (K8<|Zl (Za 0) Zp) (W1 2<|Yj (Zj 3)<|Yj (Zj 4)<|W0) Qt)<|Ym<|Za 1
def O7:=Yf Tu 6
def Uq:FS:=Zo (Wo (Zq<|Zf ltD (Za 1)<|Yh Qk<|Zd (Za 0) Zh) (Ym<|Zf Yn (Za 0)<|Za 1)<|Yb)<|Ym<|Zb<|.int 0
def Y6:=Yf Uq 2
def Gu:FS:=Wo (Zq<|Af (Mn "str")<|Za 2) (Z1 1<|Zf Yu (Za 1)<|Za 2)<|Wo (Zq<|Zf Ey (Zf Yn (Za 2)<|Zb<|.int 1)<|Zb .non) (Z1 1<|Zf Yu (Zf Yu (Zf Yu (Za 1)<|Zb<|.str "<")<|Zf Yn (Za 2)<|Zb<|.int 0)<|Zb<|.str ">")<|Z1 1<|Zf Yu (Zf Yu (Zf Yu (Zf Yu (Zf Yu (Za 1)<|Zb<|.str "<")<|Zf Yn (Za 2)<|Zb<|.int 0)<|Zb<|.str " ")<|Zf Yn (Za 2)<|Zb<|.int 1)<|Zb<|.str ">"
def Tv:FS:=Zo (Z1 1<|Zb<|.str "")<|Zo (Q3 (Y9<|Za 0) (Zj 2) Gu)<|Ym<|Za 1
def Gv:=Yf Tv 3
def U8:FS:=Wo (Zq<|Af (Mn "str")<|Za 5) (Z1 3<|Zf Yu (Za 3)<|Za 5)<|Zo (Z1 6<|Zb<|.str "there")<|Zo (Wo (Zq<|Zf neY (Zf Yn (Za 5)<|Zb<|.int 0)<|Za 4) (Z1 6<|Md "str" Jo (Zb<|.str "")<|Zd (Zf Yn (Za 2)<|Md "list" E7 (Za 1)<|Zd (Zf Yn (Za 5)<|Zb<|.int 0) Zh) Zh)<|Yb)<|Zo (Wo (Zq<|Zf I8 (Zf Yn (Za 5)<|Zb<|.int 1)<|Zb .non) (Z1 6<|Zf Yu (Zf Yu (Za 6)<|Zb<|.str ", ")<|Zf Yn (Za 5)<|Zb<|.int 1)<|Yb)<|Zo (Z1 3<|Zf Yu (Zf Yu (Zf Yu (Za 3)<|Zb<|.str "(")<|Za 6)<|Zb<|.str ")")<|Z1 4<|Zf Yn (Za 5)<|Zb<|.int 0
def Im:FS:=Zo (Z1 3<|Zb<|.str "")<|Zo (Z1 4<|Zb .non)<|Zo (Q3 (Y9<|Za 0) (Zj 5) U8)<|Ym<|Za 3
def Mj:=Yf Im 7
def Em:FT:=
 Mm (Zq<|Af (Mn "str")<|Za 0)
def En:FE:=
 Zf Yn (Za 0) (Zb<|.int 0)
def MW:FE:=
 Zf Yn (Za 0) (Zb<|.int 0)
def Hg:FS:=Zo (Z1 15<|Zf Yn (Zf Yn (Za 11)<|Za 13)<|Zb<|.int 0)<|Zo (Wo (Zq<|Zf neY (Zf Yn (Zf Yn (Za 10)<|Za 13)<|Zb<|.int 1)<|Zb<|.str "") (Z1 15<|Zf Yu (Zf Yu (Za 15)<|Zb<|.str " ^")<|Zf Yn (Zf Yn (Za 10)<|Za 13)<|Zb<|.int 1)<|Yb)<|B3 12<|tupF<|Zl (Za 14)<|Zl (Za 15)<|Zp
def VW:FS:=Zo (Z1 1<|Yh D3<|Zd (slF Dh (Za 0) (Q4<|Zb<|.int 4)<|Q4<|Zb<|.int 14) Zh)<|Zo (Wo (Zq<|Zf Cz (Yh Qk<|Zd (Za 1) Zh)<|Zb<|.int 0) (Z1 1<|Qa<|Zl (Zb<|.int 1)<|Zp)<|Yb)<|Zo (Z1 2<|Z0 2 C8<|Zd (Z0 2 Y6<|Zd (Za 0)<|Zd (Zb<|.int 0)<|Zh)<|Zd (Yh Qk<|Zd (Za 1) Zh)<|Zh)<|Zo (Z1 3<|Z0 2 Uz<|Zd (Za 2)<|Zd (Za 1)<|Zh)<|Zo (Z1 4<|Xw [("part",Qa<|Zl (tupF<|W7 ["title","title"]<|Zp)<|Zl (tupF<|W7 ["year","year"]<|Zp)<|Zl (tupF<|W7 ["book","title"]<|Zp)<|Zp)])<|Zo (Z1 5<|Z0 2 U1<|Zd (Z0 2 Y6<|Zd (Za 0)<|Zd (Zb<|.int 1)<|Zh)<|Zd (Z0 2 Y6<|Zd (Za 0)<|Zd (Zb<|.int 2)<|Zh)<|Zh)<|Zo (Z1 6<|Z0 2 Bq<|Zd (Za 2)<|Zd (Z0 2 Y6<|Zd (Za 0)<|Zd (Zb<|.int 3)<|Zh)<|Zh)<|Zo (Z1 7<|Z0 4 Gs<|Zd (Za 3)<|Zd (Za 4)<|Zd (Za 5)<|Zd (Z0 1 Gv<|Zd (Za 6)<|Zh)<|Zh)<|Zo (Wo (orF (Zq<|Zf neY (Za 3)<|Z0 2 Uz<|Zd (Za 2)<|Zd (Za 1)<|Zh)<|Zq<|Zf neY (Za 5)<|Z0 2 U1<|Zd (Z0 2 Y6<|Zd (Za 0)<|Zd (Zb<|.int 1)<|Zh)<|Zd (Z0 2 Y6<|Zd (Za 0)<|Zd (Zb<|.int 2)<|Zh)<|Zh) (Ym<|Zb<|.bl aE)<|Yb)<|Zo (Z1 8<|Y3 [.own,.acc] 1 (Y9<|Za 6) (Zj 0) (Em) En)<|Zo (Z1 9<|Y3 [.own,.acc] 1 (Y9<|Z0 3 Cv<|Zd (Za 3)<|Zd (Za 8)<|Zd (Zf Yn (Za 5)<|Zb<|.str "many")<|Zh) (Zj 0) (Y1) MW)<|Zo (Z1 9<|Z0 4 Ua<|Zd (Za 3)<|Zd (Za 4)<|Zd (Za 9)<|Zd (Zf Yn (Za 5)<|Zb<|.str "order")<|Zh)<|Zo (Z1 10<|Z0 1 O7<|Zd (Z0 4 Uc<|Zd (Za 3)<|Zd (Za 4)<|Zd (Za 9)<|Zd (Zf Yn (Za 5)<|Zb<|.str "ladder")<|Zh)<|Zh)<|Zo (Z1 11<|Z0 4 Uc<|Zd (Za 3)<|Zd (Za 4)<|Zd (Za 9)<|Zd (Qa<|Zl (Zf Yn (Za 5)<|Zb<|.str "row")<|Zp)<|Zh)<|Zo (Z1 12<|Qa<|Zp)<|Zo (Q3 (K8<|Zl (Za 9) Zp) (W1 2<|Yj (Zj 13)<|Yj (Zj 14)<|W0) Hg)<|Zo (Wo (orF (Mm<|Zq<|Af (Mn "tuple")<|Za 7)<|orF (Zq<|Zf neY (Yh Qk<|Zd (Za 7) Zh)<|Zb<|.int 2)<|Mm<|Zq<|Af (Mn "list")<|Zf Yn (Za 7)<|Zb<|.int 1) (Ym<|Zb<|.bl aE)<|Yb)<|Ym<|VJ (Zf Cz (Zf Yn (Za 7)<|Zb<|.int 1)<|Za 12)<|Zf Cz (Zf Yn (Za 7)<|Zb<|.int 0)<|Z0 3 Mj<|Zd (Za 6)<|Zd (Za 9)<|Zd (Za 10)<|Zh
def VU:=Yf VW 16
abbrev At(K:ak)(x:Str)(i:Nat):Prop:=∃f fd,AtF K x (top i) f fd
structure Env(K:ak)(mg:Str->Á am)(c0:aq)(ZC ZB:aq):Prop where
 u:Und K mg
 a0:At K "_law_numbers" 82
 a1:At K "_law_keys" 83
 a2:At K "_law_shelf" 84
 a3:At K "signs_end" 49
 a4:At K "cut_end" 48
 a5:At K "cuts_of" 47
 a6:At K "begin_group" 50
 a7:At K "end_group" 51
 a8:At K "is_all_of" 14
 a9:At K "is_text_of" 15
 a10:At K "is_name" 16
 a11:At K "check_name" 54
 a12:At K "read_hands_piece" 53
 a13:At K "read_piece" 52
 a14:At K "read_template" 46
 a15:At K "_law_style" 85
 a16:At K "_law_parts" 86
 a17:At K "angled" 19
 a18:At K "is_plain" 17
 a19:At K "read_point" 64
 a20:At K "read_text" 63
 a21:At K "point_keys" 65
 a22:At K "other_field" 29
 a23:At K "pair_behind" 28
 a24:At K "way" 27
 a25:At K "had" 30
 a26:At K "rank" 72
 a27:∃f fd,AtC K c0 "in_order" (top 71) f fd
 a28:At K "rival" 21
 a29:At K "step_of" 22
 a30:At K "letter" 23
 a31:At K "pointings" 24
 a32:At K "told_field" 57
 a33:At K "told_hand" 38
 a34:At K "told_hands" 39
 a35:At K "read_hand" 37
 a36:At K "read_hands" 36
 a37:At K "told_names" 58
 a38:At K "told_group" 59
 a39:At K "told_piece" 56
 a40:At K "fill" 55
 a41:At K "all_had" 31
 a42:At K "each_once" 18
 a43:At K "names_in" 61
 a44:At K "asked" 60
 a45:At K "filled" 75
 a46:At K "steps_row" 74
 a47:At K "steps_of" 73
 a48:At K "told_row" 77
 a49:At K "told_point" 79
 a50:At K "told_text" 78
 a51:At K "note_keys" 66
 a52:At K "take_in" 69
 a53:At K "reason_for" 70
 a54:At K "listed" 68
 a55:At K "letter_in" 25
 a56:At K "set_text" 76
 a57:At K "_law_step" 88
 a58:At K "_law_told" 89
 a59:At K "_law_cell_at" 81
 a60:At K "_law_text" 87
 a61:At K "_law_due" 90
 a62:At K "law" 91
 bz:gu K f6 "NoHands"=aA (aA<|.ref ZC)
 bx:gu K f6 "NoText"=aA (aA<|.ref ZB)
 bw:tm K (.ref ZC)=aA (.type "type")
 bv:pg K ZC=aC
 bu:jd K ZC (.type "BaseException")=aA aC
 bt:tm K (.ref ZB)=aA (.type "type")
 bs:pg K ZB=aC
 br:jd K ZB (.type "BaseException")=aA aC
 bq:jd K ZB (.ref ZC)=aA aE
 bp:jd K ZB (.ref ZB)=aA aC
 bo:ExcOk K ZB VEB "ValueError.__new__"
 bn:mg "all"=aB
 bm:mg "dict"=aB
 bl:mg "enumerate"=aB
 bk:mg "int"=aB
 bj:mg "isinstance"=aB
 bi:mg "len"=aB
 bh:mg "list"=aB
 bg:mg "range"=aB
 bf:mg "sorted"=aB
 be:mg "str"=aB
 bd:mg "tuple"=aB
 bc:mg "zip"=aB
 bb:∃t,gu K f6 "LETTERS"=aA (aA<|.str "ABCDEFGHIJKLMNOPQRSTUVWXYZabcdefghijklmnopqrstuvwxyz" t)
 ba:∃t,gu K f6 "MANY_FIGURES"=aA (aA<|.str "123456789" t)
 cz:∃t,gu K f6 "MOST_DEEP"=aA (aA<|.int 3 t)
 cy:∃t,gu K f6 "MOST_GIVENS"=aA (aA<|.int 4 t)
 cx:∃t,gu K f6 "MOST_HANDS"=aA (aA<|.int 6 t)
 cw:∃t,gu K f6 "MOST_NAMES"=aA (aA<|.int 4 t)
 cv:∃t,gu K f6 "MOST_PIECES"=aA (aA<|.int 30 t)
 cu:∃t,gu K f6 "NAME_LENGTH"=aA (aA<|.int 8 t)
 ct:∃t,gu K f6 "PLAIN_LENGTH"=aA (aA<|.int 80 t)
 cs:∃t,gu K f6 "PLAIN_SIGNS"=aA (aA<|.str "ABCDEFGHIJKLMNOPQRSTUVWXYZabcdefghijklmnopqrstuvwxyz0123456789 .,!?'-/()&+*=" t)
 cr:∃t,gu K f6 "SMALL_LETTERS"=aA (aA<|.str "abcdefghijklmnopqrstuvwxyz" t)
 cq:∃t,gu K f6 "STYLE_SIGNS"=aA (aA<|.str "ABCDEFGHIJKLMNOPQRSTUVWXYZabcdefghijklmnopqrstuvwxyz0123456789 .,!?'-/()&+*=:;" t)
 cp:∃t,gu K f6 "WAY_FIGURES"=aA (aA<|.str "012" t)
 co:∃t,gu K f6 "WORD_LENGTH"=aA (aA<|.int 15 t)
noncomputable abbrev QN:Str:=(aa "in_order"++ ".<locals>."++ "<lambda>")
structure Ev(P:eg)(w:gq)(K:ak)(mg:Str->Á am)(base:ie)(c0 tq ZC ZB:aq):Prop extends Env K mg c0 ZC ZB where
 v:UnP P w base K mg
 kb:K.In base
 CT:FU base c0 tq
 BM:L2.Av mg base
section
variable{P:eg}{w:gq}{K:ak}{mg:Str->Á am}{base:ie}{c0 tq ZC ZB:aq}(E:Ev P w K mg base c0 tq ZC ZB)
include E
def k0:=J3 E.v E.a0 0 2 ["_law_cell","_law_many","_law_found","_law_number","_law_k"] Yx Ui λa _ h f c=>(Ze (Zu 2 a<|Wi Ye)<|Ze (Zu 3 a<|Je (Zc 0) Zk)<|Ze (Ys (Ws c (Wa (Zc 0) Zk) Zk) (Ze (Wr dq rfl (P8 E.bg<|Zc 1) (Z6 4 a) (Ze (Ob 2<|Wa (Zc 3) Zk)<|Zi<|Zu 3 a<|Je (Zc 3) Zk))<|Zi<|Z3<|Zc 2) Z4)<|Ze (Zu 3 a<|Wa (Zc 3) Zk)<|Ze (Wr dq rfl (P8 E.bg<|Zc 1) (Z6 4 a) (Ze (Zu 3 a<|Wa (Xt (Yo (Yo (Zc 3)<|Zc 4) Zk) Zk) Zk)<|Zi<|Ob 2<|Wa (Xt (Zc 3) Zk) Zk))<|Zi<|Z3<|Zc 2)
def k1:=J3 E.v E.a1 1 2 ["_law_cell","_law_many","_law_letters","_law_some","_law_size","_law_at","_law_keys_here","_law_turn","_law_key","_law_k"] C8 Tj λa _ h c f=>(Ze (Zu 2 a Zx)<|Ze (Zu 3 a<|Zt (k0 E) h<|Zg (Zc 0)<|Zg Zk Zw)<|Ze (Zu 4 a<|Yo Zk<|Wa (Zn c (Zc 3) Zk) Zk)<|Ze (Zu 5 a<|Wa (Zn c (Zc 3) Zk)<|Zc 4)<|Ze (Zu 6 a<|Wi Ye)<|Ze (Wr dq rfl (P8 E.bg<|Zc 1) (Z6 7 a) (Ze (Zu 8 a Zx)<|Ze (Wr dq rfl (P8 E.bg<|Zc 4) (Z6 9 a) (Zi<|Zu 8 a<|Yo (Zc 8)<|Zn c (Zc 2)<|Wa (Yo (Zn c (Zc 3)<|Zc 9)<|Xt (Xt Zk<|Zc 7)<|tT E.bk<|UD f (Zc 9)<|Zc 5) Zk))<|Zi<|Ob 6<|Zc 8))<|Zi<|Z3<|Zc 6)
def k2:=J3 E.v E.a2 1 2 ["_law_keys_here","_law_cells","_law_shelf_here","_law_k","_law_cell","_law_some","_law_fields"] Uz Ry λc _ h a f=>(Ze (Zu 2 c C5)<|Ze (Wr dq rfl (Ez E.bl<|Zc 1) (I9 rfl (Wx (Z6 3 c)<|Wx (Z6 4 c) Rr)) (Ze (Zu 5 c<|Zt (k0 E) h<|Zg (Zc 4)<|Zg Zk Zw)<|Ze (Zu 6 c<|Xx (Me Zx TX)<|show(["pages"]:À Str).Nodup by decide+kernel)<|Ze (Ys (Ft (Wa (Zn a (Zc 5) Zk) Zk) Zk) (Zi<|Co 6 a Zx<|Zn a (Wi<|Qq [("So it is",_,_),("It",_,_),("10",_,_)] Ye)<|Wa (Je (Zn a (Zc 5) Zk) Zk) Zk) Z4)<|Ze (Ys (Ft (Wa (Zn a (Zc 5) Zk) Zk) Zk) (Zi<|Co 6 a Zx<|Zn a (Wi<|Qq [("2001",_,_),("1999",_,_)] Ye)<|Wa (Je (Zn a (Zc 5) Zk) Zk) Zk) Z4)<|Ze (Ys (Ft (Wa (Zn a (Zc 5) Zk) Zk) Zk) (Zi<|Co 6 a Zx<|Zn a (Wi<|Qq [("Lee, Ann",_,_),("Lee, Al",_,_),("Kim, Bo & Lee, Ann C & Ng",_,_)] Ye)<|Wa (Je (Zn a (Zc 5) Zk) Zk) Zk) Z4)<|Ze (Ys (PW.pt<|WC (Ws f (Wa (Zn a (Zc 5) Zk) Zk) Zk)<|Xi<|YW (Yo (Zc 3) Zk)<|W4 E.bi<|Zc 0) (Zi<|Co 6 a Zx<|Zn a (Zc 0)<|Yo (Yo (Zc 3) Zk)<|Wa (Zn a (Zc 5) Zk)<|D5 (D5 (W4 E.bi<|Zc 0)<|Zc 3) Zk) Z4)<|Ze (Ys (Ws f (Wa (Zn a (Zc 5) Zk) Zk) Zk) (Ze (Co 6 a Zx<|Yo (Yo Zx<|Zn a (Zc 0)<|Wa (Je (Zn a (Zc 5) Zk) Zk)<|W4 E.bi<|Zc 0) Zx)<|Zi<|Co 6 a Zx<|Yo (Yo (Yo (Zn a (Zc 6) Zx) Zx)<|Zn a (Zc 0)<|Wa (Zn a (Zc 5) Zk)<|W4 E.bi<|Zc 0) Zx) Z4)<|Zi<|Co 2 a (Zn a (Zc 0)<|Zc 3)<|Ww<|Zv (Zn a (Wi<|Qq [("part",_,_),("book",_,_)] Ye)<|Wa (Zn a (Zc 5) Zk) Zk)<|Zv (Zc 6) Ye))<|Zi<|Z3<|Zc 2)
def k3:=J3 E.v E.a3 0 2 ["text","place","end"] Ff Fe λa _ h c f=>(Ze (Zu 2 a<|Zc 1)<|Ze (Ak L0 dq (PW.pt<|WC (YW (Zc 2)<|W4 E.bi<|Zc 0)<|Xi<|M0 c (Zn c (Zc 0)<|Zc 2)<|Bl E.u E.cq)<|Zi<|QR 2 a)<|Zi<|Z3<|Zc 2)
def k4:=J3 E.v E.a4 1 2 ["text","place","end"] Vb Va λc _ h a f=>(Ze (Ys (M0 a (Zn a (Zc 0)<|Zc 1) Zx) (Zi<|Z3<|Yo (Zc 1) Zk) Z4)<|Ze (Ys (Ws f (Zn a (Zc 0)<|Zc 1) Zx) (Zi<|Zu 2 c<|Yo (pF (Zc 0) Zx<|Zc 1) Zk)<|Zi<|Zu 2 c<|Zt (k3 E) h<|Zg (Zc 0)<|Zg (Zc 1) Zw)<|Ze (Ys (gX (Zc 2)<|Zc 1) (Zi Wq) Z4)<|Zi<|Z3<|Zc 2)
def k5:=J3 E.v E.a5 2 1 ["text","cuts","place","end"] Ig Vc λa _ c h f=>(Ze (Zu 1 a<|Wi Ye)<|Ze (Zu 2 a Zk)<|Ze (Ak L0 dq (YW (Zc 2)<|W4 E.bi<|Zc 0)<|Ze (Zu 3 a<|Zt (k4 E) c<|Zg (Zc 0)<|Zg (Zc 2) Zw)<|Ze (Ob 1<|N7 (Zc 0) (Qv<|Zc 2)<|Qv<|Zc 3)<|Zi<|Zu 2 a<|Zc 3)<|Zi<|Z3<|Zc 1)
def k6:=SW E.v E.a6 0 1 ["levels"] Uk B9 λa _ h f c=>(Ze (Ys (Ft (UZ 0 E.bi<|M1 0)<|Bm E.u E.cz) (Zi Wq) Z4)<|Zi<|uR 0)
def k7:=SW E.v E.a7 0 1 ["levels","pieces"] Bp Rz λc _ h f a=>(Ze (Ys (Ws a (UZ 0 E.bi<|M1 0) Zk) (Zi Wq) Z4)<|Ze (uQ 1 0 c)<|Ze (Ys (Ws a (W4 E.bi<|Zc 1) Zk) (Zi Wq) Z4)<|Zi<|Sn 0 (QS<|M1 0)<|Ww<|Zv Zx<|Zv (Fy E.bd<|Zc 1) Ye)
def k8:=J3 E.v E.a8 0 2 ["text","signs"] U0 R0 λa _ h c f=>(Zi<|Z3<|xA E.bn<|O1 ["sign","signs",".acc"] (Y4<|Zc 0) (λa=>(Z6 0 a)) (Xk)<|(QX c (Zc 0)<|Zc 1))
def k9:=J3 E.v E.a9 1 3 ["value","signs","most"] Wt C9 λc _ a h f=>(Ze (Ys (Oy<|Jn<|G2 E.bj E.be qw (Ug _)<|Zc 0) (Zi<|Z3 YX) Z4)<|Zi<|Z3<|OB (nE UJ VH UJ VH Zk (W4 E.bi<|Zc 0)<|Zc 2)<|OC<|Zt (k8 E) a<|Zg (Zc 0)<|Zg (Zc 1) Zw)
def k10:=J3 E.v E.a10 2 1 ["value"] Ct Ih λc _ a h f=>(Zi<|Z3<|Zt (k9 E) a<|Zg (Zc 0)<|Zg (Bl E.u E.cr)<|Zg (Bm E.u E.cu) Zw)
def k11:=J3 E.v E.a11 3 1 ["name"] Ga A7 λf _ c h a=>(Zi<|Ys (PW.pt<|ZT (Oy<|Jn<|Zt (k10 E) c<|Zg (Zc 0) Zw)<|D6<|Ws a (Zc 0) Zx) (Zi Wq) Z4)
def k12:=J3 E.v E.a12 4 1 ["words"] O3 O2 λf _ c a h=>(Ze (NV<|Zt (k11 E) c<|Zg (Zn a (Zc 0) Zk) Zw)<|Ze (Ys (Oy<|Jn<|Zt (k9 E) c<|Zg (Zn a (Zc 0) Zk)<|Zg (Bl E.u E.ba)<|Zg Zk Zw) (Zi Wq) Z4)<|Ze (Ys (Oy<|Jn<|Zt (k9 E) c<|Zg (Zn a (Zc 0) Zk)<|Zg (Bl E.u E.cp)<|Zg Zk Zw) (Zi Wq) Z4)<|Zi<|Z3<|Ww<|Zv Zx<|Zv (Zn a (Zc 0) Zk)<|Zv (NF E.bk<|Zn a (Zc 0) Zk)<|Zv (NF E.bk<|Zn a (Zc 0) Zk) Ye)
def k13:=J3 E.v E.a13 5 1 ["cut","words","names","name"] Jq A8 λa _ f h c=>(Ze (Ys (As c (Zn h (Zc 0) Zk) Zx) (Zi<|Z3<|Ww<|Zv Zx<|Zv (Zc 0) Ye) Z4)<|Ze (Zu 1 a<|Ao (N7 (Zc 0) (Qv Zk)<|Qv<|Cm Zk) Zx)<|Ze (Ys (Ws c (W4 E.bi<|Zc 1) Zk) (Zi<|Z3<|Zt (k12 E) f<|Zg (Zc 1) Zw) Z4)<|Ze (Zu 2 a<|Fy E.bd<|Ao (N7 (Zc 0) (Qv Zk)<|Qv<|Cm Zk) Zx)<|Ze (Ys (Ft (W4 E.bi<|Zc 2)<|Bm E.u E.cw) (Zi Wq) Z4)<|Ze (Wr dq rfl (Y4<|Zc 2) (Z6 3 a) (Zi<|NV<|Zt (k11 E) f<|Zg (Zc 3) Zw))<|Zi<|Z3<|Ww<|Zv Zx<|Zv (Zc 2) Ye)
def k14:=J3 E.v E.a14 6 1 ["text","cuts","levels","cut"] Yy Oa λc _ a h f=>(Ze (Ys (Oy<|Jn<|G2 E.bj E.be qw (Ug _)<|Zc 0) (Zi Wq) Z4)<|Ze (Zu 1 c<|Zt (k5 E) a<|Zg (Zc 0) Zw)<|Ze (Ys (Ft (D5 (W4 E.bi<|Zc 1)<|pG (Zc 1) Zx)<|Bm E.u E.cv) (Zi Wq) Z4)<|Ze (Zu 2 c uS)<|Ze (Wr dq rfl (Y4<|Zc 1) (Z6 3 c) (Zi<|Ys (Ws f (Zc 3) Zx) (Zi<|QH 2 (k6 E) a<|M1 2)<|Zi<|Ys (Ws f (Zc 3) Zx) (Zi<|QH 2 (k7 E) a<|M1 2)<|Zi<|Sn 2 (QS<|M1 2)<|Zt (k13 E) a<|Zg (Zc 3) Zw))<|Ze (Ys (Ft (UZ 2 E.bi<|M1 2) Zk) (Zi Wq) Z4)<|Zi<|Z3<|jO 2 E.bd<|M1 2)
def k15:=J3 E.v E.a15 7 2 ["_law_one","_law_other","_law_some","_law_ladder","_law_order","_law_row"] U1 Fg λa _ c f h=>(Ze (Zu 2 a<|Wi<|Qq [("{hands 1 0}",_,_),("{hands 1 0} {year}",_,_),("{hands 2 1} {year}",_,_),("{hands 9 2}, {year}",_,_),("{title}",_,_)] Ye)<|Ze (Zu 2 a<|Yo (Zc 2)<|Wi<|Qq [("{hands 9 2}: {title}",_,_),("{book|title}",_,_),("[{hands 9 2}, ][{year}, ]{title}",_,_),("{kind|title}",_,_),("",_,_)] Ye)<|Ze (Wg 3 ["_law_number","_law_some",".acc"] a (Y4<|Zt (k0 E) c<|Zg (Zc 0)<|Zg (Yo Zk<|Wa (Zc 0) Zk) Zw) (λa=>(Z6 0 a)) (Xk)<|(Zt (k14 E) c<|Zg (Zn f (Zc 1)<|Wa (Je (Zc 0) Zk) Zk) Zw))<|Ze (Ys (Ws h (Wa (Je (Zc 0) Zk) Zk) Zk) (Zi<|Wg 3 ["_law_text_here",".acc"] a (Y4<|N7 (Zc 2) (Qv Zk)<|Qv<|Yo Zk<|Wa (Zc 0) Zk) (λa=>(Z6 0 a)) (Xk)<|(Zt (k14 E) c<|Zg (Zc 0) Zw)) Z4)<|Ze (Wg 4 ["_law_number",".acc"] a (Y4<|Zt (k0 E) c<|Zg (Zc 1)<|Zg (Wa (Zc 1) Zk) Zw) (λa=>(Z6 0 a)) (Xk)<|(Zn f (Wi<|Qq [("hands",_,_),("year",_,_),("title",_,_),("book",_,_)] Ye)<|Wa (Zc 0) Zk))<|Ze (Zu 5 a<|Zt (k14 E) c<|Zg (Zn f (Wi<|Qq [("{hands 9 2}. {title}[, in {book}], {year}",_,_),("{title}",_,_),("",_,_)] Ye)<|Wa (Je (Zc 1) Zk) Zk) Zw)<|Zi<|Z3<|Xx (Me (Zc 3)<|Me (Zc 5)<|Me (Zc 4)<|Me (Yo Zk<|Wa (Je (Zc 1) Zk) Zk) TX)<|show(["ladder","row","order","many"]:À Str).Nodup by decide+kernel)
def k16:=J3 E.v E.a16 1 2 ["_law_keys_here","_law_cell","_law_parts_here","_law_last","_law_number"] Bq R1 λc _ h a f=>(Ze (Zu 2 c<|Wi Ye)<|Ze (Zu 3 c<|Zn a (Zc 0) Zk)<|Ze (Wr dq rfl (Y4<|Zt (k0 E) h<|Zg (Zc 1)<|Zg (Wa (Zc 1) Zk) Zw) (Z6 4 c) (Zi<|Ys (PW.pt<|WC (Ws f (Wa (Zc 4) Zk) Zk)<|Xi<|PW.pt<|ZT (Ws f (W4 E.bi<|Zc 2) Zk)<|D6<|Oy<|Jn<|G2 E.bj E.be qw (Ug _)<|Zn a (Zc 2)<|Cm Zk) (Zi<|Ob 2<|Zn a (Wi<|Qq [(" so: ",_,_),("; and\n",_,_),("(it) ",_,_)] Ye)<|Wa (Je (Zc 4) Zk) Zk)<|Ze (Ys (Ft (Wa (Je (Zc 4) Zk) Zk) Zk) (Zi<|Zu 3 c<|Zn a (Zc 0)<|Wa (Je (Zc 4) Zk)<|W4 E.bi<|Zc 0) Z4)<|Zi<|Ob 2<|Ww<|Zv (Zc 3)<|Zv (Zn a (Wi<|Zv Wl<|Qq [("12-14",_,_),(" x",_,_)] Ye)<|Wa (Je (Zc 4) Zk) Zk) Ye))<|Zi<|Z3<|Zc 2)
def k17:=J3 E.v E.a17 1 2 ["text","signs","runs","cuts","run","halves"] A9 L6 λa _ h c f=>(Ze (Zu 2 a<|Ao (Zc 0) Zx)<|Ze (Zu 3 a<|Wi<|Zv (Zn c (Zc 2) Zk) Ye)<|Ze (Wr dq rfl (Y4<|N7 (Zc 2) (Qv Zk) Te) (Z6 4 a) (Ze (Zu 5 a<|Bi (Zc 4) Zx)<|Ze (Ys (Ws f (Zn c (Zc 5) Zk) Zx) (Zi<|Z3 Wl) Z4)<|Zi<|QW 3<|Wi<|Zv (Zn c (Zc 5) Zk)<|Zv (Zn c (Zc 5) Zk) Ye))<|Zi<|Z3<|YV (Jn<|Zt (k8 E) h<|Zg (Uh Zx<|yT (Zc 3) Te Te<|Qv Zk)<|Zg (Zc 1) Zw) (Zc 3) Wl)
def k18:=J3 E.v E.a18 2 1 ["value"] Gc Tk λc _ a h f=>(Zi<|Z3<|Zt (k9 E) a<|Zg (Zc 0)<|Zg (Bl E.u E.cs)<|Zg (Bm E.u E.ct) Zw)
def k19:=SY E.v E.a19 3 1 ["text","halves"] Oi Gd λf _ c a h=>(Ze (Zu 1 f<|Bi (Zc 0) Zx)<|Ze (Ys (Oy<|Jn<|Zt (k10 E) c<|Zg (Zn a (Zc 1) Zk) Zw) (Zi<|Ka Cj rfl (C6 E.kb (E.u E.bx) E.bo) E.bx) Z4)<|Ze (Ys (Ws h (Zn a (Zc 1) Zk) Zx) (Zi<|Z3<|Ww<|Zv Zx<|Zv (Zn a (Zc 1) Zk)<|Zv Wl Ye) Z4)<|Ze (Ys (Oy<|Jn<|Zt (k18 E) c<|Zg (Zn a (Zc 1) Zk) Zw) (Zi<|Ka Cj rfl (C6 E.kb (E.u E.bx) E.bo) E.bx) Z4)<|Zi<|Z3<|Ww<|Zv Zx<|Zv (Zn a (Zc 1) Zk)<|Zv (Zn a (Zc 1) Zk) Ye)
def k20:=SY E.v E.a20 4 1 ["text","cuts","parts","place","cut"] W5 Br λa _ f h c=>(Ze (Ys (Oy<|Jn<|G2 E.bj E.be qw (Ug _)<|Zc 0) (Zi<|Ka Cj rfl (C6 E.kb (E.u E.bx) E.bo) E.bx) Z4)<|Ze (Zu 1 a<|Zt (k17 E) f<|Zg (Zc 0)<|Zg (Yo (Bl E.u E.cq) Zx) Zw)<|Ze (Ys (Mz (Zc 1) Wl) (Zi<|Ka Cj rfl (C6 E.kb (E.u E.bx) E.bo) E.bx) Z4)<|Ze (Zu 2 a<|Wi Ye)<|Ze (Wr PassesOwn.leaving rfl (Ez E.bl<|Zc 1) (I9 rfl (Wx (Z6 3 a)<|Wx (Z6 4 a) Rr)) (Zi<|Ys (Ws c (Wa (Zc 3) Zk) Zk) (Zi<|up 2<|L_ (k19 E) f mM<|LL (NJ<|Zc 4) NI)<|Zi<|Ys (As c (Zc 4) Zx) (Zi<|Ob 2<|Zc 4) Z4))<|Zi<|Z3<|Zc 2)
def k21:=J3 E.v E.a21 0 1 ["parts"] W9 Ge λa _ h c f=>(Zi<|Z3<|O1 ["part",".acc"] (Y4<|Zc 0) (λa=>(Z6 0 a)) (xt λ_=>(Oy<|Jn<|G2 E.bj E.be qw (Ug _)<|Zc 0))<|(Zn c (Zc 0) Zk))
def k22:=J3 E.v E.a22 0 3 ["table","kind","field","pair"] Um Cb λc _ h a f=>(Ze (Wr dq rfl (Y4<|Ru a (Zc 0)<|Zv (Zc 1)<|Zv (Wi Ye) Ye) (Z6 3 c) (Zi<|Ys (Ws f (Zn a (Zc 3) Zk)<|Zc 2) (Zi<|Z3<|Zn a (Zc 3) Zk) Z4))<|Zi<|Z3 Wl)
def k23:=J3 E.v E.a23 1 3 ["shelf","table","pair","work","fields","other","key"] Uo Cc λc _ f a h=>(Ze (Zu 3 c<|Zn a (Zc 0)<|Zn a (Zc 2) Zk)<|Ze (Zu 4 c<|Zn a (Zc 3) Zk)<|Ze (Ys (M0 a (Zn a (Zc 2) Zk)<|Zc 4) (Zi<|Z3 Wl) Z4)<|Ze (Zu 5 c<|Zt (k22 E) f<|Zg (Zc 1)<|Zg (Zn a (Zc 3) Zk)<|Zg (Zn a (Zc 2) Zk) Zw)<|Ze (Zu 6 c<|Ru a (Zc 4)<|Zv Zx Ye)<|Ze (Ys (PW.pt<|ZT (Mz (Zc 5) Wl)<|ZT (Mz (Zc 6) Wl)<|D6<|Au a (Zc 6)<|Zc 0) (Zi<|Z3 Wl) Z4)<|Zi<|Z3<|Ww<|Zv (Zc 6)<|Zv (Zc 5) Ye)
def k24:=J3 E.v E.a24 2 4 ["shelf","table","key","field","pairs","places","pair"] X_ VY λa _ f c h=>(Ze (Zu 4 a<|Wi Ye)<|Ze (Zu 5 a pS)<|Ze (Zu 6 a<|Ww<|Zv (Zc 2)<|Zv (Zc 3) Ye)<|Ze (Ak L0 dq (La (Zc 6) Wl)<|Ze (Ys (M0 c (Zc 6)<|Zc 5) (Zi Wq) Z4)<|Ze (Co 5 c (Zc 6)<|W4 E.bi<|Zc 4)<|Ze (Ob 4<|Zc 6)<|Zi<|Zu 6 a<|Zt (k23 E) f<|Zg (Zc 0)<|Zg (Zc 1)<|Zg (Zc 6) Zw)<|Zi<|Z3<|Zc 4)
def k25:=J3 E.v E.a25 3 4 ["shelf","table","key","field","last"] L7 VX λc _ f a h=>(Ze (Zu 4 c<|Zn a (Zt (k24 E) f<|Zg (Zc 0)<|Zg (Zc 1)<|Zg (Zc 2)<|Zg (Zc 3) Zw)<|Cm Zk)<|Zi<|Z3<|Ru a (Zn a (Zn a (Zc 0)<|Zn a (Zc 4) Zk) Zk)<|Zv (Zn a (Zc 4) Zk) Ye)
def k26:=J3 E.v E.a26 4 4 ["shelf","table","key","fields","texts"] Hc UP λa _ c h f=>(Ze (Wg 4 ["field","shelf","table","key",".acc"] a (Y4<|Zc 3) (λa=>(Z6 0 a)) (Xk)<|(Zt (k25 E) c<|Zg (Zc 1)<|Zg (Zc 2)<|Zg (Zc 3)<|Zg (Zc 0) Zw))<|Zi<|Z3<|Ww<|Zv (O1 ["text",".acc"] (Y4<|Zc 4) (λa=>(Z6 0 a)) (Xk)<|(YV (Mz (Zc 0) Wl) (Ww<|Zv Zk<|Zv Zx Ye)<|Ww<|Zv Zk<|Zv (Zc 0) Ye))<|Zv (Zc 2) Ye)
def k27:=hL (tq:=tq) (q:=QN) E.v E.a27 5 4 ["shelf","table","keys","fields","ranks","key"] Ua Tn λc j f a h=>(Ze (Zu 4 c C5)<|Ze (Wr dq rfl (Y4<|Zc 2) (Z6 5 c) (Zi<|Co 4 a (Zc 5)<|Zt (k26 E) f<|Zg (Zc 0)<|Zg (Zc 1)<|Zg (Zc 5)<|Zg (Zc 3) Zw))<|Zi<|Z3<|qU "one" ["ranks"] [4] (f.mono Γ) h E.bf E.CT j E.BM (Zc 2)<|λ_ _ _ _ _ _ a=>(Zn a (Zc 1)<|Zc 0))
def k28:=J3 E.v E.a28 0 3 ["rows","place","step","text","other","row"] Kh He λa _ h c f=>(Ze (Zu 3 a<|Zn c (Zn c (Zc 0)<|Zc 1)<|Zc 2)<|Ze (Wr dq rfl (Ez E.bl<|Zc 0) (I9 rfl (Wx (Z6 4 a)<|Wx (Z6 5 a) Rr)) (Zi<|Ys (PW.pt<|WC (As f (Zc 4)<|Zc 1)<|Xi<|M0 c (Zc 3)<|Zc 5) (Zi<|Z3<|Ww<|Zv (Zc 4)<|Zv (LM (Zc 5)<|Zc 3) Ye) Z4))<|Zi<|Z3 Wl)
def k29:=J3 E.v E.a29 1 2 ["rows","place","step"] Mh Ii λa _ f c h=>(Ze (Wr dq rfl (P8 E.bg<|W4 E.bi<|Zn c (Zc 0)<|Zc 1) (Z6 2 a) (Zi<|Ys (Mz (Zt (k28 E) f<|Zg (Zc 0)<|Zg (Zc 1)<|Zg (Zc 2) Zw) Wl) (Zi<|Z3<|Zc 2) Z4))<|Zi<|Z3 Wl)
def k30:=J3 E.v E.a30 0 1 ["n","text","left"] Cu K' λa _ h c f=>(Ze (Zu 1 a Zx)<|Ze (Zu 2 a<|Zc 0)<|Ze (Ak L0 dq (RI (Zc 2) Zk)<|Ze (Zu 1 a<|Yo (Zn c (Bl E.u E.cr)<|Wa (Zc 2) Zk)<|Zc 1)<|Zi<|Zu 2 a<|D5 (Je (Zc 2) Zk) Zk)<|Zi<|Z3<|Zc 1)
def k31:=J3 E.v E.a31 2 1 ["rows","told","counts","place","row","step","number"] U2 R5 λa _ f c h=>(Ze (Zu 1 a<|Wi Ye)<|Ze (Zu 2 a C5)<|Ze (Wr dq rfl (Ez E.bl<|Zc 0) (I9 rfl (Wx (Z6 3 a)<|Wx (Z6 4 a) Rr)) (Ze (Zu 5 a<|Zt (k29 E) f<|Zg (Zc 0)<|Zg (Zc 3) Zw)<|Zi<|Ys (Mz (Zc 5) Wl) (Ze (Zu 6 a<|Ru c (Zc 2)<|Zv (Zn c (Zc 4)<|Cm Zk)<|Zv Zk Ye)<|Ze (Co 2 c (Zn c (Zc 4)<|Cm Zk)<|Yo (Zc 6) Zk)<|Zi<|Ob 1<|Yo (Yo (Zn c (Zc 4)<|Cm Zk) Zx)<|Zt (k30 E) f<|Zg (Zc 6) Zw)<|Zi<|Ob 1<|Zn c (Zc 4)<|Zc 5))<|Zi<|Z3<|Zc 1)
def k32:=J3 E.v E.a32 0 2 ["names","texts","name"] Ec Eb λc _ h a f=>(Ze (Wr dq rfl (Y4<|Zc 0) (Z6 2 c) (Zi<|Ys (M0 a (Zc 2)<|Zc 1) (Zi<|Z3<|Zn a (Zc 1)<|Zc 2) Z4))<|Zi<|Z3 Wl)
def k33:=J3 E.v E.a33 0 2 ["hand","way"] Fi Fh λc _ h a f=>(Ze (Ys (Ws f (Zc 1) Zk) (Zi<|Z3<|Zn a (Zc 0) Zk) Z4)<|Ze (Ys (Ws f (Zc 1) Zk) (Zi<|Z3<|Yo (Uh Zx<|O1 ["given",".acc"] (Y4<|Zn a (Zc 0) Zk) (λc=>(Z6 0 c)) (Xk)<|(Yo (N7 (Zc 0) Te<|Qv Zk) Zx))<|Zn a (Zc 0) Zk) Z4)<|Zi<|Z3<|Yo (Uh Zx<|O1 ["given",".acc"] (Y4<|Zn a (Zc 0) Zk) (λc=>(Z6 0 c)) (Xk)<|(Yo (Zc 0) Zx))<|Zn a (Zc 0) Zk)
def k34:=J3 E.v E.a34 1 3 ["hands","many","way","texts"] Ee Ed λa _ f c h=>(Ze (Wg 3 ["hand","way",".acc"] a (Y4<|Zc 0) (λa=>(Z6 0 a)) (Xk)<|(Zt (k33 E) f<|Zg (Zc 0)<|Zg (Zc 1) Zw))<|Ze (Ys (Ft (W4 E.bi<|Zc 3)<|Zc 1) (Zi<|Z3<|Yo (Uh Zx<|N7 (Zc 3) Te<|Qv<|Zc 1) Zx) Z4)<|Ze (Ys (YW (W4 E.bi<|Zc 3) Zk) (Zi<|Z3<|Uh Zx<|Zc 3) Z4)<|Zi<|Z3<|Yo (Yo (Uh Zx<|N7 (Zc 3) Te<|Qv<|Cm Zk) Zx)<|Zn c (Zc 3)<|Cm Zk)
def k35:=J3 E.v E.a35 2 1 ["text","halves","givens","word"] Fk Fj λc _ h a f=>(Ze (Zu 1 c<|Bi (Zc 0) Zx)<|Ze (Zu 2 c<|YV (Ws f (Zn a (Zc 1) Zk) Zx) (Ao (Zn a (Zc 1) Zk) Zx)<|Wi Ye)<|Ze (Ys (Ft (W4 E.bi<|Zc 2)<|Bm E.u E.cy) (Zi Wq) Z4)<|Ze (Wr dq rfl (Y4<|Yo (Wi<|Zv (Zn a (Zc 1) Zk) Ye)<|Zc 2) (Z6 3 c) (Zi<|Ys (Oy<|Jn<|Zt (k9 E) h<|Zg (Zc 3)<|Zg (Bl E.u E.bb)<|Zg (Bm E.u E.co) Zw) (Zi Wq) Z4))<|Zi<|Z3<|Ww<|Zv (Zn a (Zc 1) Zk)<|Zv (Fy E.bd<|Zc 2) Ye)
def k36:=J3 E.v E.a36 3 1 ["text","parts"] Eg Ef λa _ c h f=>(Ze (Ys (Oy<|Jn<|G2 E.bj E.be qw (Ug _)<|Zc 0) (Zi Wq) Z4)<|Ze (Zu 1 a<|Ao (Zc 0) Zx)<|Ze (Ys (Ft (W4 E.bi<|Zc 1)<|Bm E.u E.cx) (Zi Wq) Z4)<|Zi<|Z3<|O1 ["part",".acc"] (Y4<|Zc 1) (λa=>(Z6 0 a)) (Xk)<|(Zt (k35 E) c<|Zg (Zc 0) Zw))
def k37:=J3 E.v E.a37 4 2 ["piece","texts","text","hands"] Ei Eh λc _ f a h=>(Ze (Zu 2 c<|Ru a (Zc 1)<|Zv (Zn a (Zc 0) Zk) Ye)<|Ze (Ys (Mz (Zc 2) Wl) (Zi<|Z3 Wl) Z4)<|Ze (LJ (λ_ _ _ tq=>(Zi<|Zu 3 c<|Zt (k36 E) f<|Zg (Zc 2) Zw)) (E.u E.bz) ⟨E.bw,E.bv,E.bu⟩ (λ_=>(Zi<|Z3<|Zc 2)) Kb<|JR E.bx E.bq Kb)<|Zi<|Z3<|Zt (k34 E) f<|Zg (Zc 3)<|Zg (Zn a (Zc 0) Zk)<|Zg (Zn a (Zc 0) Zk) Zw)
theorem hF(h:5<=lv)(R:Sv P w K mg base M8 lv "told_piece" ["piece","texts"]<|Uv K 2 r):Sv P w K mg base M8 (lv+1) "told_group" ["pieces","texts"]<|Uv K 2<|Gg r:=J3 E.v E.a38 (lv+0) 2 ["pieces","texts","told"] (Gg r) (Ej r) λa _ f c j=>(Ze (Wg 2 ["piece","texts",".acc"] a (Y4<|Zc 0) (λa=>(Z6 0 a)) (Xk)<|(Zt R f (Zg (Zc 0)<|Zg (Zc 1) Zw) Θ))<|Ze (Ys (M0 c Wl<|Zc 2) (Zi<|Z3 Zx) Z4)<|Zi<|Z3<|Uh Zx<|Zc 2)
theorem hE(h:5<=lv)(R:Sv P w K mg base M8 lv "told_piece" ["piece","texts"]<|Uv K 2 r):Sv P w K mg base M8 (lv+2) "told_piece" ["piece","texts"]<|Uv K 2<|Yf (Oj r) 2:=J3 E.v E.a39 (lv+1) 2 ["piece","texts"] (Yf (Oj r) 2) (Oj r) λj _ f a c=>(Ze (Ys (Ws c (Zn a (Zc 0) Zk) Zx) (Zi<|Z3<|Zn a (Zc 0) Zk) Z4)<|Ze (Ys (Ws c (Zn a (Zc 0) Zk) Zx) (Zi<|Z3<|Zt (k32 E) f (Zg (Zn a (Zc 0) Zk)<|Zg (Zc 1) Zw) Θ) Z4)<|Ze (Ys (Ws c (Zn a (Zc 0) Zk) Zx) (Zi<|Z3<|Zt (k37 E) f (Zg (Zc 0)<|Zg (Zc 1) Zw) Θ) Z4)<|Zi<|Z3<|Zt (hF E h R) f (Zg (Zn a (Zc 0) Zk)<|Zg (Zc 1) Zw) Θ)
theorem SS:∀n,Sv P w K mg base M8 (5+2*n) "told_piece" ["piece","texts"] (Uv K 2<|Gh n)
 |0=>L' E.v E.a39 _ 2 ["piece","texts"]
 |n+1=>(hE E Θ<|SS n).mono Θ
theorem k39:Sv P w K mg base M8 29 "told_piece" ["piece","texts"]<|Uv K 2 Ek:=SS E 12
def k40:=J3 E.v E.a40 29 2 ["T","F","told"] Ij OT λa _ c h f=>(Ze (Wg 2 ["piece","F",".acc"] a (Y4<|Zc 0) (λa=>(Z6 0 a)) (Xk)<|(Zt (k39 E) c<|Zg (Zc 0)<|Zg (Zc 1) Zw))<|Zi<|Z3<|Uh Zx<|O1 ["text",".acc"] (Y4<|Zc 2) (λa=>(Z6 0 a)) (xt λ_=>(La (Zc 0) Wl))<|(Zc 0))
def k41:=J3 E.v E.a41 4 4 ["shelf","table","key","fields","found","field","text"] Mi Ik λa _ f c h=>(Ze (Zu 4 a C5)<|Ze (Wr dq rfl (Y4<|Zc 3) (Z6 5 a) (Ze (Zu 6 a<|Zt (k25 E) f<|Zg (Zc 0)<|Zg (Zc 1)<|Zg (Zc 2)<|Zg (Zc 5) Zw)<|Zi<|Ys (La (Zc 6) Wl) (Zi<|Co 4 c (Zc 5)<|Zc 6) Z4))<|Zi<|Z3<|Zc 4)
def k42:=J3 E.v E.a42 0 1 ["things","found","thing"] U4 R6 λa _ h c f=>(Ze (Zu 1 a C5)<|Ze (Wr dq rfl (Y4<|Zc 0) (Z6 2 a) (Zi<|Co 1 c (Zc 2) YX))<|Zi<|Z3<|uL rfl E.bh (Zc 1))
theorem hD(j:0<=lv)(R:Sv P w K mg base M8 lv "names_in" ["pieces"]<|Uv K 1 r):Sv P w K mg base M8 (lv+1) "names_in" ["pieces"]<|Uv K 1<|Yf (Gi r) 3:=J3 E.v E.a43 (lv+0) 1 ["pieces","names","piece"] (Yf (Gi r) 3) (Gi r) λf _ h a c=>(Ze (Zu 1 f<|Wi Ye)<|Ze (Wr dq rfl (Y4<|Zc 0) (Z6 2 f) (Zi<|Ys (Ws c (Zn a (Zc 2) Zk) Zx) (Zi<|uK 1<|Zn a (Zc 2) Zk)<|Zi<|Ys (Ws c (Zn a (Zc 2) Zk) Zx) (Zi<|Ob 1<|Zn a (Zc 2) Zk)<|Zi<|Ys (Ws c (Zn a (Zc 2) Zk) Zx) (Zi<|QW 1<|Zt R h (Zg (Zn a (Zc 2) Zk) Zw) Θ) Z4))<|Zi<|Z3<|Zc 1)
theorem SQ:∀n,Sv P w K mg base M8 (0+1*n) "names_in" ["pieces"] (Uv K 1<|To n)
 |0=>L' E.v E.a43 _ 1 ["pieces","names","piece"]
 |n+1=>(hD E Θ<|SQ n).mono Θ
theorem k43:Sv P w K mg base M8 12 "names_in" ["pieces"]<|Uv K 1 Nf:=SQ E 12
def k44:=J3 E.v E.a44 12 1 ["T"] Ki MX λc _ a h f=>(Zi<|Z3<|Zt (k42 E) a<|Zg (Zt (k43 E) a<|Zg (Zc 0) Zw) Zw)
def k45:=J3 E.v E.a45 30 4 ["shelf","table","key","template"] R7 Nh λc _ a h f=>(Zi<|Z3<|Zt (k40 E) a<|Zg (Zc 3)<|Zg (Zt (k41 E) a<|Zg (Zc 0)<|Zg (Zc 1)<|Zg (Zc 2)<|Zg (Zt (k44 E) a<|Zg (Zc 3) Zw) Zw) Zw)
def k46:=J3 E.v E.a46 31 4 ["shelf","table","key","ladder"] Bs R8 λa _ c h f=>(Zi<|Z3<|O1 ["template","shelf","table","key",".acc"] (Y4<|Zc 3) (λa=>(Z6 0 a)) (Xk)<|(Zt (k45 E) c<|Zg (Zc 1)<|Zg (Zc 2)<|Zg (Zc 3)<|Zg (Zc 0) Zw))
def k47:=J3 E.v E.a47 32 4 ["shelf","table","keys","ladder"] Uc Tq λa _ c h f=>(Zi<|Z3<|O1 ["key","shelf","table","ladder",".acc"] (Y4<|Zc 2) (λa=>(Z6 0 a)) (Xk)<|(Zt (k46 E) c<|Zg (Zc 1)<|Zg (Zc 2)<|Zg (Zc 0)<|Zg (Zc 3) Zw))
def k48:=J3 E.v E.a48 0 2 ["row","mark"] O4 Tr λc _ h f a=>(Zi<|Z3<|YV (Ws a (Zc 1) Zx) (Zc 0)<|Yo (Yo (Zc 0) Zx)<|Zc 1)
def k49:=J3 E.v E.a49 0 2 ["pointing","place"] Om Gk λa _ h f c=>(Ze (Ys (Mz (Zc 1) Wl) (Zi<|Z3<|Yo (Yo Zx<|Zc 0) Zx) Z4)<|Zi<|Z3<|Yo (Yo (Yo (Yo Zx<|Zc 0) Zx)<|Zc 1) Zx)
def k50:=J3 E.v E.a50 1 2 ["parts","told","texts","ahead","part"] Bt R9 λc _ h a f=>(Ze (Zu 2 c<|Wi Ye)<|Ze (Zu 3 c Wl)<|Ze (Wr dq rfl (Y4<|Zc 0) (Z6 4 c) (Zi<|Ys (Jn<|G2 E.bj E.be qw (Ug _)<|Zc 4) (Zi<|Ob 2<|Zc 4)<|Ze (Ob 2<|Zt (k49 E) h<|Zg (YV (Ws f (Zn a (Zc 4) Zk)<|Zc 3) Zx<|Zn a (Zc 1)<|Zn a (Zc 4) Zk)<|Zg (Zn a (Zc 4) Zk) Zw)<|Zi<|Zu 3 c<|Zn a (Zc 4) Zk))<|Zi<|Z3<|Uh Zx<|Zc 2)
def k51:=J3 E.v E.a51 5 1 ["work","parts"] U5 Bu λf _ c a h=>(Ze (LJ (λ_ _ _ tq=>(Zi<|sI 1 f<|L_ (k20 E) c (tq.pass rfl)<|LL (NJ<|Ru a (Zn a (Zc 0) Zk)<|Zv Zx Ye) NI)) (E.u E.bx) ⟨E.bt,E.bs,E.br⟩ (λ_=>(Zi<|Z3<|Wi Ye)) (JR E.bx E.bp Kb) Kb)<|Zi<|Z3<|Zt (k21 E) c<|Zg (Zc 1) Zw)
def k52:=hJ E.v E.a52 6 4 ["shelf","key","noted","parts","work","other"] Os Il λc _ f a h=>(Ze (Zu 4 c<|Zn a (Zc 0)<|Zc 1)<|Ze (Wr dq rfl (Y4<|Zt (k51 E) f<|Zg (Zc 4) Zw) (Z6 5 c) (Zi<|qM 2 (Zc 5)<|Zc 1))<|Zi<|Ys (M0 a Zx<|Zn a (Zc 4) Zk) (Zi<|tK 3 1<|Zn a (Zn a (Zc 4) Zk) Zx) Z4)
def k53:=J3 E.v E.a53 0 4 ["key","noted","parts","many","held"] Qr Jt λc _ h a f=>(Ze (Ys (M0 a (Zc 0)<|Zc 1) (Zi<|Z3<|Ww<|Zv Zx<|Zv (Zn a (Zc 1)<|Zc 0) Ye) Z4)<|Ze (Zu 4 c<|Ru a (Zc 2)<|Zv (Zc 0)<|Zv (Wi Ye) Ye)<|Ze (Ys (RI (W4 E.bi<|Zc 4)<|Zc 3) (Zi<|Z3<|Ww<|Zv Zx<|Zv (Fy E.bd<|N7 (Zc 4) Te<|Qv<|Zc 3) Ye) Z4)<|Zi<|Z3 Wl)
def k54:=J3 E.v E.a54 7 3 ["shelf","keys","many","found","noted","parts","fresh","number","triple","known","reasons"] Cv Ni λa _ f c h=>(Ze (Zu 3 a<|Wi Ye)<|Ze (Zu 4 a C5)<|Ze (Zu 5 a pQ)<|Ze (Wg 6 ["key","shelf",".acc"] a (Y4<|Zt (k42 E) f<|Zg (Zc 1) Zw) (λa=>(Z6 0 a)) (xt λ_=>(M0 c (Zc 0)<|Zc 1))<|(Ww<|Zv (Zc 0)<|Zv Zk<|Zv (Ww<|Zv Zx Ye) Ye))<|Ze (Zu 7 a Zk)<|Ze (Ak L0 dq (Ft (W4 E.bi<|Zc 6) Zk)<|Ze (uB 3<|Zc 6)<|Ze (Wr dq rfl (Y4<|Zc 6) (Z6 8 a) (Zi<|qI 4 5 (k52 E) f<|KF (Zc 0)<|KF (Zn c (Zc 8) Zk)<|tJ 4 5 (M1 4)<|M1 5))<|Ze (QR 7 a)<|Ze (Zu 9 a<|tI λ_=>(O1 ["triple",".acc"] (Y4<|Zc 3) (λa=>(Z6 0 a)) (Xk)<|(Zn c (Zc 0) Zk)))<|Ze (kD 10 rfl (E1 (N':=["key","noted","parts","many","known",".acc"]) (src:=[.own,.cap 4,.cap 5,.cap 2,.cap 9,.acc]) ι ι ι ι ι ι) (UB 5 ι ι) Γ (λ_=>(Y4<|qP rfl E.bf (Zc 0))) (λ_ _ _ _=>xg λ_=>(Z6 0<|show(["key","noted","parts","many","known",".acc"]:À Str).Nodup by decide+kernel)) (λ_ _ _ _=>xt λ_=>(Au c (Zc 0)<|Zc 4)) (λ_ _ _ _=>xe λ_=>(Ww<|Zv (Zc 0)<|Zv (Zt (k53 E) f<|Zg (Zc 0)<|Zg (Zc 1)<|Zg (Zc 2)<|Zg (Zc 3) Zw) Ye)) a)<|Zi<|Wg 6 ["key","reason","number",".acc"] a (Y4<|Zc 10) (λa=>(I9 rfl (Wx (Z6 0 a)<|Wx (Z6 1 a) Rr))) (xt λ_=>(La (Zc 1) Wl))<|(Ww<|Zv (Zc 0)<|Zv (Zc 2)<|Zv (Zc 1) Ye))<|Zi<|Z3<|Zc 3)
def k55:=J3 E.v E.a55 0 1 ["pointing"] U7 Bv λc _ h a f=>(Zi<|Z3<|Zn a (Bi (Zc 0) Zx) Zk)
def k56:=hW (tq:=tq) (q:=QN) E.v E.a56 33 4 ["shelf","table","style","text","parts","keys","key","found","ordered","told","rows","marked"] Gs Ts λa h c f j=>(Ze (Zu 4 a<|qH (k20 E) c<|Zg (Zc 3) Zw)<|Ze (Zu 5 a<|Zt (k21 E) c<|Zg (Zc 4) Zw)<|Ze (Wr dq rfl (Y4<|Zc 5) (Z6 6 a) (Zi<|Ys (Au f (Zc 6)<|Zc 0) (Zi Wq) Z4))<|Ze (Wg 7 ["triple",".acc"] a (Y4<|Zt (k54 E) c<|Zg (Zc 0)<|Zg (Zc 5)<|Zg (Zn f (Zc 2) Zx) Zw) (λa=>(Z6 0 a)) (Xk)<|(Zn f (Zc 0) Zk))<|Ze (Zu 8 a<|X5 h (k27 E) c<|Zg (Zc 0)<|Zg (Zc 1)<|Zg (Zc 7)<|Zg (Zn f (Zc 2) Zx) Zw)<|Ze (Zu 9 a<|Zt (k31 E) c<|Zg (Zt (k47 E) c<|Zg (Zc 0)<|Zg (Zc 1)<|Zg (Zc 8)<|Zg (Zn f (Zc 2) Zx) Zw) Zw)<|Ze (Wg 10 ["key","shelf","table","style",".acc"] a (Y4<|Zc 8) (λa=>(Z6 0 a)) (Xk)<|(Zt (k45 E) c<|Zg (Zc 1)<|Zg (Zc 2)<|Zg (Zc 0)<|Zg (Zn f (Zc 3) Zx) Zw))<|Ze (Wg 11 ["row","pointing",".acc"] a (xD E.bc (Zc 10)<|Zc 9) (λa=>(I9 rfl (Wx (Z6 0 a)<|Wx (Z6 1 a) Rr))) (Xk)<|(Zt (k48 E) c<|Zg (Zc 0)<|Zg (Zt (k55 E) c<|Zg (Zc 1) Zw) Zw))<|Zi<|Z3<|Ww<|Zv (Zt (k50 E) c<|Zg (Zc 4)<|Zg (kZ rfl E.bm E.bc (Zc 8) (Zc 9)) Zw)<|Zv (kg rfl E.bh E.bc (Zc 8) (Zc 11)) Ye)
def k57:=J3 E.v E.a57 0 2 ["_law_rows","_law_place","_law_text_here"] Ue Tt λc _ h a f=>(Ze (Wr dq rfl (Y4<|Zn a (Zc 0)<|Zc 1) (Z6 2 c) (Zi<|Ys (sM<|Au a YX<|O1 ["_law_k","_law_text_here","_law_rows","_law_place",".acc"] (P8 E.bg<|W4 E.bi<|Zc 0) (λc=>(Z6 0 c)) (xt λ_=>(As f (Zc 0)<|Zc 3))<|(QX a (Zc 1)<|Zn a (Zc 2)<|Zc 0)) (Zi<|Z3<|Zc 2) Z4))<|Zi<|Z3 Wl)
def k58:=J3 E.v E.a58 1 1 ["_law_rows","_law_told_here","_law_many","_law_place","_law_row","_law_text_here"] O7 Tu λc _ f a h=>(Ze (Zu 1 c<|Wi Ye)<|Ze (Zu 2 c C5)<|Ze (Wr dq rfl (Ez E.bl<|Zc 0) (I9 rfl (Wx (Z6 3 c)<|Wx (Z6 4 c) Rr)) (Ze (Zu 5 c<|Zt (k57 E) f<|Zg (Zc 0)<|Zg (Zc 3) Zw)<|Zi<|Ys (Mz (Zc 5) Wl) (Ze (Co 2 a (Zn a (Zc 4)<|Cm Zk)<|Yo (Ru a (Zc 2)<|Zv (Zn a (Zc 4)<|Cm Zk)<|Zv Zk Ye) Zk)<|Zi<|Ob 1<|Ww<|Zv (Yo (Zn a (Zc 4)<|Cm Zk) Zx)<|Zv (Zt (k30 E) f<|Zg (D5 (Zn a (Zc 2)<|Zn a (Zc 4)<|Cm Zk) Zk) Zw) Ye)<|Zi<|Ob 1<|Ww<|Zv (Zc 5)<|Zv Zx Ye))<|Zi<|Z3<|Zc 1)
def k59:=J3 E.v E.a59 0 2 ["_law_script","_law_k"] Y6 Uq λc _ h a f=>(Ze (Ys (YW (Zc 1)<|W4 E.bi<|Zc 0) (Zi<|Z3<|Zn a (Zc 0)<|Zc 1) Z4)<|Zi<|Z3 Zk)
def k60:=J3 E.v E.a60 0 1 ["_law_parts_here","_law_text_here","_law_part"] Gv Tv λa _ h c f=>(Ze (Zu 1 a Zx)<|Ze (Wr dq rfl (Y4<|Zc 0) (Z6 2 a) (Zi<|Ys (Jn<|G2 E.bj E.be qw (Ug _)<|Zc 2) (Zi<|Zu 1 a<|Yo (Zc 1)<|Zc 2)<|Zi<|Ys (Mz (Zn c (Zc 2) Zk) Wl) (Zi<|Zu 1 a<|Yo (Yo (Yo (Zc 1) Zx)<|Zn c (Zc 2) Zk) Zx)<|Zi<|Zu 1 a<|Yo (Yo (Yo (Yo (Yo (Zc 1) Zx)<|Zn c (Zc 2) Zk) Zx)<|Zn c (Zc 2) Zk) Zx))<|Zi<|Z3<|Zc 1)
def k61:=J3 E.v E.a61 0 3 ["_law_parts_here","_law_keys_here","_law_told_here","_law_text_here","_law_last","_law_part","_law_one"] Mj Im λa _ h c f=>(Ze (Zu 3 a Zx)<|Ze (Zu 4 a Wl)<|Ze (Wr dq rfl (Y4<|Zc 0) (Z6 5 a) (Zi<|Ys (Jn<|G2 E.bj E.be qw (Ug _)<|Zc 5) (Zi<|Zu 3 a<|Yo (Zc 3)<|Zc 5)<|Ze (Zu 6 a Zx)<|Ze (Ys (As f (Zn c (Zc 5) Zk)<|Zc 4) (Zi<|Zu 6 a<|Uh Zx<|Zn c (Zc 2)<|LM (Zc 1)<|Zn c (Zc 5) Zk) Z4)<|Ze (Ys (La (Zn c (Zc 5) Zk) Wl) (Zi<|Zu 6 a<|Yo (Yo (Zc 6) Zx)<|Zn c (Zc 5) Zk) Z4)<|Ze (Zu 3 a<|Yo (Yo (Yo (Zc 3) Zx)<|Zc 6) Zx)<|Zi<|Zu 4 a<|Zn c (Zc 5) Zk))<|Zi<|Z3<|Zc 3)
end
theorem eG{K}(E:Env K mg c0 ZC ZB)(m:mg "law"=aA (.ref fa))(n:wx K c0 tq=aC):SZ l "_law_script" 35 VU tq QN K w mg fa:=by
 obtain⟨_,_,a⟩:=E.a62;cases m.symm.trans (E.u a.1);refine⟨_,qJ a.2 λ_ _ _ _ _ _ _=>rfl,λbase kb q p=>?_⟩;have E:Ev l.prog w K mg base c0 tq _ _:=⟨E,⟨E.u⟩,kb,BR kb n,p⟩
 exact S1 a 34 1 ["_law_script","_law_cells","_law_keys_here","_law_shelf_here","_law_table","_law_style_here","_law_parts_here","_law_found","_law_pointed","_law_every","_law_told_here","_law_plain","_law_due_here","_law_place","_law_key","_law_row"] VU VW λc o f h j=>(Ze (Zu 1 c<|tW E.bh<|N7 (Zc 0) (Qv Zk)<|Qv Zk)<|Ze (Ys (Ws j (W4 E.bi<|Zc 1) Zk) (Zi<|Zu 1 c<|Wi<|Zv Zk Ye) Z4)<|Ze (Zu 2 c<|Zt (k1 E) f<|Zg (Zt (k59 E) f<|Zg (Zc 0)<|Zg Zk Zw)<|Zg (W4 E.bi<|Zc 1) Zw)<|Ze (Zu 3 c<|Zt (k2 E) f<|Zg (Zc 2)<|Zg (Zc 1) Zw)<|@Ze _ _ _ _ _ _ (@Zu _ _ _ _ _ 4 _ _ c (@Xx _ _ _ _ _ _ _ (@Me _ _ _ _ _ _ _ _ _ _ _ (@Wi _ _ _ _ _<|@Zv _ _ _ _ _ _ (@Ww _ _ _ _ _ _<|@Qq _ _ _ _ [("title",_,_),("title",_,_)] Ye) (@Zv _ _ _ _ _ _ (@Ww _ _ _ _ _ _<|@Qq _ _ _ _ [("year",_,_),("year",_,_)] Ye) (@Zv _ _ _ _ _ _ (@Ww _ _ _ _ _ _<|@Qq _ _ _ _ [("book",_,_),("title",_,_)] Ye) Ye ι) ι) ι) TX) (show(["part"]:À Str).Nodup by decide+kernel) ι Γ ι ι Γ ι) ι (by first|exact jr rfl|exact ii rfl) ι (by first|exact jr rfl|exact ii rfl))<|Ze (Zu 5 c<|Zt (k15 E) f<|Zg (Zt (k59 E) f<|Zg (Zc 0)<|Zg Zk Zw)<|Zg (Zt (k59 E) f<|Zg (Zc 0)<|Zg Zk Zw) Zw)<|Ze (Zu 6 c<|Zt (k16 E) f<|Zg (Zc 2)<|Zg (Zt (k59 E) f<|Zg (Zc 0)<|Zg Zk Zw) Zw)<|Ze (Zu 7 c<|X5 o (k56 E) f<|Zg (Zc 3)<|Zg (Zc 4)<|Zg (Zc 5)<|Zg (Zt (k60 E) f<|Zg (Zc 6) Zw) Zw)<|Ze (Ys (PW.pt<|ZT (As j (Zc 3)<|Zt (k2 E) f<|Zg (Zc 2)<|Zg (Zc 1) Zw)<|D6<|As j (Zc 5)<|Zt (k15 E) f<|Zg (Zt (k59 E) f<|Zg (Zc 0)<|Zg Zk Zw)<|Zg (Zt (k59 E) f<|Zg (Zc 0)<|Zg Zk Zw) Zw) (Zi<|Z3 YX) Z4)<|Ze (Wg 8 ["_law_part",".acc"] c (Y4<|Zc 6) (λc=>(Z6 0 c)) (xt λ_=>(Oy<|Jn<|G2 E.bj E.be qw (Ug _)<|Zc 0))<|(Zn h (Zc 0) Zk))<|Ze (Wg 9 ["_law_one",".acc"] c (Y4<|Zt (k54 E) f<|Zg (Zc 3)<|Zg (Zc 8)<|Zg (Zn h (Zc 5) Zx) Zw) (λc=>(Z6 0 c)) (Xk)<|(Zn h (Zc 0) Zk))<|Ze (Zu 9 c<|X5 o (k27 E) f<|Zg (Zc 3)<|Zg (Zc 4)<|Zg (Zc 9)<|Zg (Zn h (Zc 5) Zx) Zw)<|Ze (Zu 10 c<|Zt (k58 E) f<|Zg (Zt (k47 E) f<|Zg (Zc 3)<|Zg (Zc 4)<|Zg (Zc 9)<|Zg (Zn h (Zc 5) Zx) Zw) Zw)<|Ze (Zu 11 c<|Zt (k47 E) f<|Zg (Zc 3)<|Zg (Zc 4)<|Zg (Zc 9)<|Zg (Wi<|Zv (Zn h (Zc 5) Zx) Ye) Zw)<|Ze (Zu 12 c<|Wi Ye)<|Ze (Wr dq rfl (Ez E.bl<|Zc 9) (I9 rfl (Wx (Z6 13 c)<|Wx (Z6 14 c) Rr)) (Ze (Zu 15 c<|Zn h (Zn h (Zc 11)<|Zc 13) Zk)<|Ze (Ys (As j (Zn h (Zn h (Zc 10)<|Zc 13) Zk) Zx) (Zi<|Zu 15 c<|Yo (Yo (Zc 15) Zx)<|Zn h (Zn h (Zc 10)<|Zc 13) Zk) Z4)<|Zi<|Ob 12<|Ww<|Zv (Zc 14)<|Zv (Zc 15) Ye))<|Ze (Ys (PW.pt<|ZT (Oy<|Jn<|G2 E.bj E.bd CJ (k_ _)<|Zc 7)<|ZT (As j (W4 E.bi<|Zc 7) Zk)<|D6<|Oy<|Jn<|G2 E.bj E.bh yq (m_ _)<|Zn h (Zc 7) Zk) (Zi<|Z3 YX) Z4)<|Zi<|Z3<|OB (UD j (Zn h (Zc 7) Zk)<|Zc 12)<|OC<|UD j (Zn h (Zc 7) Zk)<|Zt (k61 E) f<|Zg (Zc 6)<|Zg (Zc 9)<|Zg (Zc 10) Zw)
end Gen
namespace My
open L2
def Num(x:Int):Prop:=0<=x/\x<2147483647
theorem NE(h:0<m/\m<=2147483647)(x):Num<|x % m:=⟨kc _ π,Int.lt_of_lt_of_le (g7 _ h.1) h.2⟩
theorem M4(a b):∀n s (f:À Int) x y,(∀m∈f,Num m)->f.length+n<=1000->
  L2.E3 λ(c:À Int) x' g=>L2.A3 (Yq (Zj 4) Gen.Jb (Cr s n) [a,b,aA<|.ol<|f.map D.int,aA<|.fz<|.int x,y]=aA (.nx [a,b,aA<|.ol<|c.map D.int,aA<|.fz<|.int x',g])) ((∀m∈c,Num m))<|c.length=f.length+n
 |0,s,f,x,y,h,_=>⟨f,x,y,rfl,h,rfl⟩
 |n+1,s,f,x,y,h,hl=>by
  have z:f.length<PySem.sizeLine:=Ya Θ;have l:Gen.Jb [a,b,aA<|.ol<|f.map D.int,aA<|.fz<|.int x,aA<|.fz<|.int (s:Int)]=aA (.nx [a,b,aA<|.ol<|(f++[x % 5040]).map D.int,aA<|.fz<|.int<|x / 5040,aA<|.fz<|.int (s:Int)]):=by unfold Gen.Jb;simp[z]
  obtain⟨c,x',g,e,h1,h2⟩:=M4 a b n (s+1) (f++[x % 5040]) (x / 5040) (aA<|.fz<|.int (s:Int)) (λm j=>by
   rcases dm.mp j with j|j
   .exact h m j
   .rw[ao.mp j];exact NE Γ _) ε
  refine⟨c,x',g,(Yl (ds:=Cr (s+1) n) Δ l).trans e,h1,by rw[h2,ax,dv];lia⟩
theorem M5(a b):∀n s (f:À Int) x y,(∀m∈f,Num m)->f.length+n<=1000->
  L2.E3 λ(c:À Int) x' g=>L2.A3 (Yq (Zj 4) Gen.Jc (Cr s n) [a,b,aA<|.ol<|f.map D.int,aA<|.fz<|.int x,y]=aA (.nx [a,b,aA<|.ol<|c.map D.int,aA<|.fz<|.int x',g])) ((∀m∈c,Num m))<|c.length=f.length+n
 |0,s,f,x,y,h,_=>⟨f,x,y,rfl,h,rfl⟩
 |n+1,s,f,x,y,h,hl=>by
  have z:f.length<PySem.sizeLine:=Ya Θ;have p:Gen.Jc [a,b,aA<|.ol<|f.map D.int,aA<|.fz<|.int x,aA<|.fz<|.int (s:Int)]=aA (.nx [a,b,aA<|.ol<|(f++[(x+(s:Int)+1)*48271 % 2147483647*69621 % 2147483629]).map D.int,aA<|.fz<|.int<|(x+(s:Int)+1)*48271 % 2147483647,aA<|.fz<|.int (s:Int)]):=by have l:=TY (i:=x+(s:Int)+1) (j:=48271) Γ;have o:=TY (i:=(x+(s:Int)+1)*48271 % 2147483647) (j:=69621) Γ;unfold Gen.Jc;simp[l,o,z]
  obtain⟨c,x',g,e,h1,h2⟩:=M5 a b n (s+1) (f++[(x+(s:Int)+1)*48271 % 2147483647*69621 % 2147483629]) ((x+(s:Int)+1)*48271 % 2147483647) (aA<|.fz<|.int (s:Int)) (λm l=>by
   rcases dm.mp l with l|l
   .exact h m l
   .rw[ao.mp l];exact NE Γ _) ε
  refine⟨c,x',g,(Yl (ds:=Cr (s+1) n) Δ p).trans e,h1,by rw[h2,ax,dv];lia⟩
theorem O8(c)(n:Nat)(h:n<=1000):∃g:À Int,L2.A3 (Gen.Yx [.int c,.int (n:Int)]=aA (.ol<|g.map D.int)) ((∀m∈g,Num m))<|g.length=n:=by
 have g1:Dy (n:Int):=Ro Θ;have f:((n:Int)).toNat=n:=by rfl
 by_cases a:c % 2=1
 .obtain⟨g,x',j,e,h1,h2⟩:=M4 (aA<|.fz<|.int c) (aA<|.fz<|.int (n:Int)) n 0 [] (c / 2) aB (λ_ h=>nomatch h) η;refine⟨g,?_,h1,by simpa using h2⟩;simp only[mf]at e;unfold Gen.Yx Gen.Ui;simp[-Yq,g1,f,Jk,e,a]
 .obtain⟨g,x',j,e,h1,h2⟩:=M5 (aA<|.fz<|.int c) (aA<|.fz<|.int (n:Int)) n 0 [] (c / 2 % 2147483647) aB (λ_ h=>nomatch h) η;refine⟨g,?_,h1,by simpa using h2⟩;simp only[mf]at e;unfold Gen.Yx Gen.Ui;simp[-Yq,g1,f,Jk,e,a]
noncomputable abbrev Fm:Str:="abcdefghijklmnopqrstuvwxyz"
theorem qD:Fm.cps.toList.length=26:=Ξ
theorem K_:Fm.length<=PySem.sizeLine:=Ξ
noncomputable def LC(j:Nat):Nat:=Fm.cps.toList.getD j 0
theorem vS:∀i<26,∀j<26,LC i=LC j->i=j:=Ξ
theorem yN:∀i<26,LC i∈Fm.cps.toList:=Ξ
theorem yM(i):L2.atI Fm.cps.toList (i % 26)=aA (LC (i % 26).toNat):=by
 have h0:0<=i % 26:=kc _ Γ;have h1:i % 26<26:=g7 _ Γ;obtain⟨j,c⟩:=uv h0;rw[c];have a:j<Fm.cps.toList.length:=by rw[qD];lia
 refine Wh _ _ _ ?_;unfold LC;rw[du,show((j:Int)).toNat=j by rfl,cf a];rfl
def sgn(a:À Int)(at':Int)(t:Nat)(k:Nat):Nat:=LC ((a.getD k 0+7*(t:Int)*(if(k:Int)=at' then 1 else 0)) % 26).toNat
def Di(c:À Int)(at':Int)(a t:Nat):À Nat:=(gz a).map<|sgn c at' t
theorem kC(a0 a1 a4 a6 ms at')(t k:Nat)(l:k<ms.length)(u:t<=100)(w)(s:w.length<=1000):
  Gen.W8 [a0,a1,aA<|.fz<|.str Fm,aA<|.ol<|ms.map D.int,a4,aA<|.fz<|.int at',a6,aA<|.fz<|.int (t:Int),aA<|.fz<|.str<|S w,aA<|.fz<|.int (k:Int)]=aA (.nx [a0,a1,aA<|.fz<|.str Fm,aA<|.ol<|ms.map D.int,a4,aA<|.fz<|.int at',a6,aA<|.fz<|.int (t:Int),aA<|.fz<|.str<|S<|w++[sgn ms at' t k],aA<|.fz<|.int (k:Int)]):=by
 have h:L2.atI (ms.map D.int) (k:Int)=aA (.int<|ms.getD k 0):=Wh _ _ _ (by rw[c8,cf l,du,cf l];rfl);generalize ms.map D.int=p at h⊢;have r:∀m f:Int,0<=f->f<=100->∀b:Int,(b=0\/b=1)->(if m=at' then(1:Int)else 0)=b->L2.atI p m=aA (.int<|ms.getD k 0)->∀ch,L2.atI Fm.cps.toList ((ms.getD k 0+7*f*b) % 26)=aA ch->
   Gen.W8 [a0,a1,aA<|.fz<|.str Fm,aA<|.ol p,a4,aA<|.fz<|.int at',a6,aA<|.fz<|.int f,aA<|.fz<|.str<|S w,aA<|.fz<|.int m]=aA (.nx [a0,a1,aA<|.fz<|.str Fm,aA<|.ol p,a4,aA<|.fz<|.int at',a6,aA<|.fz<|.int f,aA<|.fz<|.str<|S<|w++[ch],aA<|.fz<|.int m]):=by
  intro m f h0 h1 b v a h ch c;generalize ms.getD k 0=y at h c;have n:=sO (i:=7) (j:=f) Γ;have o:=TY (i:=7*f) (j:=b) (by clear a;lia);have z:(S w).length+(⟨#[ch]⟩:Str).length<=PySem.sizeLine:=Zz (by rw[QG w];show w.length+1<=_;lia);have q:S w++(⟨#[ch]⟩:Str)=S (w++[ch]):=VZ w [ch];by_cases l:m=at'
  .rw[dZ l]at a;subst a;unfold Gen.W8;simp[l]at o c h⊢;simp[n,o,c,h,K_,z,q]
  .rw[dY l]at a;subst a;unfold Gen.W8;simp at o c h⊢;simp[l,n,o,c,h,K_,z,q]
 exact r (k:Int) (t:Int) Θ Θ (if(k:Int)=at' then 1 else 0) (by split<;> simp) rfl h (sgn ms at' t k) (yM _)
theorem Lv(a0 a1 a4 a6 ms at')(t a:Nat)(hs:a<=ms.length)(h:ms.length<=100)(f:t<=100)(x9):
  ∃g,Yq (Zj 9) Gen.W8 (Cr 0 a) [a0,a1,aA<|.fz<|.str Fm,aA<|.ol<|ms.map D.int,a4,aA<|.fz<|.int at',a6,aA<|.fz<|.int (t:Int),aA<|.fz<|.str<|S [],x9]=aA (.nx [a0,a1,aA<|.fz<|.str Fm,aA<|.ol<|ms.map D.int,a4,aA<|.fz<|.int at',a6,aA<|.fz<|.int (t:Int),aA<|.fz<|.str<|S<|Di ms at' a t,g]):=by
 obtain⟨δ',e,g,c⟩:=Ie (tg:=Zj 9) (body:=Gen.W8) (P:=λi δ=>∃g,δ=[a0,a1,aA<|.fz<|.str Fm,aA<|.ol<|ms.map D.int,a4,aA<|.fz<|.int at',a6,aA<|.fz<|.int (t:Int),aA<|.fz<|.str<|S<|Di ms at' i t,g]) a 0 [a0,a1,aA<|.fz<|.str Fm,aA<|.ol<|ms.map D.int,a4,aA<|.fz<|.int at',a6,aA<|.fz<|.int (t:Int),aA<|.fz<|.str<|S [],x9] ⟨x9,rfl⟩ (λi _ j δ ⟨g,c⟩=>by
  subst c;have e:=kC a0 a1 a4 a6 ms at' t i Θ f (Di ms at' i t) (by unfold Di;simp;lia);refine⟨[a0,a1,aA<|.fz<|.str Fm,aA<|.ol<|ms.map D.int,a4,aA<|.fz<|.int at',a6,aA<|.fz<|.int (t:Int),aA<|.fz<|.str<|S<|Di ms at' i t,aA<|.fz<|.int (i:Int)],_,Δ,e,aA<|.fz<|.int (i:Int),?_⟩;have:Di ms at' (i+1) t=Di ms at' i t++[sgn ms at' t i]:=by unfold Di;rw[EV,cb];rfl
  rw[this])
 subst c;rw[oi]at e;exact⟨g,e⟩
def Oc(c:À Int)(at':Int)(a m:Nat):À Str:=(gz m).map λt=>S<|Di c at' a t
theorem kB(a0 a1 ms at')(a:Nat)(hs:a<=ms.length)(o:ms.length<=100)(m)(hn:m<=100):
  ∃δ,Yq (Zj 7) Gen.Oh (Cr 0 m) [a0,a1,aA<|.fz<|.str Fm,aA<|.ol<|ms.map D.int,aA<|.fz<|.int (a:Int),aA<|.fz<|.int at',aA<|.ol [],aB,aB,aB]=aA (.nx δ)/\δ[6]? =aA (aA<|.ol<|(Oc ms at' a m).map D.str):=by
 obtain⟨δ',e,h,f,c,j⟩:=Ie (tg:=Zj 7) (body:=Gen.Oh) (P:=λi δ=>∃h f c,δ=[a0,a1,aA<|.fz<|.str Fm,aA<|.ol<|ms.map D.int,aA<|.fz<|.int (a:Int),aA<|.fz<|.int at',aA<|.ol<|(Oc ms at' a i).map D.str,h,f,c]) m 0 [a0,a1,aA<|.fz<|.str Fm,aA<|.ol<|ms.map D.int,aA<|.fz<|.int (a:Int),aA<|.fz<|.int at',aA<|.ol [],aB,aB,aB] ⟨aB,aB,aB,rfl⟩ (λi _ r δ ⟨h,f,c,j⟩=>by
  subst j;obtain⟨l,e⟩:=Lv a0 a1 (aA<|.fz<|.int (a:Int)) (aA<|.ol<|(Oc ms at' a i).map D.str) ms at' i a hs o Θ c;have g1:Dy (a:Int):=Ro Θ;have q:((a:Int)).toNat=a:=by rfl
  have z:(Oc ms at' a i).length<PySem.sizeLine:=Ya (by unfold Oc;simp;lia);have p:aa ""=S []:=rfl;have n:Oc ms at' a (i+1)=Oc ms at' a i++[S (Di ms at' a i)]:=by unfold Oc;rw[EV,cb];rfl
  refine⟨[a0,a1,aA<|.fz<|.str Fm,aA<|.ol<|ms.map D.int,aA<|.fz<|.int (a:Int),aA<|.fz<|.int at',aA<|.ol<|(Oc ms at' a i).map D.str,aA<|.fz<|.int (i:Int),f,c],[a0,a1,aA<|.fz<|.str Fm,aA<|.ol<|ms.map D.int,aA<|.fz<|.int (a:Int),aA<|.fz<|.int at',aA<|.ol<|(Oc ms at' a<|i+1).map D.str,aA<|.fz<|.int (i:Int),aA<|.fz<|.str<|S<|Di ms at' a i,l],Δ,?_,_,_,_,rfl⟩;rw[n];generalize Oc ms at' a i=NL,ms.map D.int=s at*;unfold Gen.Oh;simp[-Yq,p,g1,q,Jk,e,z])
 subst j;rw[oi]at e;exact⟨_,e,rfl⟩
structure Key(w:Str):Prop where
 one:1<=w.length
 most:w.length<=8
 of:∀c∈w.cps.toList,c∈Fm.cps.toList
theorem yL{a:Nat}(f:a<26)(c:b<26)(n:a≠b)(h1:0<=(y+7*(a:Int)*1) % 26)(h2:0<=(y+7*(b:Int)*1) % 26)(e:((y+7*(a:Int)*1) % 26).toNat=((y+7*(b:Int)*1) % 26).toNat):False:=by clear h1 h2;omega
theorem Ap(x)(m:Nat)(Q:m<=26):∃ws:À Str,L2.A4 (Gen.C8 [.int x,.int (m:Int)]=aA (.ol<|ws.map D.str)) (ws.length=m) ws.Nodup (∀w∈ws,Key w):=by
 obtain⟨j,F,hn,o⟩:=O8 x 10 Θ;have o:j.length=10:=o;have N:L2.atI (j.map D.int) 8=aA (.int<|j.getD 8 0):=Wh _ 8 _ (by rw[c8,cf (by lia:8<j.length),du,cf (by lia:8<j.length)];rfl);have M:L2.atI (j.map D.int) 9=aA (.int<|j.getD 9 0):=Wh _ 9 _ (by rw[c8,cf (by lia:9<j.length),du,cf (by lia:9<j.length)];rfl);have s0:0<=j.getD 8 0 % 8:=kc _ Γ;have s1:j.getD 8 0 % 8<8:=g7 _ Γ;obtain⟨f,hs⟩:∃n:Nat,(n:Int)=1+j.getD 8 0 % 8:=⟨(1+j.getD 8 0 % 8).toNat,Θ⟩
 have v:1<=f:=Θ
 have l:f<=8:=Θ
 have g:(0:Int)<(f:Int):=by clear hs l;lia
 have X:0<=j.getD 9 0 % (f:Int):=kc _ (by clear hs l;lia);have Y:j.getD 9 0 % (f:Int)<(f:Int):=g7 _ g;generalize E:j.getD 9 0 % (f:Int)=at' at X Y;obtain⟨δ,e,p⟩:=kB (aA<|.fz<|.int x) (aA<|.fz<|.int (m:Int)) j at' f (by clear hs;lia) Θ m Θ;have g1:Dy (m:Int):=Ro Θ;have O:((m:Int)).toNat=m:=by rfl
 refine⟨Oc j at' f m,?_,by unfold Oc;simp,?_,λw P=>?_⟩
 .generalize Oc j at' f m=NL at p;generalize j.getD 8 0=y8,j.getD 9 0=y9,j.map D.int=MS at*;have F:Gen.Yx [D.int x,D.int 10]=aA (SV.ol MS):=F;have A:0<f:=by clear hs l;assumption
  unfold Gen.C8 Gen.Tj;simp[-Yq,F,N,M,<-hs,A,E,g1,O,Jk,e,p]
 .unfold Oc;refine wr _ (R:=λa b=>a≠b/\a<m/\b<m) (λa b h=>?_) ?_
  .intro z;obtain⟨B,J,I⟩:=h;have o:=yO z;obtain⟨k,G⟩:=uv X;have r:k<f:=π
   have T:(Di j at' f a)[k]? =aA (sgn j at' a k):=by unfold Di;rw[c8,vw r];rfl
   have W:(Di j at' f b)[k]? =aA (sgn j at' b k):=by unfold Di;rw[c8,vw r];rfl
   rw[o,W]at T;have H:=h8.inj T;unfold sgn at H;rw[dZ G.symm]at H;have q:=λy:Int=>(kc y<|show(26:Int)≠0 by decide)
   have L:=λy:Int=>(g7 y<|show(0:Int)<26 by decide)
   generalize j.getD k 0=y at*;have s:=q<|y+7*(a:Int)*1;have u:=L<|y+7*(a:Int)*1;have K:=q<|y+7*(b:Int)*1;have Z:=L<|y+7*(b:Int)*1;have U:=vS _ ((wu K).2 Z) _ ((wu s).2 u) H;exact yL (dh J Q) (dh I Q) B s K U.symm
  .have i:(gz m).Pairwise<|λa b=>a<b:=List.pairwise_lt_range;refine(List.Pairwise.and_mem.mp i).imp fun{a b} h=>?_;exact⟨eh h.2.2,lh.mp h.1,lh.mp h.2.1⟩
 .unfold Oc at P;obtain⟨t,_,rfl⟩:=av.mp P;have o:(S<|Di j at' f t).length=f:=by rw[QG];unfold Di;simp
  refine⟨by rw[o];exact v,by rw[o];exact l,λc C=>?_⟩;rw[tE]at C;unfold Di at C;obtain⟨k,_,rfl⟩:=av.mp C;have s:=kc (j.getD k 0+7*(t:Int)*(if(k:Int)=at' then 1 else 0)) (show(26:Int)≠0 by decide);have u:=g7 (j.getD k 0+7*(t:Int)*(if(k:Int)=at' then 1 else 0)) (show(0:Int)<26 by decide);exact yN _<|(wu s).2 u
noncomputable abbrev PLS : Str := "ABCDEFGHIJKLMNOPQRSTUVWXYZabcdefghijklmnopqrstuvwxyz0123456789 .,!?'-/()&+*="
noncomputable abbrev STS : Str := "ABCDEFGHIJKLMNOPQRSTUVWXYZabcdefghijklmnopqrstuvwxyz0123456789 .,!?'-/()&+*=:;"
noncomputable abbrev RUN : Str := "ABCDEFGHIJKLMNOPQRSTUVWXYZabcdefghijklmnopqrstuvwxyz0123456789 .,!?'-/()&+*=:;\n"
theorem i':STS++aa "\n"=RUN:=Ξ
theorem vR:∀c∈RUN.cps.toList,inS ⟨#[c]⟩ RUN=aC:=Ξ
theorem vQ:∀c∈PLS.cps.toList,inS ⟨#[c]⟩ PLS=aC:=Ξ
theorem vP:∀c∈Fm.cps.toList,inS ⟨#[c]⟩ Fm=aC:=Ξ
theorem Hh:∀c∈RUN.cps.toList,c≠60/\c≠62:=Ξ
theorem qC:∀c∈PLS.cps.toList,c∈RUN.cps.toList:=Ξ
theorem Hi:∀c∈Fm.cps.toList,c∈RUN.cps.toList/\c≠32:=Ξ
theorem Nj:∀xs:À D,bools? (xs.map λ_=>D.bl aC)=aA (xs.map λ_=>aC)
 | []=>rfl
 |x::r=>by simp[Nj r]
def Of(a w:Str):Prop:=∀c∈w.cps.toList,c∈a.cps.toList
theorem QF(sg w)(a:∀c∈sg.cps.toList,inS ⟨#[c]⟩ sg=aC)(l:Of sg w)(n:w.length<=1000000):Gen.U0 [.str w,.str sg]=aA (.fz<|.bl aC):=by
 have c:=JG (te:=Gen.Ca) (f:=λ_=>D.bl aC) (c:=aA<|.fz<|.str sg) (j:=1) (Xm w) [] (λx h zs=>by
  unfold Xm at h;obtain⟨k,m,rfl⟩:=av.mp h;have e:=a k<|l k m;unfold Gen.Ca;simp[-inS,e]) (by unfold Xm;rw[aj,Qd];simp;lia)
 rw[f8]at c;have s:=Nj<|Xm w;unfold Gen.U0 Gen.R0;simp[c,s]
theorem ND(sg w m)(f:∀c∈sg.cps.toList,inS ⟨#[c]⟩ sg=aC)(h:Of sg w)(h1:1<=w.length)(h2:w.length<=m)(n:m<=1000):Gen.Wt [.str w,.str sg,.int (m:Int)]=aA (.fz<|.bl aC):=by
 have a:=QF sg w f h Θ;have z:w.length<=PySem.sizeLine:=Zz Θ;have l:(1:Int)<=(w.length:Int):=Θ
 have j:(w.length:Int)<=(m:Int):=Θ
 unfold Gen.Wt Gen.C9;simp[z,l,j,a]
structure Plc(p:Str):Prop where
 of:Of PLS p
 one:1<=p.length
 most:p.length<=80
theorem vO(k)(h:Key k):Gen.Ct [.str k]=aA (.fz<|.bl aC):=by have a:=ND Fm k 8 vP h.of h.one h.most Γ;have c:((8:Nat):Int)=8:=rfl;rw[c]at a;unfold Gen.Ct Gen.Ih;simp[a]
theorem qB(p)(h:Plc p):Gen.Gc [.str p]=aA (.fz<|.bl aC):=by have a:=ND PLS p 80 vQ h.of h.one h.most Γ;have c:((80:Nat):Int)=80:=rfl;rw[c]at a;unfold Gen.Gc Gen.Tk;simp[a]
structure Pnt where
 k:Str
 p:Á Str
 hk:Key k
 hp:∀q,p=aA q->Plc q
noncomputable def Pnt.d(x:Pnt):D:=match x.p with
 |none=>.tup [.str "point",.str x.k,.non]
 |some q=>.tup [.str "point",.str x.k,.str q]
noncomputable def Pnt.b(x:Pnt):Str:=match x.p with
 |none=>x.k
 |some q=>x.k++aa " "++q
noncomputable abbrev BLK:Str:=" "
noncomputable abbrev LTS:Str:="<"
noncomputable abbrev GTS:Str:=">"
def Pnt.t(x:Pnt):Str:=LTS++x.b++GTS
theorem Pnt.b_run(x:Pnt):Of RUN x.b:=by
 unfold Pnt.b;cases f:x.p with
 |none=>exact λc a=>(Hi c<|x.hk.of c a).1
 |some q=>
  intro c a;have e:(x.k++aa " "++q).cps.toList=x.k.cps.toList++[32]++q.cps.toList:=by simp[qa];rfl
  have a:c∈x.k.cps.toList++[32]++q.cps.toList:=by rw[<-e];exact a
  rcases dm.mp a with a|a
  .rcases dm.mp a with a|a
   .exact(Hi c<|x.hk.of c a).1
   .rw[ao.mp a];decide+kernel
  .exact qC c ((x.hp q f).of c a)
theorem Pnt.b_len(x:Pnt):x.b.length<=89:=by
 have h1:=x.hk.most;unfold Pnt.b;cases a:x.p with
 |none=>show x.k.length<=89;lia
 |some q=>
  have:=(x.hp q a).most;have c:(aa " ").length=1:=Ξ
  show(x.k++aa " "++q).length<=89;rw[Z2,Z2,c];lia
theorem kA(x:Pnt):Gen.Oi [.str x.b]=aA (.v<|.fz x.d):=by
 have hn:=vO x.k x.hk;have r:=λz=>(Hi 32<|x.hk.of 32 z).2 rfl;have f:BLK=S [32]:=Ξ
 have u:=x.b_len;have z:x.b.length<=PySem.sizeLine:=Zz Θ;have c:¬(aa " ").length=0:=Ξ
 have o:aa ""=Str.empty:=rfl;have n:3<=PySem.sizeLine:=Zz Γ;unfold Gen.Oi Gen.Gd;cases a:x.p with
 |none=>
  have h:x.b=x.k:=by unfold Pnt.b;rw[a]
  have j:iu x.k (aa " ")=(x.k,dy,dy):=by have:=JE (Kf 32) x.k r;rw[<-f]at this;exact this
  have m:x.d= .tup [.str "point",.str x.k,.non]:=by unfold Pnt.d;rw[a]
  rw[m,h];rw[h]at z;simp[L2.atI,L2.ixN,z,c,j,hn,o,n]
 |some q=>
  have h:x.b=x.k++aa " "++q:=by unfold Pnt.b;rw[a]
  have j:iu x.b (aa " ")=(x.k,aa " ",q):=by have:=Ti 32 x.k q r;rw[<-f]at this;rw[h];exact this
  have s:=qB q<|x.hp q a;have m:x.d= .tup [.str "point",.str x.k,.str q]:=by unfold Pnt.d;rw[a]
  have l:¬aa " "=Str.empty:=Ξ
  rw[m];simp[L2.atI,L2.ixN,z,c,j,hn,o,l,s,n]
noncomputable def rn(r:Str):À D:=if r=dy then[]else[.str r]
structure Rn(r:Str):Prop where
 of:Of RUN r
 len:r.length<=1000
noncomputable abbrev Cf:=Pnt×Str
def it(x:Cf):À D:=x.1.d::rn x.2
def Jv(a:Str)(xs:À Cf):À D:=rn a++xs.flatMap it
def Ph(x:Cf):Str:=x.1.b++GTS++x.2
def Qw(a:Str)(xs:À Cf):Str:=g5 LTS (a::xs.map Ph)
theorem Pnt.d_tup(x:Pnt):∃g,x.d= .tup g:=by
 unfold Pnt.d;split
 .exact⟨_,rfl⟩
 .exact⟨_,rfl⟩
theorem Hj(r):(rn r).length<=1:=by unfold rn;split<;> simp
theorem K2:∀xs:À Cf,(xs.flatMap it).length<=2*xs.length
 | []=>cj _
 |x::xs=>by have h1:=K2 xs;have h2:=Hj x.2;have a:(it x).length=(rn x.2).length+1:=rfl;rw[qh,ax,ca];lia
theorem QE:LTS=S [60]:=Ξ
theorem yZ:GTS=S [62]:=Ξ
theorem vN(x:Cf)(h:Rn x.2):60∉(Ph x).cps.toList:=by
 unfold Ph;have e:(x.1.b++GTS++x.2).cps.toList=x.1.b.cps.toList++[62]++x.2.cps.toList:=by simp[qa];rfl
 rw[e];intro z;rcases dm.mp z with z|z
 .rcases dm.mp z with z|z
  .exact(Hh 60<|x.1.b_run 60 z).1 rfl
  .simp at z
 .exact(Hh 60<|h.of 60 z).1 rfl
theorem MV(x:Cf)(h:Rn x.2):(Ph x).length<=1100:=by
 unfold Ph;have a:GTS.length=1:=Ξ
 have:=x.1.b_len;have:=h.len;rw[Z2,Z2,a];lia
def Uf(a:Str)(xs:À Cf):À Str:=a::xs.flatMap λx=>[x.1.b,x.2]
theorem Fn(a0 a1 a2):∀(xs:À Cf) cs x4 x5,(∀x∈xs,Rn x.2)->cs.length+2*xs.length<=1000->
  ∃i g,Yq (Zj 4) Gen.Gb ((xs.map Ph).map D.str) [a0,a1,a2,aA<|.ol<|cs.map D.str,x4,x5]=aA (.nx [a0,a1,a2,aA<|.ol<|(cs++xs.flatMap λx=>[x.1.b,x.2]).map D.str,i,g])
 | [],cs,x4,x5,_,_=>⟨x4,x5,Δ⟩
 |x::xs,cs,x4,x5,h,hl=>by
  rw[ca]at hl;have m:=h x ac;have j:iu (Ph x) (aa ">")=(x.1.b,aa ">",x.2):=by have:=Ti 62 x.1.b x.2<|λz=>(Hh 62<|x.1.b_run 62 z).2 rfl;rw[<-yZ]at this;exact this
  have p:=MV x m;have z:(Ph x).length<=PySem.sizeLine:=Zz Θ;have c:¬(aa ">").length=0:=Ξ
  have n:aa ""=Str.empty:=rfl;have a:¬aa ">"=Str.empty:=Ξ
  have f:2<=PySem.sizeLine:=Zz Γ;have z2:cs.length+2<=PySem.sizeLine:=Zz Θ;have o:Gen.Gb [a0,a1,a2,aA<|.ol<|cs.map D.str,aA<|.fz<|.str<|Ph x,x5]=aA (.nx [a0,a1,a2,aA<|.ol<|(cs++[x.1.b,x.2]).map D.str,aA<|.fz<|.str<|Ph x,aA<|.fz<|.tup [.str x.1.b,.str ">",.str x.2]]):=by unfold Gen.Gb;simp[L2.atI,L2.ixN,j,z,c,n,a,f,z2]
  obtain⟨i,g,e⟩:=Fn a0 a1 a2 xs (cs++[x.1.b,x.2]) (aA<|.fz<|.str<|Ph x) (aA<|.fz<|.tup [.str x.1.b,.str ">",.str x.2]) (λy l=>h y<|ag _ l) τ;refine⟨i,g,?_⟩;rw[cg,cg];refine(Yl Δ o).trans (e.trans ?_);simp
theorem vM(h:∀t∈g,Rn t):Of RUN (Ux g)/\(Ux g).length<=g.length*1000:=by
 induction g with
 |nil=>exact⟨(λc a=>by have:(Ux []).cps.toList=[]:=rfl;rw[this]at a;exact nomatch a),gr _⟩
 |cons t g j=>
  obtain⟨h1,h2⟩:=j λu l=>h u<|ag _ l;have f:=h t ac;constructor
  .intro c a;have e:(Ux (t::g)).cps.toList=t.cps.toList++(Ux g).cps.toList:=by show(t++Ux g).cps.toList=_;simp[qa]
   rw[e]at a;rcases dm.mp a with a|a
   .exact f.of c a
   .exact h1 c a
  .show(t++Ux g).length<=_;rw[Z2,ca,GY];have:=f.len;lia
theorem l'(g)(xs:À Cf)(h0:Rn g)(h:∀x∈xs,Rn x.2):(Qw g xs).length<=(xs.length+1)*1200:=by
 have:=n3 (sep:=LTS) (B:=1100) (g::xs.map Ph) (λx a=>by
  rcases az.mp a with e|a
  .rw[e];have:=h0.len;lia
  .obtain⟨y,c,rfl⟩:=av.mp a;exact MV y<|h y c)
 have f:LTS.length=1:=Ξ
 rw[f,ca,aj]at this;unfold Qw;lia
theorem l_(g)(xs:À Cf)(h0:Rn g)(h:∀x∈xs,Rn x.2)(T:xs.length<=100):Gen.A9 [.str (Qw g xs),.str RUN]=aA (.ol<|(Uf g xs).map D.str):=by
 have sp:qu (Qw g xs) LTS=g::xs.map Ph:=by
  have:=iA (Kf 60) (by rw[<-QE];decide+kernel) (g::xs.map Ph) Δ (λp j=>by
   rcases az.mp j with e|j
   .rw[e];exact λz=>(Hh 60<|h0.of 60 z).1 rfl
   .obtain⟨y,f,rfl⟩:=av.mp j;exact vN y<|h y f)
  rw[<-QE]at this;exact this
 have P:=l' g xs h0 h;have z:(Qw g xs).length<=PySem.sizeLine:=Zz Θ;have c:xs.length+1<=PySem.sizeLine:=Zz Θ;have n:1<=PySem.sizeLine:=Zz Γ;have l:¬LTS.length=0:=Ξ
 have u:aa "<"=LTS:=rfl;have A:Ai (.str g::(xs.map Ph).map D.str) (aA 1) aB=(xs.map Ph).map D.str:=by have:=nl (.str g::(xs.map Ph).map D.str) 1 Δ;exact this
 obtain⟨L,K,e⟩:=Fn (aA<|.fz<|.str<|Qw g xs) (aA<|.fz<|.str RUN) (aA<|.ol (.str g::(xs.map Ph).map D.str)) xs [g] aB aB h Ψ;have H:L2.atI (.str g::(xs.map Ph).map D.str) 0=aA (.str g):=Wh _ 0 _ rfl;have m:∀x∈g::xs.map qx,Rn x:=λx a=>by
  rcases az.mp a with e|a
  .rw[e];exact h0
  .obtain⟨y,f,rfl⟩:=av.mp a;exact h y f
 have q:L2.Bj ((Uf g xs).map D.str) aB aB (aA 2)=(g::xs.map qx).map D.str:=by rw[na,OU];unfold Uf;rw[MY]
 obtain⟨C,E⟩:=vM m;have o:=Aw (g::xs.map qx);have r:wb (aa "") (g::xs.map qx)=aC:=US (B:=1000) (λx a=>(m x a).len) (by
  have w:(aa "").length=0:=Ξ
  rw[w];simp;lia)
 have s:tf (aa "") (g::xs.map qx)=Ux (g::xs.map qx):=UT _;have F:=QF RUN (Ux (g::xs.map qx)) vR C (by simp at E;lia);have v:[g]++(xs.flatMap λx=>[x.1.b,x.2])=Uf g xs:=rfl;rw[v]at e;simp only[cg,mf]at e;generalize Uf g xs=cs at*;generalize g::xs.map qx=Q at*;unfold Gen.A9 Gen.L6;simp[-Yq,-f7,u,sp,z,c,n,l,A,e,H,q,o,r,s,F]
theorem Vd(a0 a1):∀(xs:À Cf) i ps x3 x4,i % 2=1->ps.length+2*xs.length<=1000->
  ∃G g,Yq (W1 2<|Yj (Zj 3)<|Yj (Zj 4)<|W0) Gen.Wb (Uy i<|(xs.flatMap λx=>[x.1.b,x.2]).map D.str) [a0,a1,aA<|.ol ps,x3,x4]=aA (.nx [a0,a1,aA<|.ol<|ps++xs.flatMap it,G,g])
 | [],i,ps,x3,x4,_,_=>⟨x3,x4,by simp[Uy]⟩
 |x::xs,i,ps,x3,x4,hi,hl=>by
  rw[ca]at hl;have f:=kA x.1;have l:ps.length<PySem.sizeLine:=Ya Θ;have z2:ps.length+1<PySem.sizeLine:=Ya Θ;obtain⟨p,a⟩:=x.1.d_tup;have m:((i:Nat):Int) % 2=1:=Θ
  have h:¬((i:Int)+1) % 2=1:=Θ
  have j:aa ""=Str.empty:=rfl;have n:Gen.Wb [a0,a1,aA<|.ol ps,aA<|.fz<|.int (i:Int),aA<|.fz<|.str x.1.b]=aA (.nx [a0,a1,aA<|.ol<|ps++[x.1.d],aA<|.fz<|.int (i:Int),aA<|.fz<|.str x.1.b]):=by rw[a]at f⊢;unfold Gen.Wb;simp[m,f,l]
  have c:Gen.Wb [a0,a1,aA<|.ol<|ps++[x.1.d],aA<|.fz<|.int (((i+1:Nat)):Int),aA<|.fz<|.str x.2]=aA (.nx [a0,a1,aA<|.ol<|ps++[x.1.d]++rn x.2,aA<|.fz<|.int (((i+1:Nat)):Int),aA<|.fz<|.str x.2]):=by
   have o:((i+1:Nat):Int)=(i:Int)+1:=by rfl
   rw[o];unfold Gen.Wb rn;by_cases h0:x.2=dy
   .simp[h,j,h0]
   .simp[h,j,h0,z2]
  have q:=Hj x.2;have r:(ps++[x.1.d]++rn x.2).length<=ps.length+2:=by simp;omega
  obtain⟨G,g,e⟩:=Vd a0 a1 xs (i+1+1) (ps++[x.1.d]++rn x.2) (aA<|.fz<|.int (((i+1:Nat)):Int)) (aA<|.fz<|.str x.2) Θ Θ;refine⟨G,g,?_⟩;show Yq _ _ (.tup [.int (i:Int),.str x.1.b]:: .tup [.int ((i+1:Nat):Int),.str x.2]::Uy (i+1+1) ((xs.flatMap λx=>[x.1.b,x.2]).map D.str)) _=_;refine(Yl Δ n).trans ((Yl Δ c).trans<|e.trans ?_);simp[it]
theorem K1(r0)(xs:À Cf)(h0:Rn r0)(h:∀x∈xs,Rn x.2)(n:xs.length<=100):Gen.W5 [.str (Qw r0 xs)]=aA (.v<|.ol<|Jv r0 xs):=by
 have p:=l_ r0 xs h0 h n;have z:STS.length+(aa "\n").length<=PySem.sizeLine:=Zz Ξ;have a:aa ""=Str.empty:=rfl;have c:0<PySem.sizeLine:=Ya Γ;have q:=Hj r0;have o:Gen.Wb [aA (.fz<|.str<|Qw r0 xs),aA<|.fz<|.lst<|(Uf r0 xs).map D.str,aA<|.ol [],aA<|.fz<|.int ((0:Nat):Int),aA<|.fz<|.str r0]=aA (.nx [aA (.fz<|.str<|Qw r0 xs),aA<|.fz<|.lst<|(Uf r0 xs).map D.str,aA<|.ol<|rn r0,aA<|.fz<|.int ((0:Nat):Int),aA<|.fz<|.str r0]):=by
  have m:((0:Nat):Int)=0:=rfl;rw[m];generalize (Uf r0 xs).map D.str=cs;unfold Gen.Wb rn;by_cases h0:r0=dy
  .simp[a,h0]
  .simp[a,h0,c]
 obtain⟨j,f,e⟩:=Vd (aA<|.fz<|.str<|Qw r0 xs) (aA<|.fz<|.lst<|(Uf r0 xs).map D.str) xs 1 (rn r0) (aA<|.fz<|.int ((0:Nat):Int)) (aA<|.fz<|.str r0) rfl Θ;have l:Yq (W1 2<|Yj (Zj 3)<|Yj (Zj 4)<|W0) Gen.Wb (Uy 0<|(Uf r0 xs).map D.str) [aA (.fz<|.str<|Qw r0 xs),aA<|.fz<|.lst<|(Uf r0 xs).map D.str,aA<|.ol [],aB,aB]=aA (.nx [aA (.fz<|.str<|Qw r0 xs),aA<|.fz<|.lst<|(Uf r0 xs).map D.str,aA<|.ol<|rn r0++xs.flatMap it,j,f]):=by refine Eq.trans ?_ e;show Yq _ _ (.tup [.int ((0:Nat):Int),.str r0]::Uy 1 ((xs.flatMap λx=>[x.1.b,x.2]).map D.str)) _=_;exact Yl Δ o
 generalize Uf r0 xs=cs at*;unfold Gen.W5 Gen.Br Jv;simp[-Yq,i',z,p,C7,l]
noncomputable abbrev SEE:Str:="see "
noncomputable abbrev AND:Str:="; "
theorem vK:Rn SEE:=⟨υ,Ξ⟩
theorem vJ:Rn AND:=⟨υ,Ξ⟩
theorem UO:Rn Str.empty:=⟨(λc h=>by have:(dy).cps.toList=[]:=rfl;rw[this]at h;exact nomatch h),Ξ⟩
theorem l3:Gen.W5 [.non]=aA (.x ⟨"NoText",[],[]⟩):=by unfold Gen.W5 Gen.Br;simp
noncomputable def ptK:D->Option D
 | .tup [_,d,_]=>aA d
 |_=>aB
theorem PM(x:Pnt):∃e,x.d= .tup [.str "point",.str x.k,e]:=by unfold Pnt.d;split<;> exact⟨_,rfl⟩
theorem V'(ps)(h:∀p∈ps,(∃s,p= .str s)\/∃k e,p= .tup [.str "point",.str k,e])(l:ps.length<=1000):Gen.W9 [.lst ps]=aA (.ol<|ps.filterMap ptK):=by
 have c:=Mf (src:=[.own,.acc]) (k:=1) (g:=Zj 0) (tt:=Gen.Jr) (te:=Gen.Js) (st:=λzs=>[aB,aA<|.ol zs]) (f:=ptK) ps [] (λd hd zs a hz=>by
  rcases h d hd with⟨s,rfl⟩|⟨k,e,rfl⟩
  .have f:ptK (.str s)=aB:=rfl;rw[f]
   conv=>lhs;rw[Z7]
   unfold Gen.Jr Gen.Js;simp[-Z7]
  .have f:ptK (.tup [.str "point",.str k,e])=aA (.str k):=rfl;rw[f];have j:L2.atI [D.str "point",.str k,e] 1=aA (.str k):=Wh _ 1 _ rfl
   conv=>lhs;rw[Z7]
   unfold Gen.Jr Gen.Js;simp[-Z7,j,hz]) Ψ
 unfold Gen.W9 Gen.Ge;simp[-Z7,c]
theorem l0(r0)(xs:À Cf):∀p∈Jv r0 xs,(∃s,p= .str s)\/∃k e,p= .tup [.str "point",.str k,e]:=by
 have c:∀(r:Str),∀p∈rn r,∃s,p=D.str s:=λr p a=>by
  unfold rn at a;split at a
  .exact nomatch a
  .exact⟨r,ao.mp a⟩
 intro p a;rcases dm.mp a with a|a
 .exact .inl (c r0 p a)
 .obtain⟨x,_,a⟩:=uq.mp a;rcases az.mp a with e|a
  .obtain⟨y,f⟩:=PM x.1;exact .inr ⟨x.1.k,y,e.trans f⟩
  .exact .inl (c x.2 p a)
theorem eF(r0)(xs:À Cf):(Jv r0 xs).filterMap ptK=xs.map λx=>D.str x.1.k:=by
 have a:∀(r:Str),(rn r).filterMap ptK=[]:=λr=>by unfold rn;split<;> rfl
 unfold Jv;rw[AX,a,f8];induction xs with
 |nil=>rfl
 |cons x xs c=>
  rw[qh,AX,c];unfold it;obtain⟨y,f⟩:=PM x.1;have e:(x.1.d::rn x.2).filterMap ptK=D.str x.1.k::(rn x.2).filterMap ptK:=by rw[f];rfl
  rw[e,a];rfl
theorem Ve(r0)(xs:À Cf):(Jv r0 xs).length<=2*xs.length+1:=by have h1:=Hj r0;have h2:=K2 xs;unfold Jv;rw[ax];lia
inductive Nt where
 |no|two (k k':Str)
noncomputable def Nt.text:Nt->Option Str
 | .no=>aB
 | .two k k'=>aA<|aa "see <"++k++aa " 7>"++aa "; <"++k'++aa ">"
noncomputable def Nt.keys:Nt->List Str
 | .two k k'=>[k,k']
 |_=>[]
def Nt.Ok:Nt->Prop
 | .no=>True
 | .two k k'=>Key k/\Key k'
theorem Nt.few{a:Nt}(h:a.Ok):a.keys.length<=11:=by cases a<;> simp[Nt.keys]
noncomputable abbrev SVN:Str:="7"
theorem Gw:∀q,aA SVN=aA q->Plc q:=λq e=>by cases e;exact⟨υ,Ξ,Ξ⟩
theorem lx(h)(h':Key k'):aa "see <"++k++aa " 7>"++aa "; <"++k'++aa ">"=Qw SEE [(⟨k,aA SVN,h,Gw⟩,AND),(⟨k',aB,h',λ_ e=>nomatch e⟩,dy)]:=by
 have f:aa "see <"=SEE++LTS:=Ξ
 have c:aa " 7>"=aa " "++SVN++GTS:=Ξ
 have a:aa "; <"=AND++LTS:=Ξ
 show _=SEE++LTS++((k++aa " "++SVN)++GTS++AND++LTS++(k'++GTS++dy))
 rw[f,c,a,ju];simp only[i4]
structure Wk where
 kd:Str
 tt:Á Str
 yr:Á Str
 hd:Á Str
 inn:Á Str
 nt:Nt
noncomputable def Gx(f:Str):Option Str->List (Str×Str)
 |none=>[]
 |some x=>[(f,x)]
def Wk.fl(w:Wk):À (Str×Str):=("pages","1-9")::(Gx "title" w.tt++(Gx "year" w.yr++(Gx "hands" w.hd++(Gx "in" w.inn++Gx "note" w.nt.text))))
noncomputable def Wk.ks(w:Wk):À Str:=w.fl.map (·.1)
noncomputable def Wk.vs(w:Wk):À D:=w.fl.map λp=>D.str p.2
abbrev Wk.d(w:Wk):D:=.tup [.str w.kd,.dK (Zr w.ks) w.vs]
noncomputable def Wk.fd(w:Wk)(f:Str):Á Str:=(w.fl.find? λp=>decide (p.1=f)).map (·.2)
theorem Hk(f):∀l:À (Str×Str),Z5 (l.map (·.1)) (l.map λp=>D.str p.2) f=((l.find? λp=>decide (p.1=f)).map (·.2)).map D.str
 | []=>rfl
 |p::l=>by
  have a:=Hk f l;show(if p.1=f then aA (D.str p.2)else Z5 (l.map (·.1)) (l.map λp=>D.str p.2) f)=_;by_cases e:p.1=f
  .rw[dZ e,AK θ];rfl
  .rw[dY e,AL θ];exact a
theorem Hl(w:Wk)(f):Z5 (Zr w.ks) w.vs (Sum.inr f)=(w.fd f).map D.str:=by rw[W2];exact Hk f w.fl
theorem fo0{l:À (Str×Str)}(h:decide (g=f)=aE)(m:(l.find? λp=>decide (p.1=f)).map (·.2)=y):(((g,v)::l).find? λp=>decide (p.1=f)).map (·.2)=y:=by rw[AL η];exact m
theorem fo1(h:decide (g=f)=aE)(m:(l.find? λp=>decide (p.1=f)).map (·.2)=y):((Gx g x++l).find? λp=>decide (p.1=f)).map (·.2)=y:=by
 cases x
 .exact m
 .exact fo0 h m
theorem fo2(m:(l.find? λp=>decide (p.1=f)).map (·.2)=aB):((Gx f x++l).find? λp=>decide (p.1=f)).map (·.2)=x:=by
 cases x
 .exact m
 .rw[show Gx f (aA _)++l=(f,_)::l from rfl,AK Δ];rfl
theorem UN(w:Wk):w.fd "title"=w.tt/\w.fd "year"=w.yr/\w.fd "hands"=w.hd/\w.fd "in"=w.inn/\w.fd "note"=w.nt.text/\w.fd "book"=aB/\w.fd "kind"=aB:=by unfold Wk.fd Wk.fl;rw[<-iq (Gx "note" _)];refine⟨fo0 Φ ?_,fo0 Φ ?_,fo0 Φ ?_,fo0 Φ ?_,fo0 Φ ?_,fo0 Φ ?_,fo0 Φ ?_⟩<;> repeat' first|exact rfl|with_reducible refine fo2 ?_|refine fo1 Φ ?_
theorem note_keys(w:Wk)(h:w.nt.Ok):Gen.U5 [w.d]=aA (.ol<|w.nt.keys.map D.str):=by
 have l:=Hl w "note";rw[(UN w).2.2.2.2.1]at l;unfold Wk.d;generalize Zr w.ks=KS,w.vs=VS,w.kd=KD at*;cases hn:w.nt with
 |no=>rw[hn]at l;have l:Z5 KS VS (Sum.inr<|aa "note")=aB:=l;have r:=l3;unfold Gen.U5 Gen.Bu Gen.Ce;simp[l,r,Nt.keys,-Z5]
 |two k a=>
  rw[hn]at l h;obtain⟨h1,h2⟩:Key k/\Key a:=h;have l:Z5 KS VS (Sum.inr<|aa "note")=aA (.str<|aa "see <"++k++aa " 7>"++aa "; <"++a++aa ">"):=l;rw[lx h1 h2]at l;have r:=K1 SEE [(⟨k,aA SVN,h1,Gw⟩,AND),(⟨a,aB,h2,λ_ e=>nomatch e⟩,dy)] vK (λx c=>by
   rcases az.mp c with e|c
   .rw[e];exact vJ
   .rw[ao.mp c];exact UO) Δ
  have p:=V' _ (l0 SEE [(⟨k,aA SVN,h1,Gw⟩,AND),(⟨a,aB,h2,λ_ e=>nomatch e⟩,dy)]) (by have:=Ve SEE [(⟨k,aA SVN,h1,Gw⟩,AND),(⟨a,aB,h2,λ_ e=>nomatch e⟩,dy)];simp at this;lia);show _=aA (SV.ol<|[k,a].map D.str);have p:Gen.W9 [.lst (Jv SEE [(⟨k,aA SVN,h1,Gw⟩,AND),(⟨a,aB,h2,λ_ e=>nomatch e⟩,dy)])]=aA (.ol [.str k,.str a]):=p;generalize Jv SEE [(⟨k,aA SVN,h1,Gw⟩,AND),(⟨a,aB,h2,λ_ e=>nomatch e⟩,dy)]=PS at*;generalize Qw SEE [(⟨k,aA SVN,h1,Gw⟩,AND),(⟨a,aB,h2,λ_ e=>nomatch e⟩,dy)]=W at*;unfold Gen.U5 Gen.Bu Gen.Ce;simp[l,r,p,-Z5]
theorem MU(w:Wk):Z5 (Zr w.ks) w.vs (Sum.inr<|aa "in")=w.inn.map D.str:=by rw[Hl,show w.fd (aa "in")=w.inn from(UN w).2.2.2.1]
theorem Jd(h:a δ=aA (.nx δ')):Zo a b δ=b δ':=by unfold Zo;rw[h];rfl
noncomputable abbrev Nk:Str:=aa "in"
end My
set_option maxHeartbeats 800000
namespace My
open L2
theorem KZ:∀{a:À Str},o∉a->Qm (Zr a) (Sum.inr o)=aB
 | [],_=>rfl
 |x::xs,h=>by have h1:¬(Sum.inr x:L2.Key)=Sum.inr o:=λz=>h (by rw[Sum.inr.inj z];exact ac);show(if(Sum.inr x:L2.Key)=Sum.inr o then aA 0 else(Qm (Zr xs)<|Sum.inr o).map (· +1))=aB;rw[dY h1,KZ λz=>h<|ag _ z];rfl
theorem Vf:∀{a:À Str},o∈a->∃p,Qm (Zr a) (Sum.inr o)=aA p/\a[p]? =aA o
 |x::xs,h=>by
  by_cases e:x=o
  .exact⟨0,by show(if(Sum.inr x:L2.Key)=Sum.inr o then aA 0 else _)=_;rw[dZ<|by rw[e]],by rw[e];rfl⟩
  .have h':o∈xs:=by rcases az.mp h with z|z;exact dt z.symm e;exact z
   obtain⟨p,h1,h2⟩:=Vf h';refine⟨p+1,?_,by simpa using h2⟩;show(if(Sum.inr x:L2.Key)=Sum.inr o then aA 0 else(Qm (Zr xs)<|Sum.inr o).map (· +1))=_;rw[dY λz=>e<|Sum.inr.inj z,h1];rfl
noncomputable def Tw(key:Str):List Str->List Str×List Str->List Str×List Str
 | [],p=>p
 |o::os,p=>Tw key os (if o∈p.1 then p else(p.1++[o],p.2++[key]))
theorem KY(key):∀os p,p.1.length=p.2.length->(Tw key os p).1.length=(Tw key os p).2.length/\(Tw key os p).2.length<=p.2.length+os.length
 | [],p,h=>⟨h,cj _⟩
 |o::os,p,h=>by
  have a:=KY key os (if o∈p.1 then p else(p.1++[o],p.2++[key])) (by split;exact h;simp[h]);refine⟨a.1,fg a.2 ?_⟩;split
  .rw[ca];(clear a;lia)
  .simp;(clear a;lia)
theorem Vg(a0 a3 a4 a key):∀os p g,p.1.length=p.2.length->p.2.length+os.length<=1000->
  ∃i,Yq (Zj 5) Gen.U6 (os.map D.str) [a0,aA<|.fz<|.str key,aA<|.oQ a (Zr p.1)<|p.2.map D.str,a3,a4,g]=
   aA (.nx [a0,aA<|.fz<|.str key,aA<|.oQ a (Zr (Tw key os p).1)<|(Tw key os p).2.map D.str,a3,a4,i])
 | [],p,g,_,_=>⟨g,by simp[Tw]⟩
 |o::os,p,g,hp,hl=>by
  rw[ca]at hl;have z:p.2.length<PySem.sizeLine:=Ya Θ;have f:Gen.U6 [a0,aA<|.fz<|.str key,aA<|.oQ a (Zr p.1)<|p.2.map D.str,a3,a4,aA<|.fz<|.str o]=aA (.nx [a0,aA<|.fz<|.str key,aA<|.oQ a (Zr (if o∈p.1 then p else(p.1++[o],p.2++[key])).1)<|(if o∈p.1 then p else(p.1++[o],p.2++[key])).2.map D.str,a3,a4,aA<|.fz<|.str o]):=by
   by_cases h:o∈p.1
   .obtain⟨q,h1,_⟩:=Vf h;rw[dZ h];unfold Gen.U6 Ib;generalize Zr p.1=m at*;have c:(p.2.map D.str).length<PySem.sizeLine:=by rw[aj];exact z
    generalize p.2.map D.str=l at*;simp[-Qm,h1,c]
   .have h1:=KZ h;rw[dY h];have j:Zr (p.1++[o])=Zr p.1++[Sum.inr o]:=by unfold Zr;rw[cb];rfl
    rw[j,cb];unfold Gen.U6 Ib;generalize Zr p.1=m at*;have c:(p.2.map D.str).length<PySem.sizeLine:=by rw[aj];exact z
    generalize p.2.map D.str=l at*;simp[-Qm,h1,c]
  obtain⟨i,e⟩:=Vg a0 a3 a4 a key os (if o∈p.1 then p else(p.1++[o],p.2++[key])) (aA<|.fz<|.str o) (by split;exact hp;simp[hp]) (by split;lia;simp;lia);refine⟨i,?_⟩;exact(Yl Δ f).trans e
noncomputable def Io(k key:Str)(p:List Str×List (List Str)):List Str×List (List Str):=match Qm (Zr p.1) (Sum.inr k)with
 |some q=>(p.1,p.2.set q<|p.2.getD q []++[key])
 |none=>(p.1++[k],p.2++[[key]])
def Nl(a:Option Str)(key:Str)(p:List Str×List (List Str)):List Str×List (List Str):=match a with
 |some k=>Io k key p
 |none=>p
noncomputable abbrev pD(a:List<|List Str):List<|List D:=a.map λl=>l.map D.str
theorem pB(k key p):Lw (Zr p.1) (pD p.2) (Sum.inr k) (.str key)=(Zr (Io k key p).1,pD (Io k key p).2):=by
 unfold Lw Io;split
 .rename_i q a
  try rw[a]
  congr 1;unfold pD;rw[List.map_set];congr 1;rw[cb,du,du,c8];cases p.2[q]? <;> rfl
 .rename_i a
  try rw[a]
  unfold Zr pD;rw[cb,cb];rfl
theorem take_in(a b)(n:À L2.Key)(SVs key)(w:Wk)(y:w.nt.Ok)(s:Z5 n SVs (Sum.inr key)=aA w.d)(p q)(r:p.1.length=p.2.length)(K:p.2.length<=900)(H:q.2.length<=900)(x:∀l∈q.2,l.length<=900)(L:w.nt.keys.length<=20):
  Gen.Os a b [.dK n SVs,.str key] (.oK (Zr p.1)<|p.2.map D.str) (.oN (Zr q.1)<|pD q.2)=
   aA (.oK (Zr (Tw key w.nt.keys p).1)<|(Tw key w.nt.keys p).2.map D.str,.oN (Zr (Nl w.inn key q).1)<|pD (Nl w.inn key q).2):=by
 obtain⟨F,e⟩:=Vg (aA<|.fz<|.dK n SVs) (aA<|.oR b (Zr q.1)<|pD q.2) (aA<|.fz w.d) a key w.nt.keys p aB r (by clear r;lia);have o:=note_keys w y;have c:=MU w;have h:okX (pD q.2) 1:=⟨Ya Ω,Ya Θ,λl B=>by
  obtain⟨m,z,rfl⟩:=av.mp B;have:=x m z;exact Ya Ω⟩
 unfold Wk.d at*;unfold Gen.Os Gen.Il;have f:aa "in"=Nk:=rfl;generalize P:Tw key w.nt.keys p=A at*;have j:∀k,Lw (Zr q.1) (pD q.2) (Sum.inr k) (.str key)=(Zr (Io k key q).1,pD (Io k key q).2):=λk=>pB k key q;generalize w.nt.keys.map D.str=E at*;generalize p.2.map D.str=Q at*;generalize Zr p.1=T at*;generalize Zr w.ks=WK at*;generalize w.vs=v at*;cases u:w.inn with
 |none=>rw[u]at c;have c:Z5 WK v (Sum.inr Nk)=aB:=c;show _=aA (_,SV.oN (Zr q.1)<|pD q.2);generalize Zr q.1=QK,pD q.2=C at*;simp[-Yq,-Z5,-Lw,s,o,e,f,c]
 |some k=>rw[u]at c;have c:Z5 WK v (Sum.inr Nk)=aA (.str k):=c;have j:=j k;show _=aA (_,SV.oN (Zr (Io k key q).1)<|pD (Io k key q).2);generalize Zr q.1=QK,pD q.2=C at*;unfold XC;simp[-Yq,-Z5,-Lw,s,o,e,f,c,h,j]
end My
set_option maxHeartbeats 800000
namespace My
open L2
noncomputable def lk{α:Type}:List Str->List α->Str->Option α
 |x::xs,v::vs,k=>if x=k then aA v else lk xs vs k
 |_,_,_=>aB
theorem Gy(f k):∀xs (vs:À α),Z5 (Zr xs) (vs.map f) (Sum.inr k)=(lk xs vs k).map f
 | [],[]=>rfl
 | [],_::_=>rfl
 |_::_,[]=>rfl
 |x::xs,v::vs=>by
  show(if(Sum.inr x:L2.Key)=Sum.inr k then aA (f v)else Z5 (Zr xs) (vs.map f)<|Sum.inr k)=xx f (if x=k then aA v else lk xs vs k);by_cases e:x=k
  .rw[dZ (by rw[e]),dZ e];rfl
  .rw[dY λz=>e<|Sum.inr.inj z,dY e,Gy f k xs vs]
inductive Why where
 |text|note (k:Str)|parts (ks:List Str)
noncomputable def Why.d:Why->D
 | .text=>.tup [.str "text"]
 | .note k=>.tup [.str "note",.str k]
 | .parts ks=>.tup [.str "parts",.tup<|ks.map D.str]
noncomputable def Hm:Option Why->D
 |some y=>y.d
 |none=>.non
def reason(p:List Str×List Str)(q:List Str×List (List Str))(m:Nat)(key:Str):Option Why:=match lk p.1 p.2 key with
 |some k=>aA<|.note k
 |none=>if m<=((lk q.1 q.2 key).getD []).length then aA (.parts<|((lk q.1 q.2 key).getD []).take m)else aB
theorem reason_for(p q)(m:Nat)(H:m<=100)(key)(s:∀l∈q.2,l.length<=900):
  Gen.Qr [.str key,.dK (Zr p.1)<|p.2.map D.str,.dK (Zr q.1)<|(pD q.2).map D.lst,.int (m:Int)]=aA (.fz<|Hm<|reason p q m key):=by
 have l1:=Gy D.str key p.1 p.2;have l2:Z5 (Zr q.1) ((pD q.2).map D.lst) (Sum.inr key)=(lk q.1 q.2 key).map λl=>D.lst<|l.map D.str:=by have:=Gy (λl:À Str=>D.lst<|l.map D.str) key q.1 q.2;rw[<-this,pD,f7];rfl
 generalize Zr p.1=B at*;generalize p.2.map D.str=A at*;generalize Zr q.1=z at*;generalize u:(pD q.2).map D.lst=y at*;have z2:2<=PySem.sizeLine:=Zz Γ;unfold reason;cases h1:lk p.1 p.2 key with
 |some k=>rw[h1]at l1;show _=aA (SV.fz<|D.tup [.str "note",.str k]);unfold Gen.Qr Gen.Jt;simp[-Z5,l1,z2]
 |none=>
  rw[h1]at l1;have l1:Z5 B A (Sum.inr key)=aB:=l1;have K:((lk q.1 q.2 key).getD []).length<=900:=by
   cases h2:lk q.1 q.2 key with
   |none=>exact gr _
   |some l=>
    refine s l ?_;have n:∀(xs:À Str) (vs:À (À Str)),lk xs vs key=aA l->l∈vs:=by
     intro xs;induction xs with
     |nil=>intro vs h;cases vs<;> cases h
     |cons x xs r=>
      intro vs h;cases vs with
      |nil=>cases h
      |cons v vs=>
       have h:(if x=key then aA v else lk xs vs key)=aA l:=h;split at h
       .cases h;exact ac
       .exact ag _ (r vs h)
    exact n _ _ h2
  have j:(Z5 z y<|Sum.inr key).getD (.lst [])= .lst (((lk q.1 q.2 key).getD []).map D.str):=by rw[l2];cases lk q.1 q.2 key<;> rfl
  generalize hd:(lk q.1 q.2 key).getD []=a at*;have f:(a.map D.str).length=a.length:=aj ..;have F:a.length<=PySem.sizeLine:=Zz (by clear f;lia);by_cases c:m<=a.length
  .rw[dZ c];show _=aA (SV.fz<|D.tup [.str "parts",.tup<|(a.take m).map D.str]);have o:(m:Int)<=(a.length:Int):=by clear f;lia
   have w:Ai (a.map D.str) aB (aA (m:Int))=(a.take m).map D.str:=by rw[vU _ _ (by rw[f];exact c),GG]
   have E:(a.take m).length<=PySem.sizeLine:=Zz (by rw[om];(clear f;lia));have lt:((a.take m).map D.str).length=(a.take m).length:=aj ..;generalize (a.take m).map D.str=TM,a.map D.str=C at*;unfold Gen.Qr Gen.Jt;simp[-Z5,l1,j,f,o,w,z2]
  .rw[dY c];have o:¬(m:Int)<=(a.length:Int):=by clear f;lia
   generalize a.map D.str=C at*;unfold Gen.Qr Gen.Jt;simp[-Z5,l1,j,f,o,Hm]
end My
set_option maxHeartbeats 800000
namespace My
open L2
noncomputable abbrev Kj:=Str×Nat×Why
abbrev Wf(r:Kj):D:=.tup [.str r.1,.int (r.2.1:Int),r.2.2.d]
noncomputable abbrev PQ:=(List Str×List Str)×(List Str×List (List Str))
def Pj(xs:List Str)(wks:List Wk)(s:PQ)(key:Str):PQ:=match lk xs wks key with
 |some w=>(Tw key w.nt.keys s.1,Nl w.inn key s.2)
 |none=>s
structure Bd(t:Nat)(s:PQ):Prop where
 p:s.1.1.length=s.1.2.length
 pl:s.1.2.length<=20*t
 q:s.2.1.length=s.2.2.length
 ql:s.2.2.length<=t
 qq:∀l∈s.2.2,l.length<=t
theorem pA(h1:q.1.length=q.2.length)(h2:q.2.length<=t)(c:∀l∈q.2,l.length<=t):
  (Io k key q).1.length=(Io k key q).2.length/\(Io k key q).2.length<=t+1/\∀l∈(Io k key q).2,l.length<=t+1:=by
 unfold Io;split
 .rename_i j _;refine⟨by rw[io];exact h1,by rw[io];lia,λl a=>?_⟩;rcases List.mem_or_eq_of_mem_set a with z|z
  .have:=c l z;lia
  .rw[z,ax,dv,du];cases e:q.2[j]? with
   |none=>simp
   |some m=>have:=c m<|gh e;simp;omega
 .refine⟨by simp[h1],by simp;omega,λl a=>?_⟩;rcases dm.mp a with z|z
  .have:=c l z;lia
  .rw[ao.mp z];simp
abbrev Qp(xs:À Str)(wks:À Wk):D:=.dK (Zr xs)<|wks.map Wk.d
theorem lm(xs wks)(A:∀w∈wks,w.nt.Ok)(s t)(F:t<=40)(c:Bd t s)(r w)(o:lk xs wks r.1=aA w)(a1 a2 a3 a6 a7 a9 a10):
  Gen.Go [aA (.fz<|Qp xs wks),a1,a2,a3,aA<|.oK (Zr s.1.1)<|s.1.2.map D.str,aA<|.oN (Zr s.2.1)<|pD s.2.2,a6,a7,aA<|.fz<|Wf r,a9,a10]=
   aA (.nx [aA (.fz<|Qp xs wks),a1,a2,a3,aA<|.oK (Zr (Pj xs wks s r.1).1.1)<|(Pj xs wks s r.1).1.2.map D.str,aA<|.oN (Zr (Pj xs wks s r.1).2.1)<|pD (Pj xs wks s r.1).2.2,a6,a7,aA<|.fz<|Wf r,a9,a10]):=by
 have f:∀(xs:À Str) (vs:À Wk),lk xs vs r.1=aA w->w∈vs:=by
  intro xs;induction xs with
  |nil=>intro vs h;cases vs<;> cases h
  |cons x xs u=>
   intro vs h;cases vs with
   |nil=>cases h
   |cons v vs=>
    have h:(if x=r.1 then aA v else lk xs vs r.1)=aA w:=h;split at h
    .cases h;exact ac
    .exact ag _ (u vs h)
 have q:=A w<|f _ _ o;have H:=Nt.few q;have m:Z5 (Zr xs) (wks.map Wk.d) (Sum.inr r.1)=aA w.d:=by rw[Gy Wk.d r.1 xs wks,o];rfl
 have z:=c.pl;have y:=c.ql;have e:∀a b,Gen.Os a b [Qp xs wks,.str r.1] (.oK (Zr s.1.1)<|s.1.2.map D.str) (.oN (Zr s.2.1)<|pD s.2.2)=aA (.oK (Zr (Tw r.1 w.nt.keys s.1).1)<|(Tw r.1 w.nt.keys s.1).2.map D.str,.oN (Zr (Nl w.inn r.1 s.2).1)<|pD (Nl w.inn r.1 s.2).2):=λa b=>
  take_in a b (Zr xs) (wks.map Wk.d) r.1 w q m s.1 s.2 c.p Θ Θ (λl B=>by have:=c.qq l B;lia) Θ
 have C:Pj xs wks s r.1=(Tw r.1 w.nt.keys s.1,Nl w.inn r.1 s.2):=by unfold Pj;rw[o]
 rw[C];have E:L2.atI [D.str r.1,.int (r.2.1:Int),r.2.2.d] 0=aA (.str r.1):=Wh _ 0 _ rfl;refine(kE (i:=4) (j:=5) (n:=2) (ds:=[Qp xs wks,.str r.1]) (δ1:=[aA (.fz<|Qp xs wks),a1,a2,a3,aA<|.oK (Zr s.1.1)<|s.1.2.map D.str,aA<|.oN (Zr s.2.1)<|pD s.2.2,a6,a7,aA<|.fz<|Wf r,a9,a10]) ?_ rfl Γ rfl rfl rfl rfl e).trans rfl;generalize Qp xs wks=SD,Gen.Os=V;simp[E]
theorem Vh(xs wks)(n:∀w∈wks,w.nt.Ok)(a1 a2 a3 a6 a7 a9 a10):∀(f:À Kj) s t x8,t+f.length<=40->Bd t s->(∀r∈f,∃w,lk xs wks r.1=aA w)->
  ∃g,Bd (t+f.length) ((f.map (·.1)).foldl (Pj xs wks) s)/\Yq (Zj 8) Gen.Go (f.map Wf) [aA (.fz<|Qp xs wks),a1,a2,a3,aA<|.oK (Zr s.1.1)<|s.1.2.map D.str,aA<|.oN (Zr s.2.1)<|pD s.2.2,a6,a7,x8,a9,a10]=
   aA (.nx [aA (.fz<|Qp xs wks),a1,a2,a3,aA (.oK (Zr ((f.map (·.1)).foldl (Pj xs wks) s).1.1) (((f.map (·.1)).foldl (Pj xs wks) s).1.2.map D.str)),aA (.oN (Zr ((f.map (·.1)).foldl (Pj xs wks) s).2.1) (pD ((f.map (·.1)).foldl (Pj xs wks) s).2.2)),a6,a7,g,a9,a10])
 | [],s,t,x8,_,c,_=>⟨x8,c,Δ⟩
 |r::f,s,t,x8,h,c,hr=>by
  rw[ca]at h;obtain⟨w,m⟩:=hr r ac;have st:=lm xs wks n s t Θ c r w m a1 a2 a3 a6 a7 a9 a10;obtain⟨g,z,e⟩:=Vh xs wks n a1 a2 a3 a6 a7 a9 a10 f (Pj xs wks s r.1) (t+1) (aA<|.fz<|Wf r) Θ (by
   unfold Pj;split
   .rename_i w m;have j:∀(xs:À Str) (vs:À Wk),lk xs vs r.1=aA w->w∈vs:=by
     intro xs;induction xs with
     |nil=>intro vs c;cases vs<;> cases c
     |cons x xs o=>
      intro vs c;cases vs with
      |nil=>cases c
      |cons v vs=>
       have c:(if x=r.1 then aA v else lk xs vs r.1)=aA w:=c;split at c
       .cases c;exact ac
       .exact ag _ (o vs c)
    have A:=Nt.few<|n w<|j _ _ m;obtain⟨a,b⟩:=KY r.1 w.nt.keys s.1 c.p;have y:=c.pl;have I:(Nl w.inn r.1 s.2).1.length=(Nl w.inn r.1 s.2).2.length/\(Nl w.inn r.1 s.2).2.length<=t+1/\∀l∈(Nl w.inn r.1 s.2).2,l.length<=t+1:=by
     unfold Nl;split
     .exact pA c.q c.ql c.qq
     .exact⟨c.q,me c.ql,λl h=>me<|c.qq l h⟩
    exact⟨a,by show(Tw r.1 w.nt.keys s.1).2.length<=_;lia,I.1,I.2.1,I.2.2⟩
   .exact⟨c.p,by have:=c.pl;lia,c.q,me c.ql,λl h=>me<|c.qq l h⟩)<|λx u=>hr x<|ag _ u
  refine⟨g,by rw[ca,show t+(f.length+1)=t+1+f.length by lia];exact z,?_⟩;exact(Yl Δ st).trans e
end My
set_option maxHeartbeats 800000
namespace My
open L2
theorem eE(ks:À Str):(ks.map D.str).all D.isFlat=aC:=by rw[gi];intro d hd;obtain⟨k,_,rfl⟩:=av.mp hd;rfl
theorem Vi(y:Á Why):Hm y= .non\/∃g,Hm y= .tup g:=by
 cases y with
 |none=>exact .inl rfl
 |some y=>cases y<;> exact .inr ⟨_,rfl⟩
theorem MT(ks:À Str):∀d∈ks.map D.str,FlD d:=λd hd=>by obtain⟨k,_,rfl⟩:=av.mp hd;exact .str k
theorem vI(y:Á Why):FlD<|Hm y:=by
 cases y with
 |none=>exact .non
 |some y=>
  cases y with
  |text=>refine .tup λd hd=>?_;simp at hd;rw[hd];exact .str _
  |note k=>
   refine .tup λd hd=>?_;simp at hd;rcases hd with rfl|rfl
   .exact .str _
   .exact .str _
  |parts ks=>
   refine .tup λd hd=>?_;simp at hd;rcases hd with rfl|rfl
   .exact .str _
   .exact .tup λe a=>MT ks e a
theorem jo(a:À Kj)(l:a.length<=1000)(g a1 a2 a4 a5 a6 a7 a8 x9 a10):
  Z1 9 (Cq<|Y3 [.own,.acc] 1 (Y9<|Za 3) (Zj 0) (Y1) Gen.Jg) [g,a1,a2,aA<|.ol<|a.map Wf,a4,a5,a6,a7,a8,x9,a10]=
   aA (.nx [g,a1,a2,aA<|.ol<|a.map Wf,a4,a5,a6,a7,a8,aA (.ol ((a.map (·.1)).map D.str)),a10]):=by
 have c:=Ax (te:=Gen.Jg) (f:=λd=>match d with| .tup (x::_)=>x|d=>d) (a.map Wf) [] (λx h zs=>by
  obtain⟨r,_,rfl⟩:=av.mp h;have g:L2.atI [D.str r.1,.int (r.2.1:Int),r.2.2.d] 0=aA (.str r.1):=Wh _ 0 _ rfl;unfold Gen.Jg;simp[g]) Ψ
 rw[f8,f7]at c;have j:(a.map ((λd=>match d with| .tup (x::_)=>x|d=>d)∘Wf):À D)=(a.map (·.1)).map D.str:=by rw[f7];rfl
 rw[j]at c;have fl:=MT (a.map (·.1));have e:=JI (f:=Y3 [.own,.acc] 1 (Y9<|Za 3) (Zj 0) (Y1) Gen.Jg) (δ:=[g,a1,a2,aA<|.ol<|a.map Wf,a4,a5,a6,a7,a8,x9,a10]) (xs:=(a.map (·.1)).map D.str) (δ':=icy [g,a1,a2,aA<|.ol<|a.map Wf,a4,a5,a6,a7,a8,x9,a10]) (by
  generalize a.map Wf=RD,(a.map (·.1)).map D.str=KD at*;simp[-Z7,c]) fl
 generalize a.map Wf=RD,(a.map (·.1)).map D.str=KD,Cq (Y3 [.own,.acc] 1 (Y9<|Za 3) (Zj 0) (Y1) Gen.Jg)=m at*;simp[e]
def Mp(s:PQ)(m:Nat)(a:À Str)(xs:À Str):À (Str×Á Why):=((G6 xs).filter λk=>decide (k∉a)).map λk=>(k,reason s.1 s.2 m k)
abbrev Bc(p:Str×Á Why):D:=.tup [.str p.1,Hm p.2]
theorem Hn(xs wks)(v:xs.length<64)(s)(m:Nat)(x:m<=100)(w:∀l∈s.2.2,l.length<=900)(known a1 a3 a6 a7 a8 x10):
  Z1 10 (Cq<|Y3 [.own,.cap 4,.cap 5,.cap 2,.cap 9,.acc] 5 (Y9<|Yh B7<|Zd (Za 0) Zh) (Zj 0) (Gen.Jh) Gen.Ji) [aA (.fz<|Qp xs wks),a1,aA<|.fz<|.int (m:Int),a3,aA<|.oK (Zr s.1.1)<|s.1.2.map D.str,aA<|.oN (Zr s.2.1)<|pD s.2.2,a6,a7,a8,aA<|.ol<|known.map D.str,x10]=
   aA (.nx [aA (.fz<|Qp xs wks),a1,aA<|.fz<|.int (m:Int),a3,aA<|.oK (Zr s.1.1)<|s.1.2.map D.str,aA<|.oN (Zr s.2.1)<|pD s.2.2,a6,a7,a8,aA<|.ol<|known.map D.str,aA<|.ol<|(Mp s m known xs).map Bc]):=by
 have r:B7 [Qp xs wks]=aA (.ol<|(G6 xs).map D.str):=kH v;have E:(G6 xs).length=xs.length:=(Oq xs).length_eq;have u:=λkey=>reason_for s.1 s.2 m x key w;have o:=Mf (src:=[.own,.cap 4,.cap 5,.cap 2,.cap 9,.acc]) (k:=5) (g:=Zj 0) (tt:=Gen.Jh) (te:=Gen.Ji) (st:=λzs=>[aB,aA<|.fz<|.dK (Zr s.1.1)<|s.1.2.map D.str,aA<|.fz<|.dK (Zr s.2.1)<|(pD s.2.2).map D.lst,aA<|.fz<|.int (m:Int),aA<|.fz<|.lst<|known.map D.str,aA<|.ol zs])
  (f:=λd=>match d with| .str k=>if k∈known then aB else aA (Bc (k,reason s.1 s.2 m k))|_=>aB) ((G6 xs).map D.str) [] (λd hd zs A hz=>by
  obtain⟨k,_,rfl⟩:=av.mp hd;have i1:=X7 k known;have c:=u k;have z2:2<=PySem.sizeLine:=Zz Γ
  conv=>lhs;rw[Z7]
  unfold Gen.Jh Gen.Ji;by_cases h:k∈known
  .rw[d_ h]at i1;generalize Hm (reason s.1 s.2 m k)=WD,D.dK (Zr s.1.1) (s.1.2.map D.str)=PD,D.dK (Zr s.2.1) ((pD s.2.2).map D.lst)=q at*;simp[-Z7,D.seq?,i1,h]
  .rw[d0 h]at i1;rcases Vi (reason s.1 s.2 m k)with a|⟨C,a⟩
   .rw[a]at c;generalize D.dK (Zr s.1.1) (s.1.2.map D.str)=PD,D.dK (Zr s.2.1) ((pD s.2.2).map D.lst)=q at*;simp[-Z7,D.seq?,i1,h,c,z2,hz,Bc,a]
   .rw[a]at c;generalize D.dK (Zr s.1.1) (s.1.2.map D.str)=PD,D.dK (Zr s.2.1) ((pD s.2.2).map D.lst)=q at*;simp[-Z7,D.seq?,i1,h,c,z2,hz,Bc,a]) Ψ
 have z:((G6 xs).map D.str).filterMap (λd=>match d with| .str k=>if k∈known then aB else aA (Bc (k,reason s.1 s.2 m k))|_=>aB)=(Mp s m known xs).map Bc:=by
  unfold Mp;rw[f7,v9];generalize G6 xs=ys;induction ys with
  |nil=>rfl
  |cons y ys j=>
   by_cases h:y∈known
   .rw[jm ρ,zn ρ];exact j
   .rw[ji (b:=Bc (y,reason s.1 s.2 m y)) ρ,zm ρ,cg,j];rfl
 rw[f8,z]at o;have fl:∀d∈(Mp s m known xs).map Bc,FlD d:=λd hd=>by
  obtain⟨p,_,rfl⟩:=av.mp hd;exact .tup λe n=>by
   simp at n;rcases n with rfl|rfl
   .exact .str _
   .exact vI _
 have e:=JI (f:=Y3 [.own,.cap 4,.cap 5,.cap 2,.cap 9,.acc] 5 (Y9<|Yh B7<|Zd (Za 0) Zh) (Zj 0) (Gen.Jh) Gen.Ji) (δ:=[aA (.fz<|Qp xs wks),a1,aA<|.fz<|.int (m:Int),a3,aA<|.oK (Zr s.1.1)<|s.1.2.map D.str,aA<|.oN (Zr s.2.1)<|pD s.2.2,a6,a7,a8,aA<|.ol<|known.map D.str,x10]) (xs:=(Mp s m known xs).map Bc) (δ':=icy [aA (.fz<|Qp xs wks),a1,aA<|.fz<|.int (m:Int),a3,aA<|.oK (Zr s.1.1)<|s.1.2.map D.str,aA<|.oN (Zr s.2.1)<|pD s.2.2,a6,a7,a8,aA<|.ol<|known.map D.str,x10]) (by
  generalize (Mp s m known xs).map Bc=RD,known.map D.str=KD,s.1.2.map D.str=P2,Zr s.1.1=P1,Zr s.2.1=Q1,pD s.2.2=Q2,(G6 xs).map D.str=SX,Qp xs wks=B at*;simp[-Z7,r,o]) fl
 generalize (Mp s m known xs).map Bc=RD,known.map D.str=KD,Qp xs wks=B,Cq (Y3 [.own,.cap 4,.cap 5,.cap 2,.cap 9,.acc] 5 (Y9<|Yh B7<|Zd (Za 0) Zh) (Zj 0) (Gen.Jh) Gen.Ji)=F at*;simp[e]
end My
set_option maxHeartbeats 800000
namespace My
open L2
def Bw(t:Nat)(ps:À (Str×Á Why)):À Kj:=ps.filterMap λp=>p.2.map λy=>(p.1,t,y)
theorem Why.d_tup(y:Why):∃g,y.d= .tup g:=by cases y<;> exact⟨_,rfl⟩
noncomputable def frF(t:Nat):D->Option D
 | .tup [k,.tup ts]=>aA<|.tup [k,.int (t:Int),.tup ts]
 |_=>aB
theorem UM(t):∀ps,(ps.map Bc).filterMap (frF t)=(Bw t ps).map Wf
  | []=>rfl
  | (k,aB)::ps=>UM t ps
  | (k,aA y)::ps=>by
    have f:=UM t ps;obtain⟨a,c⟩:=y.d_tup;have l:Bc (k,aA y)= .tup [.str k,.tup a]:=by show D.tup [.str k,y.d]=_;rw[c]
    have j:Bw t ((k,aA y)::ps)=(k,t,y)::Bw t ps:=rfl;rw[cg,l,j,cg,<-f];have h:Wf (k,t,y)= .tup [.str k,.int (t:Int),.tup a]:=by show D.tup [.str k,.int (t:Int),y.d]=_;rw[c]
    rw[h];rfl
theorem jn(ps:À (Str×Á Why))(n:ps.length<=1000)(t:Nat)(a0 a1 a2 a3 a4 a5 x6 a8 a9):
  Z1 6 (Y3 [.own,.own,.cap 7,.acc] 3 (Y9<|Za 10) (W1 2<|Yj (Zj 0)<|Yj (Zj 1)<|W0) (Gen.O5) Gen.O6) [a0,a1,a2,a3,a4,a5,x6,aA<|.fz<|.int (t:Int),a8,a9,aA<|.ol<|ps.map Bc]=
   aA (.nx [a0,a1,a2,a3,a4,a5,aA<|.ol<|(Bw t ps).map Wf,aA<|.fz<|.int (t:Int),a8,a9,aA<|.fz<|.lst<|ps.map Bc]):=by
 have h:=Mf (src:=[.own,.own,.cap 7,.acc]) (k:=3) (g:=W1 2<|Yj (Zj 0)<|Yj (Zj 1)<|W0) (tt:=Gen.O5) (te:=Gen.O6) (st:=λzs=>[aB,aB,aA<|.fz<|.int (t:Int),aA<|.ol zs])
  (f:=frF t) (ps.map Bc) [] (λd hd zs m hz=>by
  obtain⟨p,_,rfl⟩:=av.mp hd;have j:3<=PySem.sizeLine:=Zz Γ
  conv=>lhs;rw[Z7]
  unfold Gen.O5 Gen.O6;rcases Vi p.2 with a|⟨l,a⟩
  .have c:frF t (Bc p)=aB:=by show frF t (.tup [.str p.1,Hm p.2])=_;rw[a];rfl
   rw[c];simp[-Z7,Bc,a]
  .have c:frF t (Bc p)=aA (.tup [.str p.1,.int (t:Int),.tup l]):=by show frF t (.tup [.str p.1,Hm p.2])=_;rw[a];rfl
   rw[c];simp[-Z7,Bc,a,j,hz]) Ψ
 rw[f8,UM]at h;generalize (Bw t ps).map Wf=NR,ps.map Bc=PR at*;simp[-Z7,h]
end My
set_option maxHeartbeats 800000
namespace My
open L2
abbrev lst(xs:À Str)(wks:À Wk)(m:Nat)(F:À Kj)(s:PQ)(fr:À Kj)(t:Nat)(h f c a:Á SV):Y5:=
 [aA (.fz<|Qp xs wks),h,aA<|.fz<|.int (m:Int),aA<|.ol<|F.map Wf,aA<|.oK (Zr s.1.1)<|s.1.2.map D.str,aA<|.oN (Zr s.2.1)<|pD s.2.2,aA<|.ol<|fr.map Wf,aA<|.fz<|.int (t:Int),f,c,a]
abbrev lB:FS:=Q3 (Y9<|Za 6) (Zj 8) Gen.Go
abbrev lD:FS:=Z1 9<|Cq<|Y3 [.own,.acc] 1 (Y9<|Za 3) (Zj 0) (Y1) Gen.Jg
abbrev lE:FS:=Z1 10<|Cq<|Y3 [.own,.cap 4,.cap 5,.cap 2,.cap 9,.acc] 5 (Y9<|Yh B7<|Zd (Za 0) Zh) (Zj 0) (Gen.Jh) Gen.Ji
abbrev lF:FS:=Z1 6<|Y3 [.own,.own,.cap 7,.acc] 3 (Y9<|Za 10) (W1 2<|Yj (Zj 0)<|Yj (Zj 1)<|W0) (Gen.O5) Gen.O6
theorem q_:Gen.Jl=Zo (Sz 3<|Za 6) (Zo lB<|Zo (ZX 7 1)<|Zo lD<|Zo lE lF):=rfl
theorem yY(xs wks)(p:xs.length<64)(x:∀w∈wks,w.nt.Ok)(m)(y:m<=100)(F fr s t)(A:Bd F.length s)(z:F.length+fr.length<=40)(u:∀r∈fr,∃w,lk xs wks r.1=aA w)(a1 x8 x9 x10):
  ∃g G i,Bd (F++fr).length ((fr.map (·.1)).foldl (Pj xs wks) s)/\Gen.Jl (lst xs wks m F s fr t a1 x8 x9 x10)=
   aA (.nx (lst xs wks m (F++fr) ((fr.map (·.1)).foldl (Pj xs wks) s) (Bw (t+1) (Mp ((fr.map (·.1)).foldl (Pj xs wks) s) m ((F++fr).map (·.1)) xs)) (t+1) a1 g G i)):=by
 obtain⟨g,j,B⟩:=Vh xs wks x a1 (aA<|.fz<|.int (m:Int)) (aA<|.ol<|(F++fr).map Wf) (aA<|.fz<|.lst<|fr.map Wf) (aA<|.fz<|.int (t:Int)) x9 x10 fr s F.length x8 z A u;generalize q:(fr.map (·.1)).foldl (Pj xs wks) s=s' at*;rw[<-ax]at j;refine⟨g,aA (.ol (((F++fr).map (·.1)).map D.str)),aA (.fz (.lst ((Mp s' m ((F++fr).map (·.1)) xs).map Bc))),j,?_⟩;rw[q_];have n:F.length+fr.length<=PySem.sizeLine:=Zz Θ;have l1:(F.map Wf).length=F.length:=aj ..;have l2:(fr.map Wf).length=fr.length:=aj ..;have f:Sz 3 (Za 6) (lst xs wks m F s fr t a1 x8 x9 x10)=aA (.nx [aA (.fz<|Qp xs wks),a1,aA<|.fz<|.int (m:Int),aA<|.ol<|(F++fr).map Wf,aA<|.oK (Zr s.1.1)<|s.1.2.map D.str,aA<|.oN (Zr s.2.1)<|pD s.2.2,aA<|.fz<|.lst<|fr.map Wf,aA<|.fz<|.int (t:Int),x8,x9,x10]):=by rw[cb];unfold lst;generalize F.map Wf=FD,fr.map Wf=GD,Qp xs wks=C at*;simp[l1,l2,n]
 rw[Jd f];have c:lB [aA (.fz<|Qp xs wks),a1,aA<|.fz<|.int (m:Int),aA<|.ol<|(F++fr).map Wf,aA<|.oK (Zr s.1.1)<|s.1.2.map D.str,aA<|.oN (Zr s.2.1)<|pD s.2.2,aA<|.fz<|.lst<|fr.map Wf,aA<|.fz<|.int (t:Int),x8,x9,x10]=aA (.nx [aA (.fz<|Qp xs wks),a1,aA<|.fz<|.int (m:Int),aA<|.ol<|(F++fr).map Wf,aA<|.oK (Zr s'.1.1)<|s'.1.2.map D.str,aA<|.oN (Zr s'.2.1)<|pD s'.2.2,aA<|.fz<|.lst<|fr.map Wf,aA<|.fz<|.int (t:Int),g,x9,x10]):=by unfold lB;generalize (F++fr).map Wf=FD,fr.map Wf=GD,Qp xs wks=C at*;simp[-Yq,B]
 rw[Jd c];have a:ZX 7 1 [aA (.fz<|Qp xs wks),a1,aA<|.fz<|.int (m:Int),aA<|.ol<|(F++fr).map Wf,aA<|.oK (Zr s'.1.1)<|s'.1.2.map D.str,aA<|.oN (Zr s'.2.1)<|pD s'.2.2,aA<|.fz<|.lst<|fr.map Wf,aA<|.fz<|.int (t:Int),g,x9,x10]=aA (.nx [aA (.fz<|Qp xs wks),a1,aA<|.fz<|.int (m:Int),aA<|.ol<|(F++fr).map Wf,aA<|.oK (Zr s'.1.1)<|s'.1.2.map D.str,aA<|.oN (Zr s'.2.1)<|pD s'.2.2,aA<|.fz<|.lst<|fr.map Wf,aA<|.fz<|.int ((t+1:Nat):Int),g,x9,x10]):=by
  have H:((t+1:Nat):Int)=(t:Int)+1:=by rfl
  rfl
 rw[Jd a,Jd<|jo (F++fr) (by rw[ax];(clear l1 l2;lia)) _ _ _ _ _ _ _ _ _ _];have v:∀l∈s'.2.2,l.length<=900:=λl h=>by have:=j.qq l h;rw[ax]at this;(clear l2 l1;lia)
 rw[Jd (Hn xs wks p s' m y v ((F++fr).map (·.1)) _ _ _ _ _ _)];have o:(Mp s' m ((F++fr).map (·.1)) xs).length<=1000:=by unfold Mp;rw[aj];have:=List.length_filter_le (λk=>decide (k∉(F++fr).map (·.1)))<|G6 xs;have E:(G6 xs).length=xs.length:=(Oq xs).length_eq;lia
 exact jn (Mp s' m ((F++fr).map (·.1)) xs) o (t+1) _ _ _ _ _ _ _ _ _
end My
set_option maxHeartbeats 800000
namespace My
open L2
abbrev nxt(xs:À Str)(wks:À Wk)(m:Nat)(F fr:À Kj)(s:PQ)(t:Nat):À Kj:=Bw (t+1) (Mp ((fr.map (·.1)).foldl (Pj xs wks) s) m ((F++fr).map (·.1)) xs)
inductive Run(xs:List Str)(wks:List Wk)(m:Nat):List Kj->PQ->List Kj->Nat->List Kj->PQ->Nat->Prop where
 |done (F:List Kj) (s:PQ) (t:Nat):Run xs wks m F s [] t F s t
 |step {F fr G:List Kj} {s s':PQ} {t t':Nat} (h:fr≠[]) (r:Run xs wks m (F++fr) ((fr.map (·.1)).foldl (Pj xs wks) s) (nxt xs wks m F fr s t) (t+1) G s' t'):Run xs wks m F s fr t G s' t'
theorem Eo:∀{xs:À Str} {vs:À α} {k:Str},xs.length=vs.length->k∈xs->∃v,lk xs vs k=aA v
 |x::xs,v::vs,k,hl,h=>by
  by_cases e:x=k
  .exact⟨v,dZ e⟩
  .obtain⟨u,a⟩:=Eo (xs:=xs) (vs:=vs) (k:=k) ω (by rcases az.mp h with z|z;exact dt z.symm e;exact z);exact⟨u,(dY e).trans a⟩
 |x::xs,[],k,hl,h=>by simp at hl
theorem Nm(t):∀ps,((Bw t ps).map (·.1)).Sublist (ps.map (·.1))
  | []=>DR _
  | (k,aB)::ps=>(Nm t ps).cons k
  | (k,aA y)::ps=>(Nm t ps).cons₂ k
theorem li(s m known xs):(Mp s m known xs).map (·.1)=(G6 xs).filter λk=>decide (k∉known):=by unfold Mp;rw[f7];exact AJ _
theorem vH(f:xs.Nodup):((nxt xs wks m F fr s t).map (·.1)).Nodup/\∀r∈nxt xs wks m F fr s t,r.1∈xs/\r.1∉(F++fr).map (·.1):=by have a:=Nm (t+1) (Mp ((fr.map (·.1)).foldl (Pj xs wks) s) m ((F++fr).map (·.1)) xs);rw[li]at a;have c:(G6 xs).Nodup:=(Oq xs).nodup_iff.mpr f;refine⟨wa a<|wa BW c,λr h=>?_⟩;have:=a.subset<|av.mpr ⟨r,h,rfl⟩;obtain⟨h1,h2⟩:=ri.mp this;exact⟨(Oq xs).mem_iff.mp h1,da h2⟩
theorem NC(xs wks)(p:xs.length<=40)(u:xs.Nodup)(h:xs.length=wks.length)(v:∀w∈wks,w.nt.Ok)(m)(A:m<=100)(a1):∀c F fr s t g M J i,xs.length- F.length<c->c<=g->Bd F.length s->((F++fr).map (·.1)).Nodup->(∀r∈F++fr,r.1∈xs)->
  ∃G s' t' O N I,Run xs wks m F s fr t G s' t'/\(G.map (·.1)).Nodup/\(∀r∈G,r.1∈xs)/\Qj Gen.Ud Gen.Jl g (lst xs wks m F s fr t a1 M J i)=aA (.nx<|lst xs wks m G s' [] t' a1 O N I)
 |0,F,fr,s,t,g,M,J,i,hc,_,_,_,_=>π
 |c+1,F,fr,s,t,0,M,J,i,hc,hf,_,_,_=>π
 |c+1,F,fr,s,t,g+1,M,J,i,hc,hf,hb,hn,hi=>by
  have sub:((F++fr).map (·.1)).length<=xs.length:=List.Nodup.length_le_of_subset hn λk T=>by obtain⟨r,a,rfl⟩:=av.mp T;exact hi r a
  rw[aj,ax]at sub;have W:fr.length<=PySem.sizeLine:=Zz (by clear h;lia);have o:(fr.map Wf).length=fr.length:=aj ..;cases f:fr with
  |nil=>subst f;refine⟨F,s,t,M,J,i,.done F s t,by rw[iq]at hn;exact hn,λr a=>hi r<|dr _ a,Lz ?_⟩;unfold Gen.Ud;generalize Qp xs wks=U;simp
  |cons Y Z=>
   have l:fr≠[]:=by rw[f];exact EO _ _
   have j:0<fr.length:=BU.mpr l;rw[<-f];refine L2.Wv λ_ B=>?_;obtain⟨O,N,I,R,e⟩:=yY xs wks (by clear h;lia) v m A F fr s t hb (by clear o h;lia) (λr a=>Eo h<|hi r<|di _ a) a1 M J i;obtain⟨k1,k2⟩:=vH (xs:=xs) (wks:=wks) (m:=m) (F:=F) (fr:=fr) (s:=s) (t:=t) u;obtain⟨G,s',t',E,C,n,P,L,K,H⟩:=NC xs wks p u h v m A a1 c (F++fr) (nxt xs wks m F fr s t) ((fr.map (·.1)).foldl (Pj xs wks) s) (t+1) g O N I (by rw[ax];(clear o h;omega)) Θ R (by
     rw[cb];exact iw.mpr ⟨hn,k1,λx p y Q z=>by
      obtain⟨r,a,rfl⟩:=av.mp Q;exact(k2 r a).2 (z▸p)⟩) (λr a=>by
     rcases dm.mp a with z|z
     .exact hi r z
     .exact(k2 r z).1)
   apply B;refine⟨G,s',t',E,C,n,.step l P,L,K,(S4 ?_ e).trans H⟩;unfold Gen.Ud lst;generalize Qp xs wks=U;generalize X:fr.map Wf=FD at*;have q:0<FD.length:=by rw[o];exact j
   simp[q]
end My
set_option maxHeartbeats 800000
namespace My
open L2
noncomputable def Q8(xs:À Str)(k:Str):À Str:=if k∈xs then xs else xs++[k]
noncomputable abbrev Dj(xs:List Str):List D:=xs.map λ_=>D.bl aC
theorem qe(k xs):Y2 (Zr xs) (Dj xs) (Sum.inr k) (.bl aC)=(Zr<|Q8 xs k,Dj<|Q8 xs k):=by
 rw[Cs];unfold Q8;by_cases h:k∈xs
 .rw[dZ h];unfold Y2;rw[dZ h];congr 1;have:∀ys:À Str,((ys.zip<|Dj ys).map λp=>if p.1=k then D.bl aC else p.2)=Dj ys:=by
   intro ys;induction ys with
   |nil=>rfl
   |cons y ys a=>show(if y=k then D.bl aC else D.bl aC)::((ys.zip<|Dj ys).map λp=>if p.1=k then D.bl aC else p.2)=D.bl aC::Dj ys;rw[a,ite_self]
  exact this xs
 .rw[dY h,JC h];show(Zr<|xs++[k],Dj xs++[.bl aC])=(Zr<|xs++[k],Dj<|xs++[k])
  unfold Dj;rw[cb];rfl
theorem KW(xs k):(Q8 xs k).length<=xs.length+1:=by unfold Q8;split;lia;simp
theorem Vj(a0):∀(ks xs:À Str) x2,xs.length+ks.length<=1000->
  ∃g,Yq (Zj 2) Gen.Up (ks.map D.str) [a0,aA<|.oK (Zr xs)<|Dj xs,x2]=aA (.nx [a0,aA<|.oK (Zr<|ks.foldl Q8 xs)<|Dj<|ks.foldl Q8 xs,g])
 | [],xs,x2,_=>⟨x2,Δ⟩
 |k::ks,xs,x2,hl=>by
  rw[ca]at hl;have c:=KW xs k;obtain⟨g,e⟩:=Vj a0 ks (Q8 xs k) (aA<|.fz<|.str k) Θ;refine⟨g,?_⟩;have pt:=qe k xs;have z:(Dj xs).length<PySem.sizeLine:=Ya Ω;have a:Gen.Up [a0,aA<|.oK (Zr xs)<|Dj xs,aA<|.fz<|.str k]=aA (.nx [a0,aA<|.oK (Zr<|Q8 xs k)<|Dj<|Q8 xs k,aA<|.fz<|.str k]):=by generalize Dj (Q8 xs k)=h at*;generalize Zr (Q8 xs k)=X2,Dj xs=T1,Zr xs=f at*;unfold Gen.Up;simp[-Y2,pt,z]
  exact(Yl Δ a).trans e
theorem Nn:∀(ks xs:À Str),(ks.foldl Q8 xs).length<=xs.length+ks.length
 | [],xs=>cj _
 |k::ks,xs=>by have h1:=Nn ks<|Q8 xs k;have h2:=KW xs k;rw[EW,ca];lia
theorem lf(xs):(Zr xs).map YM=xs.map D.str:=by unfold Zr;rw[f7];rfl
theorem qb(ks:À Str)(h:ks.length<=1000):Gen.U4 [.lst (ks.map D.str)]=aA (.ol<|(ks.foldl Q8 []).map D.str):=by obtain⟨j,e⟩:=Vj (aA<|.fz<|.lst<|ks.map D.str) ks [] aB η;have f:Zr ([]:À Str)=[]:=rfl;have a:Dj ([]:À Str)=[]:=rfl;rw[f,a]at e;have c:=lf<|ks.foldl Q8 [];have g:=Nn ks [];generalize Dj (ks.foldl Q8 [])=T2,Zr (ks.foldl Q8 [])=X2,(ks.foldl Q8 []).map D.str=R,ks.map D.str=KD at*;unfold Gen.U4 Gen.R6;simp[-Yq,e,c]
end My
set_option maxHeartbeats 800000
namespace My
open L2
def Jm(xs ks:À Str):À Kj:=((ks.foldl Q8 []).filter λk=>decide (k∈xs)).map λk=>(k,0,Why.text)
theorem NB:∀{xs:À Str} {vs:À α} {k:Str},xs.length=vs.length->((lk xs vs k).isSome=aC↔k∈xs)
 | [],[],k,_=>by simp[lk]
 |x::xs,v::vs,k,hl=>by
  have a:=NB (xs:=xs) (vs:=vs) (k:=k) ω;show(if x=k then aA v else lk xs vs k).isSome=aC↔_;by_cases e:x=k
  .rw[dZ e];simp[e]
  .rw[dY e,a];constructor
   .exact λz=>ag _ z
   .intro z;rcases az.mp z with y|y
    .exact dt y.symm e
    .exact y
 | [],_::_,k,hl=>by simp at hl
 |_::_,[],k,hl=>by simp at hl
def fiF(xs:List Str):D->Option D
 | .str k=>if k∈xs then aA (Wf (k,0,.text))else aB
 |_=>aB
theorem NA(xs):∀us:À Str,(us.map D.str).filterMap (fiF xs)=((us.filter λk=>decide (k∈xs)).map λk=>((k,0,Why.text):Kj)).map Wf
 | []=>rfl
 |u::us=>by
  have c:=NA xs us;by_cases h:u∈xs
  .have a:fiF xs (.str u)=aA (Wf (u,0,.text)):=dZ h;rw[cg,ji a,c,zm ρ];rfl
  .have a:fiF xs (.str u)=aB:=dY h;rw[cg,jm a,c,zn ρ]
theorem Np:∀(ks xs:À Str),xs.Nodup->(ks.foldl Q8 xs).Nodup
 | [],xs,h=>h
 |k::ks,xs,h=>Np ks (Q8 xs k) (by
  unfold Q8;split
  .exact h
  .rename_i c;exact iw.mpr ⟨h,Δ,λa j b f z=>by rw[ao.mp f]at z;exact c<|z▸j⟩)
theorem la(xs wks)(P:xs.length<=40)(K:xs.Nodup)(h:xs.length=wks.length)(Q:∀w∈wks,w.nt.Ok)(m)(X:m<=100)(ks)(a:ks.length<=100):
  L2.E3 λG s' t'=>L2.A4 (Run xs wks m [] (([],[]),([],[])) (Jm xs ks) 0 G s' t') ((G.map (·.1)).Nodup) ((∀r∈G,r.1∈xs))<|Gen.Cv [Qp xs wks,.lst<|ks.map D.str,.int (m:Int)]=aA (.ol<|G.map Wf):=by
 have H:=qb ks Θ;have i:=Nn ks [];have n:=Np ks [] gd;have j:=Mf (src:=[.own,.cap 0,.acc]) (k:=2) (g:=Zj 0) (tt:=Gen.Gm) (te:=Gen.Gn) (st:=λzs=>[aB,aA<|.fz<|Qp xs wks,aA<|.ol zs]) (f:=fiF xs) ((ks.foldl Q8 []).map D.str) [] (λd hd zs M hz=>by
  obtain⟨k,_,rfl⟩:=av.mp hd;have l:=Gy Wk.d k xs wks;have L:=NB (xs:=xs) (vs:=wks) (k:=k) h;have y:1<=PySem.sizeLine:=Zz Γ;have x:3<=PySem.sizeLine:=Zz Γ
  conv=>lhs;rw[Z7]
  unfold Gen.Gm Gen.Gn;by_cases a:k∈xs
  .obtain⟨w,o⟩:=Eo h a;rw[o]at l;have p:fiF xs (.str k)=aA (.tup [.str k,.int 0,.tup [.str "text"]]):=dZ a;rw[p];unfold Qp;generalize w.d=R,Zr xs=XK,wks.map Wk.d=O at*;simp[-Z7,-Z5,D.seq?,l,y,x,hz]
  .have hn:lk xs wks k=aB:=by
    cases e:lk xs wks k with
    |none=>rfl
    |some v=>exact dt (L.mp (by rw[e];rfl)) a
   rw[hn]at l;have l:Z5 (Zr xs) (wks.map Wk.d) (Sum.inr k)=aB:=l;have p:fiF xs (.str k)=aB:=dY a;rw[p];unfold Qp;generalize Zr xs=XK,wks.map Wk.d=O at*;simp[-Z7,-Z5,D.seq?,l]) (by simp at i⊢;lia)
 rw[f8,NA]at j;have N:Bd ([]:À Kj).length (([],[]),([],[])):=⟨rfl,gr _,rfl,gr _,λ_ z=>nomatch z⟩
 have s:(Jm xs ks).map (·.1)=(ks.foldl Q8 []).filter λk=>decide (k∈xs):=by unfold Jm;rw[f7];exact AJ _
 refine L2.Wv λ_ u=>?_;obtain⟨G,s',t',W,U,A,F,E,C,c⟩:=NC xs wks P K h Q m X (aA<|.fz<|.lst<|ks.map D.str) 41 [] (Jm xs ks) (([],[]),([],[])) 0 1000 aB aB aB (by clear h;omega) Θ N (by
   rw[f8,s];exact wa BW n) (λr q=>by
   rw[f8]at q;have:r.1∈(Jm xs ks).map (·.1):=av.mpr ⟨r,q,rfl⟩;rw[s]at this;exact da (ri.mp this).2)
 apply u;refine⟨G,s',t',F,E,C,?_⟩;have c:Qj Gen.Ud Gen.Jl 1000 [aA (.fz<|Qp xs wks),aA<|.fz<|.lst<|ks.map D.str,aA<|.fz<|.int (m:Int),aA<|.ol [],aA<|.oK [] [],aA<|.oN [] [],aA<|.ol<|(Jm xs ks).map Wf,aA<|.fz<|.int 0,aB,aB,aB]=_:=c;have j:Z7 [.own,.cap 0,.acc] 2 (Zj 0) Gen.Gm Gen.Gn ((ks.foldl Q8 []).map D.str) [aB,aA<|.fz<|Qp xs wks,aA<|.ol []]=aA [aB,aA<|.fz<|Qp xs wks,aA<|.ol<|(Jm xs ks).map Wf]:=j;have J:Gen.L0=1000:=rfl;unfold lst at c;generalize (Jm xs ks).map Wf=FR at*;generalize (ks.foldl Q8 []).map D.str=Y at*;generalize ks.map D.str=KD at*;generalize G.map Wf=GD at*;generalize Qp xs wks=SD at*;generalize I:Gen.Jl=B at*;generalize Z:Gen.Ud=T at*;unfold Gen.Cv Gen.Ni;rw[I,Z];generalize Qj T B=R at*;simp[-Z7,H,j,J,c]
noncomputable abbrev TI:Str:="title"
noncomputable abbrev YR:Str:="year"
noncomputable abbrev HN:Str:="hands"
noncomputable abbrev IN:Str:="in"
noncomputable abbrev PG:Str:="pages"
noncomputable abbrev BK:Str:="book"
noncomputable abbrev KP:Str:="part"
noncomputable abbrev KD:Str:="kind"
structure Own(xs:À Str)(vs:À D):Prop where
 str:∀v∈vs,∃s:Str,v= .str s/\s.length<=100
noncomputable abbrev WK:=Str×List Str×List D
abbrev M6(w:WK):D:=.tup [.str w.1,.dK (Zr w.2.1) w.2.2]
structure Work(keys:À Str)(i:Nat)(w:WK):Prop where
 own:Own w.2.1 w.2.2
 inn:Z5 w.2.1 w.2.2 IN=aB\/∃j b,i<j/\keys[j]? =aA b/\Z5 w.2.1 w.2.2 IN=aA (.str b)
structure Shelf(keys:À Str)(ws:À WK):Prop where
 nd:keys.Nodup
 len:ws.length=keys.length
 most:keys.length<=20
 k8:∀k∈keys,k.length<=8
 wk:∀(i:Nat) (w:WK),ws[i]? =aA w->Work keys i w
abbrev Wn(keys:À Str)(ws:À WK):D:=.dK (Zr keys)<|ws.map M6
noncomputable abbrev Wm(p:Str×Str):D:=.tup [.str p.1,.str p.2]
noncomputable abbrev TB:=List<|Str×List (Str×Str)
abbrev tkS(T:TB):À L2.Key:=T.map λq=>.inr q.1
abbrev Yd(T:TB):D:=.dK (tkS T)<|T.map λq=>.lst<|q.2.map Wm
noncomputable def other(ps:À (Str×Str))(f:Str):Á Str:=(ps.find? λp=>decide (p.1=f)).map (·.2)
def YK(T:TB)(a:Str):Á (À (Str×Str)):=(T.find? λq=>decide (q.1=a)).map (·.2)
def Nq(T:TB)(a:Str):À (Str×Str):=(YK T a).getD []
theorem KU(kind):∀T,Z5 (tkS T) (T.map λq=>D.lst<|q.2.map Wm) (Sum.inr kind)=(YK T kind).map λps=>.lst (ps.map Wm)
 | []=>rfl
 |q::T=>by
  have a:=KU kind T;unfold YK at a⊢;rw[l7];show(if(Sum.inr q.1:L2.Key)=Sum.inr kind then _ else Z5 (tkS T) (T.map λq=>D.lst<|q.2.map Wm)<|Sum.inr kind)=_;by_cases h:q.1=kind
  .rw[dZ (by rw[h]),d_ h];rfl
  .rw[dY<|λz=>h<|Sum.inr.inj z,d0 h];exact a
def wkO(k:Str):List Str->List WK->Option WK
 |x::xs,w::ws=>if x=k then aA w else wkO k xs ws
 |_,_=>aB
theorem Kk(k):∀keys ws,Z5 (Zr keys) (ws.map M6) (Sum.inr k)=(wkO k keys ws).map M6
 | [],_=>rfl
 |_::_,[]=>rfl
 |x::xs,w::ws=>by
  have a:=Kk k xs ws;show(if(Sum.inr x:L2.Key)=Sum.inr k then _ else Z5 (Zr xs) (ws.map M6)<|Sum.inr k)=_;unfold wkO;by_cases h:x=k
  .rw[dZ (by rw[h]),dZ h];rfl
  .rw[dY<|λz=>h<|Sum.inr.inj z,dY h];exact a
theorem PK:∀{keys:À Str} {ws:À WK} {i:Nat},keys.Nodup->ws.length=keys.length->keys[i]? =aA k->∃w,ws[i]? =aA w/\wkO k keys ws=aA w
 | [],_,_,_,_,h=>by simp at h
 |_::_,[],_,_,e,_=>by simp at e
 |x::xs,w::ws,0,nd,e,h=>by
  have h:x=k:=by simpa using h
  unfold wkO;rw[dZ h];exact⟨w,rfl,rfl⟩
 |x::xs,w::ws,i+1,nd,e,h=>by
  have h:xs[i]? =aA k:=by simpa using h
  have c:x≠k:=λz=>(fm.mp nd).1 (by rw[z];exact gh h);obtain⟨a,h1,h2⟩:=PK (fm.mp nd).2 θ h;unfold wkO;rw[dY c];exact⟨a,by simpa using h1,h2⟩
theorem Shelf.at(Sh:Shelf keys ws)(h:keys[i]? =aA k):∃w,wkO k keys ws=aA w/\Work keys i w:=by obtain⟨w,h1,h2⟩:=PK Sh.nd Sh.len h;exact⟨w,h2,Sh.wk i w h1⟩
def stp(T:TB)(f:Str)(w:WK):Option<|Str×Str:=
 if(Z5 w.2.1 w.2.2 f).isSome=aC then aB else(other (Nq T w.1) f).bind λo=>match Z5 w.2.1 w.2.2 IN with
  |some (.str b)=>aA (b,o)
  |_=>aB
def nx(keys:À Str)(ws:À WK)(T:TB)(p:Str×Str):Á (Str×Str):=(wkO p.1 keys ws).bind<|stp T p.2
def ptO:Option (Str×Str)->D
 |none=>.non
 |some p=>Wm p
noncomputable def oD:Option Str->D
 |none=>.non
 |some o=>.str o
theorem Nr(c a:Á SV)(f:Str):∀(ps:À (Str×Str)) (j:Á SV),
  match other ps f with
  |some o=>Yq (Zj 3) Gen.Wp (ps.map Wm) [c,a,aA<|.fz<|.str f,j]=aA (.rt<|.fz<|.str o)
  |none=>∃δ,Yq (Zj 3) Gen.Wp (ps.map Wm) [c,a,aA<|.fz<|.str f,j]=aA (.nx δ)
 | [],j=>⟨_,rfl⟩
 |p::ps,j=>by
  have run:(Zj 3).run (Wm p) [c,a,aA<|.fz<|.str f,j]=aA [c,a,aA<|.fz<|.str f,aA<|.fz<|Wm p]:=Δ
  rw[cg];unfold other;rw[l7];by_cases h:p.1=f
  .rw[d_ h];dsimp only;refine Kd run ?_;unfold Gen.Wp;simp[h]
  .rw[d0 h];have m:Gen.Wp [c,a,aA<|.fz<|.str f,aA<|.fz<|Wm p]=aA (.nx [c,a,aA<|.fz<|.str f,aA<|.fz<|Wm p]):=by unfold Gen.Wp;simp[h]
   have l:=Nr c a f ps<|aA<|.fz<|Wm p;unfold other at l;dsimp only;generalize xx (λx=>x.snd) (List.find? (λp=>decide (p.fst=f)) ps)=o at l⊢;cases o with
   |none=>obtain⟨δ,e⟩:=l;exact⟨δ,(Yl run m).trans e⟩
   |some q=>exact(Yl run m).trans l
theorem jk(T kind f):Gen.Um [Yd T,.str kind,.str f]=aA (.fz<|oD<|other (Nq T kind) f):=by
 have a:=KU kind T;have l:=Nr (aA<|.fz<|Yd T) (aA<|.fz<|.str kind) f (Nq T kind) aB;have c:0<=PySem.sizeLine:=gr _;unfold Nq at l⊢;unfold Yd at l⊢;unfold Gen.Um Gen.Cb;generalize tkS T=KS,(T.map λq=>D.lst<|q.2.map Wm)=m at*;cases h:YK T kind with
 |none=>rw[h]at a l;simp only[Option.map_none]at a;simp only[ul]at l⊢;have j:other [] f=aB:=rfl;rw[j]at l⊢;obtain⟨δ,e⟩:=l;simp[-Z5,a,oD,c]
 |some ps=>
  rw[h]at a l;simp only[Option.map_some]at a;simp only[EH]at l⊢;generalize other ps f=o at l⊢;generalize ps.map Wm=PS at*;cases o with
  |none=>obtain⟨δ,e⟩:=l;simp[-Yq,-Z5,a,e,oD,c]
  |some o=>simp[-Yq,-Z5,a,l,oD,c]
theorem iH(Sh:Shelf keys ws)(T){i:Nat}(y:keys[i]? =aA k):
  Gen.Uo [Wn keys ws,Yd T,.tup [.str k,.str f]]=aA (.fz<|ptO<|nx keys ws T (k,f)):=by
 obtain⟨w,s,W⟩:=Sh.at y;have a:=Kk k keys ws;rw[s]at a;have of:=jk T w.1 f;have z:nx keys ws T (k,f)=stp T f w:=by unfold nx;rw[show wkO (k,f).1 keys ws=aA w from s];rfl
 rw[z];have l:Z5 (Zr w.2.1) w.2.2 (Sum.inr f)=Z5 w.2.1 w.2.2 f:=W2 f _ _;have c:Z5 (Zr w.2.1) w.2.2 (Sum.inr IN)=Z5 w.2.1 w.2.2 IN:=W2 IN _ _;have h:aa "in"=IN:=rfl;have z2:2<=PySem.sizeLine:=Zz Γ;obtain⟨m,xs,vs⟩:=w;dsimp only at*;replace a:Z5 (Zr keys) (ws.map M6) (Sum.inr k)=aA (.tup [.str m,.dK (Zr xs) vs]):=a;have sy:∀(j:Nat) (b:Str),keys[j]? =aA b->∃p,Z5 (Zr keys) (ws.map M6) (Sum.inr b)=aA (M6 p):=λj b q=>by obtain⟨p,h1,_⟩:=Sh.at q;exact⟨p,by rw[Kk,h1];rfl⟩
 unfold stp;dsimp only;generalize Yd T=C at of⊢;generalize other (Nq T m) f=x at of⊢;unfold Wn;generalize Zr keys=KS at a sy⊢;generalize ws.map M6=B at a sy⊢;generalize Zr xs=A at a l c⊢;unfold Gen.Uo Gen.Cc;cases n:Z5 xs vs f with
 |some v=>rw[n]at l;simp[-Z5,a,l,ptO]
 |none=>
  rw[n]at l;cases x with
  |none=>
   simp only[oD]at of;rcases W.inn with e|⟨j,b,r,q,e⟩
   .rw[e]at c;simp[-Z5,a,l,of,h,c,ptO]
   .rw[e]at c;simp[-Z5,a,l,of,h,c,ptO]
  |some o=>
   simp only[oD]at of;rcases W.inn with e|⟨j,b,r,q,e⟩
   .rw[e]at c;rw[e];simp[-Z5,a,l,of,h,c,ptO]
   .rw[e]at c;rw[e];obtain⟨p,u⟩:=sy j b q;simp[-Z5,a,l,of,h,c,u,ptO,z2]
noncomputable abbrev PR:=Str×Str
def plc(done:À PR)(p:PR):Nat:=done.findIdx λx=>decide (x=p)
def run(f:PR->Option PR):Nat->List PR->PR->Option (List PR×Option PR)
 |0,_,_=>aB
 |n+1,done,p=>if p∈done then aA (done,aA p)else match f p with
  |none=>aA (done++[p],aB)
  |some q=>run f n (done++[p]) q
abbrev kf(p:PR):À L2.Key:=[.inr p.1,.inr p.2]
theorem O'(h:kf a=kf b):a=b:=by simp only[List.cons.injEq,and_true]at h;exact Prod.ext (Sum.inr.inj h.1)<|Sum.inr.inj h.2
noncomputable def Od:Nat->Nat->List D
 |_,0=>[]
 |s,n+1=>.int (s:Int)::Od (s+1) n
theorem Vk:∀n s,(Od s n).length=n
 |0,_=>rfl
 |n+1,s=>by show(Od (s+1) n).length+1=_;rw[Vk n]
theorem Nu:∀n s,Od s n++[.int ((s+n:Nat):Int)]=Od s (n+1)
 |0,s=>rfl
 |n+1,s=>by show D.int (s:Int)::(Od (s+1) n++[.int ((s+(n+1):Nat):Int)])=D.int (s:Int)::Od (s+1) (n+1);rw[<-Nu n (s+1),show s+(n+1)=s+1+n by lia]
theorem MR(p):∀done s,Z5 (done.map kf) (Od s done.length) (kf p)=if p∈done then aA (.int ((s+plc done p:Nat):Int))else aB
 | [],s=>Δ
 |a::done,s=>by
  have f:=MR p done<|s+1;show(if kf a=kf p then aA (D.int (s:Int))else Z5 (done.map kf) (Od (s+1) done.length)<|kf p)=_;unfold plc;rw[t9];by_cases h:a=p
  .subst h;simp
  .rw[dY<|λz=>h<|O' z,f,d0 h];have h':¬p=a:=λz=>h z.symm;by_cases c:p∈done
   .rw[dZ c,dZ<|ag _ c];simp only[cond_false];unfold plc;congr 3;lia
   .rw[dY c,dY<|by simp[h',c]]
theorem vG(h:p∉done)(vs v):Y2 (done.map kf) vs (kf p) v=((done++[p]).map kf,vs++[v]):=by
 have c:kf p∉done.map kf:=λz=>by obtain⟨a,f,e⟩:=av.mp z;exact h (by rw[<-O' e];exact f)
 unfold Y2;simp[c]
section
variable{keys:À Str}{ws:À WK}(Sh:Shelf keys ws){T:TB}
abbrev stW(keys:À Str)(ws:À WK)(T:TB)(f c:Á SV)(done:À PR)(a:D):Y5:=[aA (.fz<|Wn keys ws),aA<|.fz<|Yd T,f,c,aA<|.ol<|done.map Wm,aA<|.oT (done.map kf)<|Od 0 done.length,aA<|.fz a]
include Sh in
theorem qZ(u s:Á SV){i:Nat}{done:À PR}{p:PR}(v:keys[i]? =aA p.1)(r:p∉done)(z:done.length<=1000):
  Gen.Kg (stW keys ws T u s done<|Wm p)=aA (.nx<|stW keys ws T u s (done++[p])<|ptO<|nx keys ws T p):=by
 have a:=iH Sh T (f:=p.2) v;have lk:=MR p done 0;rw[dY r]at lk;have l:=vG r (Od 0 done.length)<|.int (done.length:Int);have n:=Nu done.length 0;rw[oi]at n;rw[n]at l;have m:(Od 0 done.length).length<PySem.sizeLine:=Ya (by rw[Vk];lia);have y:(done.map Wm).length<PySem.sizeLine:=Ya Ω;have c:(done.map Wm).length=done.length:=aj _;have h:done.length<PySem.sizeLine:=Ya (by clear c;lia);have x:(done++[p]).map Wm=done.map Wm++[Wm p]:=by rw[cb];rfl
 have w:Od 0 (done++[p]).length=Od 0 (done.length+1):=by rw[ax];rfl
 unfold stW;rw[x,w];obtain⟨k,f⟩:=p;have A:nx keys ws T (k,f)=nx keys ws T ((k,f).1,(k,f).2):=rfl;dsimp only at a lk l⊢;generalize nx keys ws T (k,f)=q at a⊢;generalize Wn keys ws=E at a⊢;generalize Yd T=C at a⊢;generalize done.map Wm=DM,done.map kf=DK,(done++[(k,f)]).map kf=DK2,Od 0 done.length=B at*;unfold Gen.Kg;cases q with
 |none=>simp only[ptO]at a;simp[-Z5,-Y2,lk,l,m,c,h,a,ptO]
 |some q=>obtain⟨j,o⟩:=q;simp only[ptO]at a;simp[-Z5,-Y2,lk,l,m,c,h,a,ptO]
theorem nS(a2 a3 done)(p:PR):Gen.Mg (stW keys ws T a2 a3 done<|Wm p)=aA (aC,stW keys ws T a2 a3 done<|Wm p):=by unfold Gen.Mg stW;simp
theorem nR(a2 a3 done):Gen.Mg (stW keys ws T a2 a3 done .non)=aA (aE,stW keys ws T a2 a3 done .non):=by unfold Gen.Mg stW;simp
theorem MQ{i:Nat}{p q:PR}(Sh:Shelf keys ws)(f:keys[i]? =aA p.1)(h:nx keys ws T p=aA q):∃j,i<j/\keys[j]? =aA q.1:=by
 unfold nx at h;refine L2.dN h λw c h=>?_;obtain⟨m,h1,W⟩:=Sh.at f;rw[c]at h1;cases h1;unfold stp at h;split at h
 .cases h
 .refine L2.dN h λo n h=>?_;rcases W.inn with e|⟨j,b,a,l,e⟩
  .rw[e]at h;cases h
  .rw[e]at h;cases h;exact⟨j,a,l⟩
include Sh in
theorem MP:∀(n i:Nat) (done:À PR) (p:PR),keys[i]? =aA p.1->(∀d∈done,∃a,a<i/\keys[a]? =aA d.1)->keys.length<n+i->L2.E2 λl q=>run (nx keys ws T) n done p=aA (l++[q],aB)/\∃j:Nat,keys[j]? =aA q.1
 |0,i,done,p,hp,_,h=>by have:=(ci.mp hp).1;omega
 |n+1,i,done,p,hp,hd,h=>by
  have r:p∉done:=λz=>by obtain⟨a,s,c⟩:=hd p z;have:=L2.T4 Sh.nd c hp;lia
  unfold run;rw[dY r];cases e:nx keys ws T p with
  |none=>exact⟨done,p,rfl,i,hp⟩
  |some q=>
   obtain⟨j,f,o⟩:=MQ Sh hp e;exact MP n j (done++[p]) q o (λd m=>by
    rcases dm.mp m with z|z
    .obtain⟨a,s,c⟩:=hd d z;exact⟨a,Θ,c⟩
    .rw[ao.mp z];exact⟨i,f,hp⟩) Θ
include Sh in
theorem Vl(f c:Á SV):∀(n a i:Nat) (done:À PR) (p:PR) (l:À PR),run (nx keys ws T) n done p=aA (l,aB)->keys[i]? =aA p.1->n+2<=a->done.length+n<=500->
  ∃δ,Qj Gen.Mg Gen.Kg a (stW keys ws T f c done<|Wm p)=aA (.nx δ)/\δ[4]? =aA (aA<|.ol<|l.map Wm)
 |0,_,_,_,_,_,h,_,_,_=>by cases h
 |n+1,0,_,_,_,_,_,_,h,_=>Θ
 |n+1,a+1,i,done,p,l,h,hp,hf,hl=>by
  unfold run at h;by_cases o:p∈done
  .rw[dZ o]at h;cases h
  .rw[dY o]at h;have hs:=qZ Sh (T:=T) f c hp o Θ;rw[S4 (nS f c done p) hs];cases e:nx keys ws T p with
   |none=>
    rw[e]at h;cases h;obtain⟨r,rfl⟩:∃m,a=m+1:=⟨a- 1,Θ⟩
    exact⟨_,Lz<|nR f c _,rfl⟩
   |some q=>rw[e]at h;obtain⟨j,_,s⟩:=MQ Sh hp e;exact Vl f c n a j (done++[p]) q l h s Θ ε
def tx(keys:À Str)(ws:À WK)(p:PR):Á D:=(wkO p.1 keys ws).bind λw=>Z5 w.2.1 w.2.2 p.2
def XQ(l:À PR):PR:=l.getLast?.getD ("","")
theorem lZ(l q):XQ (l++[q])=q:=by unfold XQ;simp
def hd(keys:À Str)(ws:À WK)(T:TB)(p:PR):Á D:=(run (nx keys ws T) 60 [] p).bind λr=>tx keys ws<|XQ r.1
include Sh in
theorem U'{i:Nat}{p:PR}(c:keys[i]? =aA p.1):L2.E2 λl q=>L2.A3 (run (nx keys ws T) 60 [] p=aA (l++[q],aB)) ((∃j:Nat,keys[j]? =aA q.1))<|hd keys ws T p=tx keys ws q:=by have:=Sh.most;obtain⟨l,q,h,a⟩:=MP Sh (T:=T) 60 i [] p c (λ_ h=>nomatch h) Θ;refine⟨l,q,h,a,?_⟩;unfold hd;rw[h];show tx keys ws (XQ<|l++[q])=_;rw[lZ]
include Sh in
theorem PJ{j:Nat}{q:PR}(f:keys[j]? =aA q.1):L2.E3 λg xs vs=>L2.A3 (Z5 (Zr keys) (ws.map M6) (Sum.inr q.1)=aA (.tup [.str g,.dK (Zr xs) vs])) (Own xs vs)<|tx keys ws q=Z5 xs vs q.2:=by obtain⟨w,c,W⟩:=Sh.at f;have a:=Kk q.1 keys ws;rw[c]at a;refine⟨w.1,w.2.1,w.2.2,a,W.own,?_⟩;unfold tx;rw[c];rfl
include Sh in
theorem vF{i:Nat}{p:PR}(n:keys[i]? =aA p.1){d:D}(h:hd keys ws T p=aA d):∃s:Str,d= .str s/\s.length<=100:=by obtain⟨l,q,_,⟨j,m⟩,e⟩:=U' Sh (T:=T) n;obtain⟨a,xs,vs,_,c,f⟩:=PJ Sh m;rw[e,f]at h;exact c.str d<|JB h
include Sh in
theorem vE{i:Nat}{p:PR}(a:keys[i]? =aA p.1){l:À PR}(h:run (nx keys ws T) 60 [] p=aA (l,aB)):Gen.X_ [Wn keys ws,Yd T,.str p.1,.str p.2]=aA (.ol<|l.map Wm):=by obtain⟨δ,e,c⟩:=Vl Sh (T:=T) (aA<|.fz<|.str p.1) (aA<|.fz<|.str p.2) 60 1000 i [] p l h a Γ Γ;have z2:2<=PySem.sizeLine:=Zz Γ;unfold stW at e;rw[show([]:À PR).map Wm=[]from rfl,show([]:À PR).map kf=[]from rfl,show Od 0 ([]:À PR).length=[]from rfl]at e;generalize Wn keys ws=j at e⊢;generalize Yd T=f at e⊢;unfold Gen.X_ Gen.VY;simp[z2,e,c]
include Sh in
theorem OS{i:Nat}{p:PR}(o:keys[i]? =aA p.1):Gen.L7 [Wn keys ws,Yd T,.str p.1,.str p.2]=aA (.fz<|(hd keys ws T p).getD .non):=by
 refine L2.Wv λ_ u=>?_;obtain⟨l,q,h,⟨j,y⟩,e⟩:=U' Sh (T:=T) o;have c:=vE Sh (T:=T) o h;obtain⟨a,xs,vs,n,w,x⟩:=PJ Sh y;apply u;rw[e,x];have r:L2.atI ((l++[q]).map Wm) (-1)=aA (Wm q):=by rw[cb];exact Ke _ _
 have f:Z5 (Zr xs) vs (Sum.inr q.2)=Z5 xs vs q.2:=W2 q.2 _ _;have B:L2.atI [D.str q.1,.str q.2] 0=aA (.str q.1):=rfl;have A:L2.atI [D.str q.1,.str q.2] 1=aA (.str q.2):=rfl;have z:L2.atI [D.str a,.dK (Zr xs) vs] 1=aA (.dK (Zr xs) vs):=rfl;unfold Wn at c⊢;generalize (l++[q]).map Wm=F at*;generalize Yd T=E at c⊢;generalize Zr keys=KS,ws.map M6=WS,Zr xs=C at*;unfold Gen.L7 Gen.VX;cases m:Z5 xs vs q.2 with
 |none=>rw[m]at f;simp[-Z5,c,r,n,f]
 |some v=>rw[m]at f;obtain⟨s,rfl,_⟩:=w.str v<|JB m;simp[-Z5,c,r,n,f]
end
abbrev T0:TB:=[(KP,[(TI,TI),(YR,YR),(BK,TI)])]
def tb(f:Str):Á Str:=if f=TI then aA TI else if f=YR then aA YR else if f=BK then aA TI else aB
theorem yX(kind f):other (Nq T0 kind) f=if kind=KP then tb f else aB:=by
 unfold Nq YK;by_cases h:kind=KP
 .subst h;rw[dZ rfl];unfold tb other;by_cases h1:f=TI
  .subst h1;simp
  .by_cases h2:f=YR
   .subst h2;simp[show¬TI=YR by decide+kernel,h1]
   .by_cases a:f=BK
    .subst a;simp[show¬TI=BK by decide+kernel,show¬YR=BK by decide+kernel,h1,h2]
    .simp[h1,h2,a,Ne.symm h1,Ne.symm h2,Ne.symm a]
 .rw[dY h];simp[Ne.symm h,other]
abbrev TTS:À Str:=["So it is","It","10"]
noncomputable abbrev YRS:List Str:=["2001","1999"]
noncomputable abbrev HDS:List Str:=["Lee, Ann","Lee, Al","Kim, Bo & Lee, Ann C & Ng"]
def vals(f:Str):À Str:=if f=TI\/f=BK then TTS else if f=YR then YRS else if f=HN then HDS else[]
abbrev F4:À Str:=[TI,YR,HN,BK,KD]
structure dX(ws:À Str)(i:Nat)(w:Wk):Prop where
 nt:w.nt.Ok
 inn:w.inn=aB\/∃(j:Nat) (b:Str),i<j/\ws[j]? =aA b/\w.inn=aA b
 tt:∀t,w.tt=aA t->t∈TTS
 yr:∀t,w.yr=aA t->t∈YRS
 hd:∀t,w.hd=aA t->t∈HDS
abbrev Ho(w:Wk):WK:=(w.kd,w.ks,w.vs)
structure Shf(ws:À Str)(wks:À Wk):Prop where
 nd:ws.Nodup
 len:wks.length=ws.length
 most:ws.length<=20
 key:∀k∈ws,Key k
 wk:∀(i:Nat) (w:Wk),wks[i]? =aA w->dX ws i w
theorem OR(ws wks):Qp ws wks=Wn ws (wks.map Ho):=by unfold Wn;rw[f7];rfl
theorem Hq:∀s∈TTS++YRS++HDS,s.length<=30:=Ξ
theorem Ep(h:∀t,o=aA t->t.length<=n):∀p∈Gx f o,p.2.length<=n:=λp a=>by
 cases o with
 |none=>exact nomatch a
 |some x=>rw[ao.mp a];exact h x rfl
theorem vD{a:Nt}(h:a.Ok):∀t,a.text=aA t->t.length<=100:=λt e=>by
 cases a with
 |no=>exact nomatch e
 |two k m=>
  have h1:=h.1.most;have h2:=h.2.most;cases e;have l:(aa "see <").length=5:=Ξ
  have j:(aa " 7>").length=3:=Ξ
  have f:(aa "; <").length=3:=Ξ
  have c:(aa ">").length=1:=Ξ
  rw[Z2,Z2,Z2,Z2,Z2,l,j,f,c];lia
theorem Shf.shelf(Sh:Shf ws wks):Shelf ws<|wks.map Ho:=by
 refine⟨Sh.nd,by rw[aj];exact Sh.len,Sh.most,λk h=>(Sh.key k h).most,λi o e=>?_⟩;rw[c8]at e;obtain⟨w,n,rfl⟩:=je.mp e;have W:=Sh.wk i w n;refine⟨⟨λv f=>?_⟩,?_⟩
 .obtain⟨p,a,rfl⟩:=av.mp f;refine⟨p.2,rfl,?_⟩;have c:∀t,w.inn=aA t->t.length<=100:=λt e=>by
   rcases W.inn with q|⟨j,b,_,m,q⟩
   .rw[q]at e;cases e
   .rw[q]at e;cases e;have:=(Sh.key t<|gh m).most;lia
  rcases az.mp a with z|a
  .rw[z];decide+kernel
  rcases dm.mp a with a|a
  .exact Ep (λt e=>fg (Hq t<|dr _<|dr _<|W.tt t e) Γ) p a
  rcases dm.mp a with a|a
  .exact Ep (λt e=>fg (Hq t<|dr _<|di _<|W.yr t e) Γ) p a
  rcases dm.mp a with a|a
  .exact Ep (λt e=>fg (Hq t<|di _<|W.hd t e) Γ) p a
  rcases dm.mp a with a|a
  .exact Ep c p a
  .exact Ep (vD W.nt) p a
 .have l:Z5 w.ks w.vs IN=w.inn.map D.str:=by rw[<-W2];exact MU w
  rcases W.inn with e|⟨j,b,h1,h2,e⟩
  .exact .inl (by rw[show Z5 (Ho w).2.1 (Ho w).2.2 IN=Z5 w.ks w.vs IN from rfl,l,e];rfl)
  .exact .inr ⟨j,b,h1,h2,by rw[show Z5 (Ho w).2.1 (Ho w).2.2 IN=Z5 w.ks w.vs IN from rfl,l,e];rfl⟩
theorem MO{P:PR->Prop}(a:∀p q,P p->f p=aA q->P q):∀n done p l q,P p->run f n done p=aA (l++[q],aB)->P q
 |0,_,_,_,_,_,h=>nomatch h
 |n+1,done,p,l,q,hp,h=>by
  unfold run at h;split at h
  .cases h
  .cases e:f p with
   |none=>rw[e]at h;injection h with h;injection h with h _;have:=(List.append_inj' h rfl).2;injection this with this;rw[<-this];exact hp
   |some r=>rw[e]at h;exact MO a n _ r l q (a p r hp e) h
theorem yW:∀f∈F4,∀o,tb f=aA o->o∈F4/\∀s∈vals o,s∈vals f:=λf hf o h=>by
 simp at hf;rcases hf with e|e|e|e|e<;> subst e
 .have:o=TI:=by have:tb TI=aA TI:=Ξ;rw[this]at h;exact(h8.inj h).symm
  subst this;exact⟨Δ,λ_ h=>h⟩
 .have:o=YR:=by have:tb YR=aA YR:=Ξ;rw[this]at h;exact(h8.inj h).symm
  subst this;exact⟨Δ,λ_ h=>h⟩
 .have:tb HN=aB:=Ξ
  rw[this]at h;cases h
 .have:o=TI:=by have:tb BK=aA TI:=Ξ;rw[this]at h;exact(h8.inj h).symm
  subst this;exact⟨Δ,Ξ⟩
 .have:tb KD=aB:=Ξ
  rw[this]at h;cases h
theorem MN{α:Type}(g k):∀ws (wks:À Wk) v,wkO k ws (wks.map g)=aA v->∃w∈wks,v=g w
 | [],_,_,h=>nomatch h
 |_::_,[],_,h=>nomatch h
 |x::xs,w::ws,v,h=>by
  have h:(if x=k then aA (g w)else wkO k xs<|ws.map g)=aA v:=h;split at h
  .cases h;exact⟨w,ac,rfl⟩
  .obtain⟨a,h1,h2⟩:=MN (α:=α) g k xs ws v h;exact⟨a,ag _ h1,h2⟩
theorem OQ(Sh:Shf ws wks){i:Nat}(x:ws[i]? =aA k)(hf:f∈F4)(h:hd ws (wks.map Ho) T0 (k,f)=aA d):∃s∈vals f,d= .str s:=by
 obtain⟨l,q,u,_,e⟩:=U' Sh.shelf (T:=T0) (p:=(k,f)) x;have P:=MO (P:=λp=>p.2∈F4/\∀s∈vals p.2,s∈vals f) (λp q ⟨h1,h2⟩ hn=>by
  refine L2.dN hn λw _ hn=>?_;unfold stp at hn;split at hn
  .cases hn
  .refine L2.dN hn λo c hn=>?_;rw[yX]at c;have A:q.2=o:=by
    split at hn
    .cases hn;rfl
    .cases hn
   split at c
   .rw[A];obtain⟨a,b⟩:=yW p.2 h1 o c;exact⟨a,λs hs=>h2 s<|b s hs⟩
   .cases c) 60 [] (k,f) l q ⟨hf,λ_ h=>h⟩ u
 rw[e]at h;refine L2.dN h λv r h=>?_;obtain⟨w,n,rfl⟩:=MN (α:=Unit) Ho q.1 ws wks v r;obtain⟨j,y⟩:=qk.mp n;have W:=Sh.wk j w y;rw[<-W2,Hl]at h;obtain⟨s,hs,rfl⟩:=je.mp h;refine⟨s,P.2 s ?_,rfl⟩;obtain⟨H,F,E,L,K,C,B⟩:=UN w;have m:=P.1;simp at m;rcases m with z|z|z|z|z<;> rw[z]at hs⊢
 .rw[show w.fd TI=w.tt from H]at hs;exact W.tt s hs
 .rw[show w.fd YR=w.yr from F]at hs;rw[show vals YR=YRS by decide+kernel];exact W.yr s hs
 .rw[show w.fd HN=w.hd from E]at hs;rw[show vals HN=HDS by decide+kernel];exact W.hd s hs
 .rw[show w.fd BK=aB from C]at hs;cases hs
 .rw[show w.fd KD=aB from B]at hs;cases hs
noncomputable abbrev SGS:Str:="signs"
noncomputable abbrev FLD:Str:="field"
noncomputable abbrev HDX:Str:="hands"
noncomputable abbrev GRP:Str:="group"
theorem eW:aa "signs"=SGS:=rfl
theorem eV:aa "field"=FLD:=rfl
theorem eU:aa "hands"=HDX:=rfl
abbrev Cg(s:Str):D:=.tup [.str SGS,.str s]
abbrev G7(ns:À Str):D:=.tup [.str FLD,.tup<|ns.map D.str]
abbrev Ip(a b:Int):D:=.tup [.str HDX,.str HN,.int a,.int b]
abbrev Pk(ds:À D):D:=.tup [.str GRP,.tup ds]
theorem z2:2<=PySem.sizeLine:=Zz Γ
theorem yV:aa "group"=GRP:=rfl
noncomputable abbrev OP:Str:="["
noncomputable abbrev CL:Str:="]"
theorem VE:aa "["=OP:=rfl
theorem RE:aa "]"=CL:=rfl
section
variable(A B:Á SV)
theorem vC(xss)(h:xss.length<=3):Gen.Yc [A,B,aA<|.oL aB xss,aA<|.fz<|.str OP]=aA (.nx [A,B,aA<|.oL aB<|xss++[[]],aA<|.fz<|.str OP]):=by
 have m:Xz 2 Gen.Uk [A,B,aA<|.oL aB xss,aA<|.fz<|.str OP]=aA (.nx [A,B,aA<|.oL aB<|xss++[[]],aA<|.fz<|.str OP]):=KI rfl λa=>by
  have g:¬(3:Int)<(xss.length:Int):=Θ
  have z:xss.length<PySem.sizeLine:=Ya Θ;have l1:=Lq (i:=0) (δ:=[aA (.oL (aA a) xss)]) (p:=aA a) (xss:=xss) rfl;have l2:=mB (i:=0) (δ:=[aA (.oL (aA a) xss)]) (p:=aA a) (xss:=xss) rfl z;have l2:Lo 0 [aA (.oL (aA a) xss)]=aA (.nx [aA (.oL (aA a)<|xss++[[]])]):=l2;unfold Gen.Uk Gen.B9;simp[l1,l2,g]
 unfold Gen.Yc;simp[VE,m]
theorem vB(yss ys xs)(c:xs≠[])(hz:xs.length<=1000)(l:ys.length<=1000)(o:yss.length<=1000):Gen.Yc [A,B,aA<|.oL aB<|yss++[ys]++[xs],aA<|.fz<|.str CL]=aA (.nx [A,B,aA<|.oL aB<|yss++[ys++[Pk xs]],aA<|.fz<|.str CL]):=by
 have m:Xz 2 Gen.Bp [A,B,aA<|.oL aB<|yss++[ys]++[xs],aA<|.fz<|.str CL]=aA (.nx [A,B,aA<|.oL aB<|yss++[ys++[Pk xs]],aA<|.fz<|.str CL]):=KI rfl λa=>by
  have l1:=Lq (i:=0) (δ:=[aA (.oL (aA a)<|yss++[ys]++[xs]),aB]) (p:=aA a) (xss:=yss++[ys]++[xs]) rfl;have l2:Lr 1 0 [aA (.oL (aA a)<|yss++[ys]++[xs]),aB]=aA (.nx [aA (.oL (aA a)<|yss++[ys]),aA<|.ol xs]):=n_ (i:=0) (j:=1) (δ:=[aA (.oL (aA a)<|yss++[ys]++[xs]),aB]) rfl Γ (by show 1<2;decide);have h:xs.length<=PySem.sizeLine:=Zz Θ;have f:Jp 0 (tupF<|Zl (Zb<|.str "group")<|Zl (Yh Rq<|Zd (Za 1) Zh)<|Zp) [aA (.oL (aA a)<|yss++[ys]),aA<|.ol xs]=aA (.nx [aA (.oL (aA a)<|yss++[ys++[Pk xs]]),aA<|.ol xs]):=
   Fb (i:=0) (δ:=[aA (.oL (aA a)<|yss++[ys]),aA<|.ol xs]) (δ1:=[aA (.oL (aA a)<|yss++[ys]),aA<|.ol xs]) (δ2:=[aA (.oL (aA a)<|yss++[ys]),aA<|.ol xs]) (rv:=.tmp<|.fz<|Pk xs) (d:=Pk xs) rfl Δ (by simp[z2,yV]) rfl rfl (Ya Θ)
  have g1:¬((yss++[ys]++[xs]).length:Int)=1:=by simp;lia
  have g2:¬(xs.length:Int)=0:=by have:=BU.mpr c;lia
  generalize yss++[ys]++[xs]=W at*;unfold Gen.Bp Gen.Rz;simp[l1,l2,f,g1,c]
 have n:¬CL=OP:=Ξ
 generalize yss++[ys]++[xs]=W at*;unfold Gen.Yc;simp[VE,RE,n,m]
theorem vA(c d yss xs)(f:¬c=OP)(a:¬c=CL)(h:Gen.Jq [.str c]=aA (.fz d))(hz:xs.length<=1000):Gen.Yc [A,B,aA<|.oL aB<|yss++[xs],aA<|.fz<|.str c]=aA (.nx [A,B,aA<|.oL aB<|yss++[xs++[d]],aA<|.fz<|.str c]):=by
 have l:Jp 2 (Z0 1 Gen.Jq<|Zd (Za 3)<|Zh) [A,B,aA<|.oL aB<|yss++[xs],aA<|.fz<|.str c]=aA (.nx [A,B,aA<|.oL aB<|yss++[xs++[d]],aA<|.fz<|.str c]):=
  Fb (i:=2) (δ:=[A,B,aA<|.oL aB<|yss++[xs],aA<|.fz<|.str c]) (δ1:=[A,B,aA<|.oL aB<|yss++[xs],aA<|.fz<|.str c]) (δ2:=[A,B,aA<|.oL aB<|yss++[xs],aA<|.fz<|.str c]) (rv:=.tmp<|.fz d) (d:=d) rfl Δ (by simp[h];split<;> rfl) rfl rfl (Ya Θ)
 generalize yss++[xs]=W at*;unfold Gen.Yc;simp[VE,RE,f,a,l]
end
theorem MM(c:Gen.Ig [.str s]=aA (.ol C))(tt:Zq (Zf P7 (Zf K6 (Yh Qk<|Zd (Za 1) Zh)<|Md "list" E9 (Za 1)<|Zd (Zb<|.str "]") Zh)<|Zb<|.int 30) [aA (.fz<|.str s),aA<|.ol C,aB,aB]=aA (aE,[aA (.fz<|.str s),aA<|.ol C,aB,aB]))(r:Yq (Zj 3) Gen.Yc C [aA (.fz<|.str s),aA<|.fz<|.lst C,aA<|.oL aB [[]],aB]=aA (.nx [aA (.fz<|.str s),aA<|.fz<|.lst C,aA<|.oL aB [ds],x'])):Gen.Yy [.str s]=aA (.fz<|.tup ds):=by
 have l1:=Lq (i:=2) (δ:=[aA (.fz<|.str s),aA<|.fz<|.lst C,aA<|.oL aB [ds],x']) (p:=aB) (xss:=[ds]) rfl;have l2:=iX (i:=2) (δ:=[aA (.fz<|.str s),aA<|.fz<|.lst C,aA<|.oL aB [ds],x']) (p:=aB) (xss:=[]) (xs:=ds) rfl;unfold Gen.Yy Gen.Oa;generalize Zq (Zf P7 (Zf K6 (Yh Qk<|Zd (Za 1) Zh)<|Md "list" E9 (Za 1)<|Zd (Zb<|.str "]") Zh)<|Zb<|.int 30)=a at*;simp[-Yq,c,r,l1,l2,tt]
theorem VT(h:xss.length<=3)(e:xss++[[]]=zss)(k:Yq (Zj 3) Gen.Yc C [A,B,aA<|.oL aB zss,aA<|.fz<|.str OP]=r):Yq (Zj 3) Gen.Yc (.str OP::C) [A,B,aA<|.oL aB xss,x]=r:=by subst e;exact(Yl (δ1:=[A,B,aA<|.oL aB xss,aA<|.fz<|.str OP]) Δ<|vC A B xss h).trans k
theorem VR(c:xs≠[])(hz:xs.length<=1000)(a:ys.length<=1000)(f:yss.length<=1000)(h:yss++[ys]++[xs]=xss)(e:yss++[ys++[Pk xs]]=zss)(k:Yq (Zj 3) Gen.Yc C [A,B,aA<|.oL aB zss,aA<|.fz<|.str CL]=r):Yq (Zj 3) Gen.Yc (.str CL::C) [A,B,aA<|.oL aB xss,x]=r:=by subst e;subst h;exact(Yl (δ1:=[A,B,aA<|.oL aB<|yss++[ys]++[xs],aA<|.fz<|.str CL]) Δ<|vB A B yss ys xs c hz a f).trans k
theorem G4(f:¬c=OP)(a:¬c=CL)(h:Gen.Jq [.str c]=aA (.fz d))(hz:xs.length<=1000)(j:yss++[xs]=xss)(e:yss++[xs++[d]]=zss)(k:Yq (Zj 3) Gen.Yc C [A,B,aA<|.oL aB zss,aA<|.fz<|.str c]=r):Yq (Zj 3) Gen.Yc (.str c::C) [A,B,aA<|.oL aB xss,x]=r:=by subst e;subst j;exact(Yl (δ1:=[A,B,aA<|.oL aB<|yss++[xs],aA<|.fz<|.str c]) Δ<|vA A B c d yss xs f a h hz).trans k
theorem rt7:Gen.Yy [.str "[{hands 9 2}, ][{year}, ]{title}"]=aA (.fz<|.tup [Pk [Ip 9 2,Cg ", "],Pk [G7 [YR],Cg ", "],G7 [TI]]):=
 MM (C:=[.str OP,.str "{hands 9 2}",.str ", ",.str CL,.str OP,.str "{year}",.str ", ",.str CL,.str "{title}"]) (x':=aA<|.fz<|.str "{title}") Φ Φ
  (VT (zss:=[[],[]]) Γ rfl (G4 (yss:=[[]]) (xs:=[]) (d:=Ip 9 2) Ξ Ξ Φ Γ rfl rfl (G4 (yss:=[[]]) (xs:=[Ip 9 2]) (d:=Cg ", ") Ξ Ξ Φ Δ rfl rfl (VR (yss:=[]) (ys:=[]) (xs:=[Ip 9 2,Cg ", "]) Δ Δ Δ Δ rfl rfl
  (VT (zss:=[[Pk [Ip 9 2,Cg ", "]],[]]) Δ rfl (G4 (yss:=[[Pk [Ip 9 2,Cg ", "]]]) (xs:=[]) (d:=G7 [YR]) Ξ Ξ Φ Γ rfl rfl (G4 (yss:=[[Pk [Ip 9 2,Cg ", "]]]) (xs:=[G7 [YR]]) (d:=Cg ", ") Ξ Ξ Φ Δ rfl rfl (VR (yss:=[]) (ys:=[Pk [Ip 9 2,Cg ", "]]) (xs:=[G7 [YR],Cg ", "]) Δ Δ Δ Δ rfl rfl
  (G4 (yss:=[]) (xs:=[Pk [Ip 9 2,Cg ", "],Pk [G7 [YR],Cg ", "]]) (d:=G7 [TI]) Ξ Ξ Φ Δ rfl rfl rfl)))))))))
theorem i_:Gen.Yy [.str "{hands 9 2}. {title}[, in {book}], {year}"]=aA (.fz<|.tup [Ip 9 2,Cg ". ",G7 [TI],Pk [Cg ", in ",G7 [BK]],Cg ", ",G7 [YR]]):=
 MM (C:=[.str "{hands 9 2}",.str ". ",.str "{title}",.str OP,.str ", in ",.str "{book}",.str CL,.str ", ",.str "{year}"]) (x':=aA<|.fz<|.str "{year}") Φ Φ
  (G4 (yss:=[]) (xs:=[]) (d:=Ip 9 2) Ξ Ξ Φ Δ rfl rfl (G4 (yss:=[]) (xs:=[Ip 9 2]) (d:=Cg ". ") Ξ Ξ Φ Δ rfl rfl (G4 (yss:=[]) (xs:=[Ip 9 2,Cg ". "]) (d:=G7 [TI]) Ξ Ξ Φ Δ rfl rfl
  (VT (zss:=[[Ip 9 2,Cg ". ",G7 [TI]],[]]) Δ rfl (G4 (yss:=[[Ip 9 2,Cg ". ",G7 [TI]]]) (xs:=[]) (d:=Cg ", in ") Ξ Ξ Φ Δ rfl rfl (G4 (yss:=[[Ip 9 2,Cg ". ",G7 [TI]]]) (xs:=[Cg ", in "]) (d:=G7 [BK]) Ξ Ξ Φ Δ rfl rfl (VR (yss:=[]) (ys:=[Ip 9 2,Cg ". ",G7 [TI]]) (xs:=[Cg ", in ",G7 [BK]]) Δ Δ Δ Δ rfl rfl
  (G4 (yss:=[]) (xs:=[Ip 9 2,Cg ". ",G7 [TI],Pk [Cg ", in ",G7 [BK]]]) (d:=Cg ", ") Ξ Ξ Φ Δ rfl rfl (G4 (yss:=[]) (xs:=[Ip 9 2,Cg ". ",G7 [TI],Pk [Cg ", in ",G7 [BK]],Cg ", "]) (d:=G7 [YR]) Ξ Ξ Φ Δ rfl rfl rfl)))))))))
abbrev Mq:À (Str×À D×À Str):=[("{hands 1 0}",[Ip 1 0],[HN]),("{hands 1 0} {year}",[Ip 1 0,Cg " ",G7 [YR]],[HN,YR]),("{hands 2 1} {year}",[Ip 2 1,Cg " ",G7 [YR]],[HN,YR]),("{hands 9 2}, {year}",[Ip 9 2,Cg ", ",G7 [YR]],[HN,YR]),("{title}",[G7 [TI]],[TI]),
 ("{hands 9 2}: {title}",[Ip 9 2,Cg ": ",G7 [TI]],[HN,TI]),("{book|title}",[G7 [BK,TI]],[BK,TI]),("[{hands 9 2}, ][{year}, ]{title}",[Pk [Ip 9 2,Cg ", "],Pk [G7 [YR],Cg ", "],G7 [TI]],[HN,YR,TI]),("{kind|title}",[G7 [KD,TI]],[KD,TI]),("",[],[]),
 ("{hands 9 2}. {title}[, in {book}], {year}",[Ip 9 2,Cg ". ",G7 [TI],Pk [Cg ", in ",G7 [BK]],Cg ", ",G7 [YR]],[HN,TI,BK,YR])]
noncomputable abbrev dT(x:Str×List D×List Str):D:=.tup x.2.1
structure Tp(x:Str×À D×À Str):Prop where
 read:Gen.Yy [.str x.1]=aA (.fz<|dT x)
 ask:Gen.Ki [dT x]=aA (.ol<|x.2.2.map D.str)
 nam:∀f∈x.2.2,f∈F4
 nd:x.2.2.Nodup
 few:x.2.2.length<=5
 eq:Tz 46 (dT x) (dT x)=aA aC
theorem Iq:∀x∈Mq,Tp x:=by
 have mk:∀x:Str×À D×À Str,Gen.Yy [.str x.1]=aA (.fz<|dT x)->Gen.Ki [dT x]=aA (.ol<|x.2.2.map D.str)->x.2.2.all (λf=>decide (f∈F4))=aC->x.2.2.Nodup->x.2.2.length<=5->Tz 46 (dT x) (dT x)=aA aC->Tp x:=λx a b c d e f=>⟨a,b,(λf hf=>da<|gi.mp c f hf),d,e,f⟩
 intro x h;rcases az.mp h with rfl|h
 .exact mk _ Φ Φ Ξ Ξ Γ Φ
 rcases az.mp h with rfl|h
 .exact mk _ Φ Φ Ξ Ξ Γ Φ
 rcases az.mp h with rfl|h
 .exact mk _ Φ Φ Ξ Ξ Γ Φ
 rcases az.mp h with rfl|h
 .exact mk _ Φ Φ Ξ Ξ Γ Φ
 rcases az.mp h with rfl|h
 .exact mk _ Φ Φ Ξ Ξ Γ Φ
 rcases az.mp h with rfl|h
 .exact mk _ Φ Φ Ξ Ξ Γ Φ
 rcases az.mp h with rfl|h
 .exact mk _ Φ Φ Ξ Ξ Γ Φ
 rcases az.mp h with rfl|h
 .exact mk _ rt7 Φ Ξ Ξ Γ Φ
 rcases az.mp h with rfl|h
 .exact mk _ Φ Φ Ξ Ξ Γ Φ
 rcases az.mp h with rfl|h
 .exact mk _ Φ Φ Ξ Ξ Γ Φ
 rcases az.mp h with rfl|h
 .exact mk _ i_ Φ Ξ Ξ Γ Φ
 exact nomatch h
def cmb:List Str->List (List<|Str×Str)
 | []=>[[]]
 |f::fs=>cmb fs++(vals f).flatMap λs=>(cmb fs).map ((f,s):: ·)
abbrev aD(l:À (Str×Str)):D:=.dK (Zr (l.map (·.1)))<|l.map λp=>.str p.2
noncomputable def XN:Option SV->Bool
 |some (.fz<|.str s)=>decide (s.length<=200)&&s.cps.toList.all λc=>decide (c≠94)
 |_=>aE
abbrev fOk(x:Str×À D×À Str):Bool:=(cmb x.2.2).all λl=>XN<|Gen.Ij [dT x,aD l]
theorem uA:((Mq.take 3).all fOk)=aC:=Φ
theorem v_:(((Mq.drop 3).take 3).all fOk)=aC:=Φ
theorem vu:(((Mq.drop 6).take 1).all fOk)=aC:=Φ
theorem vr:(((Mq.drop 7).take 1).all fOk)=aC:=Φ
theorem vl:(((Mq.drop 8).take 2).all fOk)=aC:=Φ
abbrev cL:À (À (Str×Str)):=cmb [HN,TI,BK,YR]
abbrev fL(l:À (Str×Str)):Bool:=XN<|Gen.Ij [.tup [Ip 9 2,Cg ". ",G7 [TI],Pk [Cg ", in ",G7 [BK]],Cg ", ",G7 [YR]],aD l]
theorem vZ:(((cL.drop 0).take 32).all fL)=aC:=Φ
theorem vY:(((cL.drop 32).take 32).all fL)=aC:=Φ
theorem vX:(((cL.drop 64).take 32).all fL)=aC:=Φ
theorem vW:(((cL.drop 96).take 32).all fL)=aC:=Φ
theorem qA:(((cL.drop 128).take 32).all fL)=aC:=Φ
theorem r_:(((cL.drop 160).take 32).all fL)=aC:=Φ
theorem vV:cL.all fL=aC:=by
 have e:cL=(cL.drop 0).take 32++((cL.drop 32).take 32++((cL.drop 64).take 32++((cL.drop 96).take 32++((cL.drop 128).take 32++(cL.drop 160).take 32)))):=Φ
 rw[e];simp only[pq,vZ,vY,vX,vW,qA,r_,Bool.and_self]
theorem nQ:Mq.all fOk=aC:=by
 have e:Mq=Mq.take 3++((Mq.drop 3).take 3++((Mq.drop 6).take 1++((Mq.drop 7).take 1++((Mq.drop 8).take 2++Mq.drop 10)))):=rfl;have l:((Mq.drop 10).all fOk)=aC:=by show(cL.all fL&&aC)=aC;rw[vV];rfl
 rw[e,pq,pq,pq,pq,pq,uA,v_,vu,vr,vl,l];rfl
theorem rz(h:XN o=aC):∃s,L2.A3 (o=aA (.fz<|.str s)) (s.length<=200)<|94∉s.cps.toList:=by
 unfold XN at h;split at h
 .rename_i s;simp only[ig,decide_eq_true_eq,gi]at h;exact⟨s,rfl,h.1,λz=>h.2 94 z rfl⟩
 .cases h
noncomputable def O9(h:Str->Option D)(gs:List Str):List<|Str×Str:=gs.filterMap λf=>match h f with
 |some (.str s)=>aA (f,s)
 |_=>aB
theorem KR:∀{gs:À Str},(∀f∈gs,∀d,h f=aA d->∃s∈vals f,d= .str s)->O9 h gs∈cmb gs
 | [],_=>by simp[O9,cmb]
 |f::gs,hv=>by
  have a:=KR (h:=h) (gs:=gs) λg c=>hv g<|ag _ c;unfold cmb;cases e:h f with
  |none=>
   have:O9 h (f::gs)=O9 h gs:=by unfold O9;rw[jw,e]
   rw[this];exact dr _ a
  |some d=>
   obtain⟨s,hs,rfl⟩:=hv f ac d e;have:O9 h (f::gs)=(f,s)::O9 h gs:=by unfold O9;rw[jw,e]
   rw[this];exact di _<|uq.mpr ⟨s,hs,av.mpr ⟨_,a,rfl⟩⟩
section
variable{ws:À Str}{wks:À Wk}(Sh:Shf ws wks)
abbrev hK(ws:À Str)(wks:À Wk)(k:Str)(f:Str):Á D:=hd ws (wks.map Ho) T0 (k,f)
include Sh in
theorem i8{i:Nat}{k:Str}(a:ws[i]? =aA k)(f:Str):Gen.L7 [Qp ws wks,Yd T0,.str k,.str f]=aA (.fz<|(hK ws wks k f).getD .non):=by rw[OR];exact OS Sh.shelf (T:=T0) (p:=(k,f)) a
include Sh in
theorem Nv{i:Nat}{k:Str}(n:ws[i]? =aA k)(j:Á SV):∀(gs:À Str) (l:À (Str×Str)) (m c:Á SV),(∀f∈gs,f∈F4)->gs.Nodup->(∀p∈l,p.1∉gs)->l.length+gs.length<=900->
  ∃I G,Yq (Zj 5) Gen.U3 (gs.map D.str) [aA (.fz<|Qp ws wks),aA<|.fz<|Yd T0,aA<|.fz<|.str k,j,aA (.oK (Zr (l.map (·.1)))<|l.map λp=>.str p.2),m,c]=
   aA (.nx [aA (.fz<|Qp ws wks),aA<|.fz<|Yd T0,aA<|.fz<|.str k,j,aA (.oK (Zr ((l++O9 (hK ws wks k) gs).map (·.1)))<|(l++O9 (hK ws wks k) gs).map λp=>.str p.2),I,G])
 | [],l,m,c,_,_,_,_=>⟨m,c,by simp[O9]⟩
 |g::gs,l,m,c,h4,nd,hn,hl=>by
  rw[ca]at hl;obtain⟨w,r⟩:=fm.mp nd;have h:=i8 Sh n g;have u:(l.map λp=>D.str p.2).length<PySem.sizeLine:=Ya Ω;have run:(Zj 5).run (.str g) [aA (.fz<|Qp ws wks),aA<|.fz<|Yd T0,aA<|.fz<|.str k,j,aA (.oK (Zr (l.map (·.1)))<|l.map λp=>.str p.2),m,c]=aA [aA (.fz<|Qp ws wks),aA<|.fz<|Yd T0,aA<|.fz<|.str k,j,aA (.oK (Zr (l.map (·.1)))<|l.map λp=>.str p.2),aA<|.fz<|.str g,c]:=Δ
  rw[cg];cases e:hK ws wks k g with
  |none=>
   rw[e,ul]at h;have q:O9 (hK ws wks k) (g::gs)=O9 (hK ws wks k) gs:=by unfold O9;rw[jw,e]
   rw[q];obtain⟨I,G,o⟩:=Nv n j gs l (aA<|.fz<|.str g) (aA<|.fz .non) (λf hf=>h4 f<|ag _ hf) r (λp a z=>hn p a<|ag _ z) Θ;refine⟨I,G,(Yl run ?_).trans o⟩;generalize Qp ws wks=SD,Yd T0=y at*;unfold Gen.U3;simp[h]
  |some d=>
   obtain⟨s,hs,rfl⟩:=OQ Sh n (h4 g ac) e;rw[e,EH]at h;have q:O9 (hK ws wks k) (g::gs)=(g,s)::O9 (hK ws wks k) gs:=by unfold O9;rw[jw,e]
   rw[q];have x:g∉l.map (·.1):=λz=>by obtain⟨p,a,e⟩:=av.mp z;exact hn p a (by rw[e];exact ac)
   have v:Y2 (Zr (l.map (·.1))) (l.map λp=>D.str p.2) (Sum.inr g) (.str s)=(Zr ((l++[(g,s)]).map (·.1)),(l++[(g,s)]).map λp=>D.str p.2):=by rw[Cs];unfold Y2;rw[dY x];simp[Zr]
   obtain⟨I,G,o⟩:=Nv n j gs (l++[(g,s)]) (aA<|.fz<|.str g) (aA<|.fz<|.str s) (λf hf=>h4 f<|ag _ hf) r (λp a z=>by
    rcases dm.mp a with a|a
    .exact hn p a (ag _ z)
    .rw[ao.mp a]at z;exact w z) τ
   refine⟨I,G,(Yl run ?_).trans<|o.trans (by rw[f9];rfl)⟩;generalize Qp ws wks=SD,Yd T0=y,(l++[(g,s)]).map (·.1)=L1,(l++[(g,s)]).map (λp=>D.str p.2)=L2,l.map (·.1)=L3,(l.map λp=>D.str p.2)=A at*;unfold Gen.U3;simp[-Y2,h,u,v]
include Sh in
theorem wh{i:Nat}{k:Str}(c:ws[i]? =aA k)(gs:À Str)(j:∀f∈gs,f∈F4)(a:gs.Nodup)(n:gs.length<=5):Gen.Mi [Qp ws wks,Yd T0,.str k,.lst<|gs.map D.str]=aA (.oK (Zr ((O9 (hK ws wks k) gs).map (·.1)))<|(O9 (hK ws wks k) gs).map λp=>.str p.2):=by obtain⟨m,l,e⟩:=Nv Sh c (aA<|.fz<|.lst<|gs.map D.str) gs [] aB aB j a (λ_ h=>nomatch h) Ψ;rw[f8]at e;have e:Yq (Zj 5) Gen.U3 (gs.map D.str) [aA (.fz<|Qp ws wks),aA<|.fz<|Yd T0,aA<|.fz<|.str k,aA<|.fz<|.lst<|gs.map D.str,aA<|.oK [] [],aB,aB]=_:=e;generalize O9 (hK ws wks k) gs=B,Qp ws wks=SD,Yd T0=TD,gs.map D.str=o at*;unfold Gen.Mi Gen.Ik;simp[-Yq,e]
def T3(ws:List Str)(wks:List Wk)(k:Str)(x:Str×List D×List Str):Str:=match Gen.Ij [dT x,aD<|O9 (hK ws wks k) x.2.2]with
 |some (.fz<|.str s)=>s
 |_=>dy
include Sh in
theorem X1{i:Nat}{k:Str}(c:ws[i]? =aA k){x:Str×À D×À Str}(a:x∈Mq):Gen.Ij [dT x,aD<|O9 (hK ws wks k) x.2.2]=aA (.fz<|.str<|T3 ws wks k x)/\(T3 ws wks k x).length<=200/\94∉(T3 ws wks k x).cps.toList:=by
 have T:=Iq x a;have m:=KR (h:=hK ws wks k) (gs:=x.2.2) λf hf d e=>OQ Sh c (T.nam f hf) e;obtain⟨s,e,h1,h2⟩:=rz<|gi.mp (gi.mp nQ x a) _ m;have es:T3 ws wks k x=s:=by unfold T3;rw[e]
 rw[es];exact⟨e,h1,h2⟩
include Sh in
theorem Vm{i:Nat}{k:Str}(h:ws[i]? =aA k){x:Str×À D×À Str}(c:x∈Mq):Gen.R7 [Qp ws wks,Yd T0,.str k,dT x]=aA (.fz<|.str<|T3 ws wks k x):=by
 have T:=Iq x c;have j:=wh Sh h x.2.2 T.nam T.nd T.few;have f:=(X1 Sh h c).1;have a:=T.ask;have z:x.2.2.length<=PySem.sizeLine:=Zz<|fg T.few Γ;generalize O9 (hK ws wks k) x.2.2=B,T3 ws wks k x=FS,Qp ws wks=SD,Yd T0=m at*;have l:(x.2.2.map D.str).length<=PySem.sizeLine:=by rw[aj];exact z
 generalize x.2.2.map D.str=n at*;unfold dT aD at*;generalize x.2.1=PT,Zr (B.map (·.1))=BK,(B.map λp=>D.str p.2)=o at*;unfold Gen.R7 Gen.Nh;simp[j,f,a]
end
noncomputable abbrev PP:=Bool×Str
noncomputable abbrev bI(b:Bool):Int:=if b=aC then 1 else 0
abbrev Ra(p:PP):D:=.tup [.int (bI p.1),.str p.2]
abbrev KKy:=À PP×Str
abbrev kkD(x:KKy):D:=.tup [.lst (x.1.map Ra),.str x.2]
theorem PH(n)(p q:PP):∃c,Fu (n+2) (Ra p) (Ra q)=aA c:=by obtain⟨a,s⟩:=p;obtain⟨b,t⟩:=q;cases a<;> cases b<;> simp[bI]
theorem OO(n):∀xs ys:À PP,∃c,Am (Fu<|n+2) (xs.map Ra) (ys.map Ra)=aA c
 | [],[]=>⟨_,rfl⟩
 |p::xs,q::ys=>by obtain⟨c,h⟩:=OO n xs ys;obtain⟨b,h2⟩:=PH n p q;exact⟨b&&c,by rw[cg,cg];show(Fu (n+2) (Ra p)<|Ra q).bind (λb=>(Am (Fu<|n+2) (xs.map Ra)<|ys.map Ra).bind λc=>aA<|b&&c)=_;rw[h2,h];rfl⟩
 | [],_::_=>⟨_,rfl⟩
 |_::_,[]=>⟨_,rfl⟩
theorem fA(n)(p q:PP):∃c,L2.Sr (n+2) (Ra p) (Ra q)=aA c:=by obtain⟨a,s⟩:=p;obtain⟨b,t⟩:=q;refine Option.ne_none_iff_exists'.mp λe=>?_;revert e;cases a<;> cases b<;> simp[bI]<;> (by_cases h:s=t<;> simp[h])
theorem ON(n):∀xs ys:À PP,∃c,L2.ZO (Fu<|n+2) (L2.Sr<|n+2) (xs.map Ra) (ys.map Ra)=aA c
 | [],[]=>⟨_,rfl⟩
 |p::xs,q::ys=>by
  obtain⟨c,h⟩:=ON n xs ys;obtain⟨b,h2⟩:=PH n p q;obtain⟨d,a⟩:=fA n p q;show∃c,(Fu (n+2) (Ra p)<|Ra q).bind (λb=>if b=aC then L2.ZO (Fu<|n+2) (L2.Sr<|n+2) (xs.map Ra) (ys.map Ra)else L2.Sr (n+2) (Ra p)<|Ra q)=_;rw[h2,h,a];cases b
  .exact⟨d,rfl⟩
  .exact⟨c,rfl⟩
 | [],_::_=>⟨_,rfl⟩
 |_::_,[]=>⟨_,rfl⟩
theorem g_(a b:KKy):∃c,L2.Sr 16 (kkD a) (kkD b)=aA c:=by
 obtain⟨n,l⟩:∃c,Fu 15 (.lst (a.1.map Ra)) (.lst (b.1.map Ra))=aA c:=by
  show∃c,(if(a.1.map Ra).length=(b.1.map Ra).length then Am (Fu 14) (a.1.map Ra) (b.1.map Ra)else aA aE)=_;split
  .exact OO 12 _ _
  .exact⟨_,rfl⟩
 obtain⟨m,j⟩:∃c,L2.Sr 15 (.lst (a.1.map Ra)) (.lst (b.1.map Ra))=aA c:=ON 12 _ _;have h:Fu 15 (.str a.2) (.str b.2)=aA (decide (a.2=b.2)):=Δ
 have f:L2.Sr 15 (.str a.2) (.str b.2)=aA (decide (a.2.cps.toList<b.2.cps.toList)):=Δ
 show∃c,(Fu 15 (.lst<|a.1.map Ra)<|.lst<|b.1.map Ra).bind (λc=>if c=aC then(Fu 15 (.str a.2)<|.str b.2).bind (λc=>if c=aC then aA aE else L2.Sr 15 (.str a.2)<|.str b.2)else L2.Sr 15 (.lst<|a.1.map Ra)<|.lst<|b.1.map Ra)=_;rw[l,j,h,f];cases n
 .exact⟨m,rfl⟩
 .by_cases h2:a.2=b.2
  .exact⟨aE,by simp[h2]⟩
  .exact⟨_,by simp[h2];rfl⟩
def rkD:D->PP
 | .str s=>(aC,s)
 |_=>(aE,"")
section
variable{keys:À Str}{ws:À WK}(Sh:Shelf keys ws)
abbrev hd0(keys:À Str)(ws:À WK)(k f:Str):Á D:=hd keys ws T0 (k,f)
include Sh in
theorem wd{i:Nat}{k:Str}(a:keys[i]? =aA k):∀g d,hd0 keys ws k g=aA d->∃s:Str,d= .str s/\s.length<=100:=λg d h=>vF Sh (T:=T0) (p:=(k,g)) a h
def Cw(keys:À Str)(ws:À WK)(fs:À Str)(k:Str):KKy:=(fs.map λf=>rkD<|(hd0 keys ws k f).getD .non,k)
include Sh in
theorem OM{i:Nat}{k:Str}(a:keys[i]? =aA k)(f:Str):(hd0 keys ws k f).getD .non= .non\/∃s:Str,(hd0 keys ws k f).getD .non= .str s:=by
 cases e:hd0 keys ws k f with
 |none=>exact .inl rfl
 |some d=>obtain⟨s,rfl,_⟩:=wd Sh a f d e;exact .inr ⟨s,rfl⟩
include Sh in
theorem ML{i:Nat}{k:Str}(j:keys[i]? =aA k):∀(fs:À Str) (ys:À D),ys.length+fs.length<=1000->
  Z7 [.own,.cap 0,.cap 1,.cap 2,.acc] 4 (Zj 0) Y1 Gen.Ea (fs.map D.str) [aB,aA<|.fz<|Wn keys ws,aA<|.fz<|Yd T0,aA<|.fz<|.str k,aA<|.ol ys]=aA [aB,aA<|.fz<|Wn keys ws,aA<|.fz<|Yd T0,aA<|.fz<|.str k,aA<|.ol<|ys++fs.map λf=>(hd0 keys ws k f).getD .non]
 | [],ys,_=>Δ
 |f::fs,ys,hl=>by
  rw[ca]at hl;have h:Gen.L7 [Wn keys ws,Yd T0,.str k,.str f]=aA (.fz<|(hd0 keys ws k f).getD .non):=OS Sh (T:=T0) (p:=(k,f)) j;have c:=ML j fs (ys++[(hd0 keys ws k f).getD .non]) ε;have l:ys.length<PySem.sizeLine:=Ya Θ;have a:=OM Sh j f;rw[cg,cg];generalize (hd0 keys ws k f).getD .non=v,(fs.map λf=>(hd0 keys ws k f).getD .non)=R,Wn keys ws=SD,Yd T0=m at*;rcases a with a|⟨s,a⟩
  .subst a;simp[Gen.Ea,h,l]at c⊢;exact c
  .subst a;simp[Gen.Ea,h,l]at c⊢;exact c
theorem rq(ds)(hd:∀d∈ds,d= .non\/∃s,d= .str s)(j:ds.length<=1000):Z7 [.own,.acc] 1 (Zj 0) Y1 Gen.R4 ds [aB,aA<|.ol []]=aA [aB,aA<|.ol<|ds.map λd=>Ra<|rkD d]:=by
 have c:=Ax (te:=Gen.R4) (f:=λd=>Ra<|rkD d) ds [] (λx a zs=>by
  rcases hd x a with h|⟨s,h⟩
  .subst h;simp[Gen.R4,z2,rkD,bI]
  .subst h;simp[Gen.R4,z2,rkD,bI]) (by simpa using(show ds.length<=16777216 by lia))
 simpa using c
include Sh in
theorem rl{i:Nat}{k:Str}(a:keys[i]? =aA k)(fs:À Str)(l:fs.length<=100):Gen.Hc [Wn keys ws,Yd T0,.str k,.lst<|fs.map D.str]=aA (.fz<|kkD<|Cw keys ws fs k):=by
 have j:=ML Sh a fs [] (by simpa using(show fs.length<=1000 by lia));have c:=rq (fs.map λf=>(hd0 keys ws k f).getD .non) (λd hd=>by
  obtain⟨f,_,rfl⟩:=av.mp hd;exact OM Sh a f) Ω
 have e:(fs.map λf=>(hd0 keys ws k f).getD .non).map (λd=>Ra<|rkD d)=(Cw keys ws fs k).1.map Ra:=by unfold Cw;rw[f7,f7];rfl
 rw[e]at c;have h:(Cw keys ws fs k).2=k:=rfl;unfold kkD;rw[h];generalize (Cw keys ws fs k).1.map Ra=R,(fs.map λf=>(hd0 keys ws k f).getD .non)=V,Wn keys ws=SD,Yd T0=TD,fs.map D.str=FS at*;unfold Gen.Hc Gen.UP;simp[-Z7,j,c,z2]
abbrev Vn(keys:À Str)(ws:À WK)(fs as:À Str):À D:=as.map λa=>kkD<|Cw keys ws fs a
include Sh in
theorem Nw(fs:À Str)(l:fs.length<=100)(h:Á SV):∀(as done:À Str) (f:Á SV),(∀a∈as,a∈keys)->(done++as).Nodup->done.length+as.length<=100->
  ∃g,Yq (Zj 5) Gen.Gf (as.map D.str) [aA (.fz<|Wn keys ws),aA<|.fz<|Yd T0,h,aA<|.fz<|.lst<|fs.map D.str,aA<|.oK (Zr done)<|Vn keys ws fs done,f]=aA (.nx [aA (.fz<|Wn keys ws),aA<|.fz<|Yd T0,h,aA<|.fz<|.lst<|fs.map D.str,aA<|.oK (Zr<|done++as)<|Vn keys ws fs<|done++as,g])
 | [],done,f,_,_,_=>⟨f,by rw[iq];rfl⟩
 |a::as,done,f,hk,nd,hn=>by
  rw[ca]at hn;obtain⟨i,o⟩:=mh<|hk a ac;have r:=rl Sh o fs l;have c:a∉done:=λz=>by have:=(iw.mp nd).2.2 a z a ac;exact this rfl
  have hd:done++a::as=done++[a]++as:=Δ
  obtain⟨g,n⟩:=Nw fs l h as (done++[a]) (aA<|.fz<|.str a) (λb p=>hk b<|ag _ p) (by rw[<-hd];exact nd) ε;refine⟨g,?_⟩;rw[hd,<-n,cg];refine Yl (δ1:=[aA (.fz<|Wn keys ws),aA<|.fz<|Yd T0,h,aA<|.fz<|.lst<|fs.map D.str,aA<|.oK (Zr done)<|Vn keys ws fs done,aA<|.fz<|.str a]) Δ ?_;have m:(Vn keys ws fs done).length<PySem.sizeLine:=Ya Ω;have j:=Cs a (kkD<|Cw keys ws fs a) done<|Vn keys ws fs done;rw[JC c]at j;have q:Vn keys ws fs (done++[a])=Vn keys ws fs done++[kkD (Cw keys ws fs a)]:=by unfold Vn;rw[cb];rfl
  rw[q];generalize Vn keys ws fs done=RL,Cw keys ws fs a=KA,Wn keys ws=SD,Yd T0=TD,fs.map D.str=FS at*;unfold Gen.Gf;simp[-Y2,r,m,j]
theorem MJ(keys ws fs):∀{as:À Str},a∈as->Z5 (Zr as) (Vn keys ws fs as) (Sum.inr a)=aA (kkD<|Cw keys ws fs a)
 |b::as,h=>by
  show(if(Sum.inr b:L2.Key)=Sum.inr a then aA (kkD<|Cw keys ws fs b)else Z5 (Zr as) (Vn keys ws fs as)<|Sum.inr a)=_;by_cases e:b=a
  .rw[dZ (by rw[e]),e]
  .rw[dY<|λz=>e<|Sum.inr.inj z];rcases az.mp h with z|z
   .exact dt z.symm e
   .exact MJ keys ws fs z
theorem MI(keys ws fs as):∀{bs:À Str},(∀b∈bs,b∈as)->L2.Sw (Zf Yn (Za 1)<|Za 0) [.dK (Zr as) (Vn keys ws fs as)] (bs.map D.str)=aA (Vn keys ws fs bs)
 | [],_=>rfl
 |b::bs,h=>by
  have a:=MI keys ws fs as (bs:=bs) λc f=>h c<|ag _ f;have lk:=MJ keys ws fs<|h b ac;have k1:L2.YS (Zf Yn (Za 1)<|Za 0) [.dK (Zr as) (Vn keys ws fs as)] (.str b)=aA (kkD<|Cw keys ws fs b):=by generalize Zr as=j at*;generalize Vn keys ws fs as=RA,kkD (Cw keys ws fs b)=KB at*;simp[-Z5,lk]
  show(L2.YS (Zf Yn (Za 1)<|Za 0) [.dK (Zr as) (Vn keys ws fs as)]<|.str b).bind (λk=>(L2.Sw (Zf Yn (Za 1)<|Za 0) [.dK (Zr as) (Vn keys ws fs as)]<|bs.map D.str).bind λks=>aA (k::ks))=_;rw[k1,a];rfl
include Sh in
theorem rf(fs as:À Str)(m:fs.length<=100)(n:∀a∈as,a∈keys)(j:as.Nodup)(hn:as.length<64):
  ∃out:À Str,Gen.Ua [Wn keys ws,Yd T0,.lst<|as.map D.str,.lst<|fs.map D.str]=aA (.ol<|out.map D.str)/\out.Perm as:=by
 obtain⟨u,e⟩:=Nw Sh fs m (aA<|.fz<|.lst<|as.map D.str) as [] aB n (by simpa using j) Ψ;rw[f8]at e;rw[show Zr []=([]:À L2.Key)from rfl,show Vn keys ws fs []=[]from rfl]at e;have kf:=MI keys ws fs as (bs:=as) λ_ h=>h;obtain⟨p,c,es⟩:=L2.pX (ks:=Vn keys ws fs as) (xs:=as.map D.str) (by rw[aj,aj]) (by rw[aj];exact hn) (λd hd=>by
  obtain⟨k,_,rfl⟩:=av.mp hd;exact .lst _ _) λa r b q=>by
  obtain⟨k,_,rfl⟩:=av.mp r;obtain⟨l,_,rfl⟩:=av.mp q;exact g_ _ _
 rw[aj]at c;have s:(p.map λi=>(as.map D.str).getD i .non)=(p.map λi=>as.getD i "").map D.str:=by rw[f7];refine kj λi o=>?_;have f:i<as.length:=lh.mp<|c.mem_iff.mp o;rw[du,c8,cf f];show D.str as[i]=D.str (as.getD i "");rw[du,cf f];rfl
 rw[s]at es;refine⟨p.map λi=>as.getD i "",?_,?_⟩
 .generalize (p.map λi=>as.getD i "").map D.str=OUT,Vn keys ws fs as=RL,Zr as=IA,Wn keys ws=SD,Yd T0=TD,fs.map D.str=FS,as.map D.str=w at*;unfold Gen.Ua Gen.Tn;generalize (Zf Yn (Za 1) (Za 0):FE)=v at kf⊢;simp[-Yq,-L2.Sw,e,kf,es]
 .have h1:(p.map λi=>as.getD i "").Perm<|(gz as.length).map λi=>as.getD i "":=c.map _;have h2:((gz as.length).map λi=>as.getD i "")=as:=by
   apply EM
   .simp
   .intro i a b;simp[b]
  rw[h2]at h1;exact h1
end
abbrev Bx(r:À Str):D:=.lst<|r.map D.str
abbrev Qe(rows:À (À Str)):D:=.lst<|rows.map Bx
noncomputable def Qx(place:Nat)(t:Str):Nat->List (List Str)->Option (Nat×Nat)
 |_,[]=>aB
 |i,r::rs=>if i≠place/\t∈r then aA (i,r.findIdx λx=>decide (x=t))else Qx place t (i+1) rs
noncomputable def rvD:Option (Nat×Nat)->D
 |none=>.non
 |some (o,k)=>.tup [.int (o:Int),.int (k:Int)]
theorem Nx(j f:Á SV)(place:Nat)(t:Str):∀(a:À (À Str)) (i:Nat) (m l:Á SV),
  match Qx place t i a with
  |some (o,k)=>Yq (W1 2<|Yj (Zj 4)<|Yj (Zj 5)<|W0) Gen.Ub (Uy i<|a.map Bx) [j,aA<|.fz<|.int (place:Int),f,aA<|.fz<|.str t,m,l]=aA (.rt<|.fz<|.tup [.int (o:Int),.int (k:Int)])
  |none=>∃δ,Yq (W1 2<|Yj (Zj 4)<|Yj (Zj 5)<|W0) Gen.Ub (Uy i<|a.map Bx) [j,aA<|.fz<|.int (place:Int),f,aA<|.fz<|.str t,m,l]=aA (.nx δ)
 | [],i,m,l=>⟨_,rfl⟩
 |r::a,i,m,l=>by
  have run:(W1 2<|Yj (Zj 4)<|Yj (Zj 5)<|W0).run (.tup [.int (i:Int),Bx r]) [j,aA<|.fz<|.int (place:Int),f,aA<|.fz<|.str t,m,l]=aA [j,aA<|.fz<|.int (place:Int),f,aA<|.fz<|.str t,aA<|.fz<|.int (i:Int),aA<|.fz<|Bx r]:=Δ
  have fl:=S6 r;have n:=X7 t r;have z2:2<=PySem.sizeLine:=Zz Γ;unfold Qx;by_cases h:i≠place/\t∈r
  .rw[dZ h];have y:=S7 t r h.2;have c:¬(i:Int)=(place:Int):=Θ
   have u:¬i=place:=h.1;have s:=h.2;show Yq _ Gen.Ub (.tup [.int (i:Int),Bx r]::Uy (i+1) (a.map Bx)) _=_;refine Kd run ?_;unfold Gen.Ub;simp[-ua,-ky,c,n,s,y,z2]
  .rw[dY h];have w:Gen.Ub [j,aA<|.fz<|.int (place:Int),f,aA<|.fz<|.str t,aA<|.fz<|.int (i:Int),aA<|.fz<|Bx r]=aA (.nx [j,aA<|.fz<|.int (place:Int),f,aA<|.fz<|.str t,aA<|.fz<|.int (i:Int),aA<|.fz<|Bx r]):=by
    unfold Gen.Ub;by_cases v:i=place
    .have x:(i:Int)=(place:Int):=Θ
     simp[v]
    .have c:¬(i:Int)=(place:Int):=Θ
     have s:¬t∈r:=λe=>h ⟨v,e⟩;simp[-ky,c,n,s]
   have q:=Nx j f place t a (i+1) (aA<|.fz<|.int (i:Int))<|aA<|.fz<|Bx r;generalize Qx place t (i+1) a=o at q⊢;cases o with
   |none=>obtain⟨δ,e⟩:=q;exact⟨δ,(Yl run w).trans e⟩
   |some p=>obtain⟨o,k⟩:=p;exact(Yl run w).trans q
theorem nP{place step:Nat}(f:rows[place]? =aA r)(hs:r[step]? =aA t):
  Gen.Kh [Qe rows,.int (place:Int),.int (step:Int)]=aA (.fz<|rvD<|Qx place t 0 rows):=by
 have c:L2.atI (rows.map Bx) (place:Int)=aA (Bx r):=Wh _ _ _ (by rw[c8,f];rfl);have a:L2.atI (r.map D.str) (step:Int)=aA (.str t):=Wh _ _ _ (by rw[c8,hs];rfl);have l:=Nx (aA<|.fz<|Qe rows) (aA<|.fz<|.int (step:Int)) place t rows 0 aB aB;generalize Qx place t 0 rows=o at l⊢;unfold Gen.Kh Gen.He;cases o with
 |none=>obtain⟨δ,e⟩:=l;simp[-Yq,c,a,C7,e,rvD]
 |some p=>obtain⟨o,k⟩:=p;simp[-Yq,c,a,C7,l,rvD]
def Jx(place:Nat)(rows:List<|List Str):Nat->List Str->Option Nat
 |_,[]=>aB
 |s,t::ts=>if Qx place t 0 rows=aB then aA s else Jx place rows (s+1) ts
noncomputable def stD:Option Nat->D
 |none=>.non
 |some s=>.int (s:Int)
theorem Vo{rows:À (À Str)}{place:Nat}{r:À Str}(m:rows[place]? =aA r):∀(n s:Nat) (c:Á SV),s+n=r.length->
  match Jx place rows s (r.drop s)with
  |some k=>Yq (Zj 2) Gen.Qo (Cr s n) [aA (.fz<|Qe rows),aA<|.fz<|.int (place:Int),c]=aA (.rt<|.fz<|.int (k:Int))
  |none=>∃δ,Yq (Zj 2) Gen.Qo (Cr s n) [aA (.fz<|Qe rows),aA<|.fz<|.int (place:Int),c]=aA (.nx δ)
 |0,s,c,h=>by rw[uy Θ];exact⟨_,rfl⟩
 |n+1,s,c,h=>by
  have hs:s<r.length:=Θ
  rw[ic hs];have j:=nP (t:=r[s]) m<|cf hs;unfold Jx;by_cases f:Qx place r[s] 0 rows=aB
  .rw[dZ f];rw[f]at j;show Yq (Zj 2) Gen.Qo (.int (s:Int)::Cr (s+1) n) _=_;refine Kd (δ1:=[aA (.fz<|Qe rows),aA<|.fz<|.int (place:Int),aA<|.fz<|.int (s:Int)]) Δ ?_;unfold Gen.Qo;simp[j,rvD]
  .rw[dY f];have q:Gen.Qo [aA (.fz<|Qe rows),aA<|.fz<|.int (place:Int),aA<|.fz<|.int (s:Int)]=aA (.nx [aA (.fz<|Qe rows),aA<|.fz<|.int (place:Int),aA<|.fz<|.int (s:Int)]):=by
    unfold Gen.Qo;generalize Qx place r[s] 0 rows=o at j f;cases o with
    |none=>exact dt rfl f
    |some p=>obtain⟨a,b⟩:=p;simp[j,rvD]
   have l:=Vo m n (s+1) (aA<|.fz<|.int (s:Int)) Θ;have run:(Zj 2).run (.int (s:Int)) [aA (.fz<|Qe rows),aA<|.fz<|.int (place:Int),c]=aA [aA (.fz<|Qe rows),aA<|.fz<|.int (place:Int),aA<|.fz<|.int (s:Int)]:=Δ
   generalize Jx place rows (s+1) (r.drop<|s+1)=o at l⊢;cases o with
   |none=>obtain⟨δ,e⟩:=l;exact⟨δ,(Yl (ds:=Cr (s+1) n) run q).trans e⟩
   |some k=>exact(Yl (ds:=Cr (s+1) n) run q).trans l
theorem rY{place:Nat}(a:rows[place]? =aA r)(h:r.length<=1000):
  Gen.Mh [Qe rows,.int (place:Int)]=aA (.fz<|stD<|Jx place rows 0 r):=by
 have f:L2.atI (rows.map Bx) (place:Int)=aA (Bx r):=Wh _ _ _ (by rw[c8,a];rfl);have l:=Vo a r.length 0 aB Θ;rw[oh]at l;have g1:Dy (r.length:Int):=Ro Θ;have c:((r.length:Int)).toNat=r.length:=by rfl
 unfold Gen.Mh Gen.Ii;generalize Jx place rows 0 r=o at l⊢;cases o with
 |none=>obtain⟨δ,e⟩:=l;simp[-Yq,f,g1,c,Jk,e,stD]
 |some k=>simp[-Yq,f,g1,c,Jk,l,stD]
theorem Tx{place}:∀{a:À Str} {s k:Nat},Jx place rows s a=aA k->s<=k/\(∃t,a[k- s]? =aA t/\Qx place t 0 rows=aB)/\∀j t,j<k- s->a[j]? =aA t->Qx place t 0 rows≠aB
 | [],s,k,h=>by cases h
 |t::a,s,k,h=>by
  unfold Jx at h;split at h
  .rename_i f;cases h;exact⟨cj _,⟨t,Δ,f⟩,λj t' l=>Θ⟩
  .rename_i f;obtain⟨h1,⟨u,h2,n⟩,m⟩:=Tx h;refine⟨Θ,⟨u,?_,n⟩,λj t' l c=>?_⟩
   .rw[L2.sy h1];simpa using h2
   .cases j with
    |zero=>simp at c;subst c;exact f
    |succ j=>exact m j t' (by rw[L2.sy h1]at l;exact m7 l) μ
def X4(n:Nat):Str:=match Gen.Cu [.int (n:Int)]with
 |some (.fz<|.str s)=>s
 |_=>dy
def ltG(n:Nat):Bool:=match Gen.Cu [.int (n:Int)]with
 |some (.fz<|.str s)=>decide (1<=s.length/\s.length<=3)&&s.cps.toList.all λc=>decide (c≠94)
 |_=>aE
theorem wZ:(gz 21).all ltG=aC:=Φ
theorem Ir(n:Nat)(h:n<=20):Gen.Cu [.int (n:Int)]=aA (.fz<|.str<|X4 n)/\1<=(X4 n).length/\(X4 n).length<=3/\94∉(X4 n).cps.toList:=by
 have g:=gi.mp wZ n<|lh.mpr Θ;unfold ltG at g;unfold X4;split at g
 .rename_i s e;rw[e];simp only[ig,decide_eq_true_eq,gi]at g;exact⟨rfl,g.1.1,g.1.2,λz=>g.2 94 z rfl⟩
 .cases g
noncomputable def lastT(r:À Str):Str:=r.getLastD ""
def Er(rows:List<|List Str):Nat->List (List Str)->List Str->List Str
 |_,[],_=>[]
 |i,r::rs,ls=>match Jx i rows 0 r with
  |some k=>r.getD k ""::Er rows (i+1) rs ls
  |none=>(lastT r++aa "^"++X4 (ls.count<|lastT r))::Er rows (i+1) rs (lastT r::ls)
def Cnt(ks:À L2.Key)(vs:À D)(a:À Str):Prop:=ks.length=vs.length/\vs.length<=a.length/\∀x:Str,Z5 ks vs (.inr x)=if a.count x=0 then aB else aA<|.int (a.count x:Nat)
theorem Hr(h:Cnt ks vs ls)(x):Cnt (Y2 ks vs (.inr x)<|.int ((ls.count x+1:Nat):Int)).1 (Y2 ks vs (.inr x)<|.int ((ls.count x+1:Nat):Int)).2 (x::ls):=by
 have a:=qE (.inr x:L2.Key) (.int ((ls.count x+1:Nat):Int)) ks vs h.1;refine⟨a.1,by rw[ca];exact fg a.2 (by have:=h.2.1;(clear a;lia)),λy=>?_⟩;rw[n1 _ _ _ _ _ h.1];by_cases e:x=y
 .subst e;rw[dZ rfl,BG,dY Θ]
 .rw[dY λz=>e<|Sum.inr.inj z,h.2.2 y,List.count_cons_of_ne e]
theorem KQ(h:r≠[]):L2.atI (r.map D.str) (-1)=aA (.str<|lastT r):=by
 rcases nr r with e|⟨q,x,e⟩
 .exact dt e h
 .rw[nu]at e;subst e;rw[cb];have:=Ke (q.map D.str)<|.str x;rw[show re D.str [x]=[.str x]from rfl,this];unfold lastT;simp
theorem Ny(rows)(z:rows.length<=20)(o:∀r∈rows,r≠[]/\r.length<=6/\∀t∈r,t.length<=10000000):∀M i G ks vs g O N J I,
  rows.drop i=M->Cnt ks vs g->g.length<=i->G.length<=i->
  ∃δ,Yq (W1 2<|Yj (Zj 3)<|Yj (Zj 4)<|W0) Gen.Qh (Uy i<|M.map Bx) [aA (.fz<|Qe rows),aA<|.ol<|G.map D.str,aA<|.oK ks vs,O,N,J,I]=aA (.nx δ)/\δ[1]? =aA (aA<|.ol<|(G++Er rows i M g).map D.str)
 | [],i,G,ks,vs,g,O,N,J,I,_,_,_,_=>⟨_,rfl,by simp[Er]⟩
 |r::M,i,G,ks,vs,g,O,N,J,I,hd,hc,hls,hts=>by
  have p:=L2.dlt hd;rw[ic p]at hd;have f:rows[i]=r:=(zp.inj hd).1;have m:rows.drop (i+1)=M:=(zp.inj hd).2;have C:rows[i]? =aA r:=by rw[cf p,f]
  obtain⟨h,L,j⟩:=o r (by rw[<-f];exact oq p);have st:=rY C Θ;have y:=KQ h;have n:G.length<PySem.sizeLine:=Ya Θ;have run:(W1 2<|Yj (Zj 3)<|Yj (Zj 4)<|W0).run (.tup [.int (i:Int),Bx r]) [aA (.fz<|Qe rows),aA<|.ol<|G.map D.str,aA<|.oK ks vs,O,N,J,I]=aA [aA (.fz<|Qe rows),aA<|.ol<|G.map D.str,aA<|.oK ks vs,aA<|.fz<|.int (i:Int),aA<|.fz<|Bx r,J,I]:=Δ
  cases hs:Jx i rows 0 r with
  |none=>
   rw[hs]at st;have v:vs.length<PySem.sizeLine:=Ya (by have:=hc.2.1;lia);have E:(lastT r).length<=10000000:=by
    rcases nr r with e|⟨q,x,e⟩
    .exact dt e h
    .have:lastT r=x:=by unfold lastT;rw[e,nu];simp
     rw[this];exact j x (by rw[e];simp)
   have s:g.count (lastT r)<=20:=by have:=vk (a:=lastT r) (l:=g);lia
   obtain⟨lt,_,dl,_⟩:=Ir (g.count<|lastT r) s;have H:(aa "^").length=1:=rfl;have z2:(lastT r++aa "^").length+(X4<|g.count<|lastT r).length<=PySem.sizeLine:=Zz (by rw[Z2,H];lia);have w:(lastT r).length+(aa "^").length<=PySem.sizeLine:=pfx z2;have lk:=hc.2.2<|lastT r;have F:((g.count (lastT r)+1:Nat):Int)=((g.count (lastT r):Nat):Int)+1:=by rfl
   have u:Gen.Qh [aA (.fz<|Qe rows),aA<|.ol<|G.map D.str,aA<|.oK ks vs,aA<|.fz<|.int (i:Int),aA<|.fz<|Bx r,J,I]=aA (.nx [aA (.fz<|Qe rows),aA<|.ol<|(G++[lastT r++aa "^"++X4 (g.count<|lastT r)]).map D.str,aA<|.oK (Y2 ks vs (.inr<|lastT r)<|.int ((g.count (lastT r)+1:Nat):Int)).1 (Y2 ks vs (.inr<|lastT r)<|.int ((g.count (lastT r)+1:Nat):Int)).2,aA<|.fz<|.int (i:Int),aA<|.fz<|Bx r,aA<|.fz .non,aA<|.fz<|.int (g.count (lastT r):Nat)]):=by
    rw[F];unfold Gen.Qh;by_cases h0:g.count (lastT r)=0
    .rw[dZ h0]at lk;rw[h0]at lt z2⊢;have B:((0:Nat):Int)=0:=rfl;rw[B]at lt;simp[-Y2,st,stD,y,lk,v,w,z2,n,lt]
    .rw[dY h0]at lk;simp[-Y2,st,stD,y,lk,v,w,z2,n,lt]
   obtain⟨δ,e,c⟩:=Ny rows z o M (i+1) (G++[lastT r++aa "^"++X4 (g.count<|lastT r)]) _ _ (lastT r::g) (aA<|.fz<|.int (i:Int)) (aA<|.fz<|Bx r) (aA<|.fz .non) (aA<|.fz<|.int (g.count (lastT r):Nat)) m (Hr hc<|lastT r) (by rw[ca];lia) ε;refine⟨δ,(Yl run u).trans e,?_⟩;rw[c];simp[Er,hs]
  |some k=>
   rw[hs]at st;refine L2.Wv λ_ A=>?_;obtain⟨_,⟨t,h2,_⟩,_⟩:=Tx hs;rw[AH]at h2;have K:L2.atI (r.map D.str) (k:Int)=aA (.str t):=Wh _ _ _ (by rw[c8,h2];rfl);have u:Gen.Qh [aA (.fz<|Qe rows),aA<|.ol<|G.map D.str,aA<|.oK ks vs,aA<|.fz<|.int (i:Int),aA<|.fz<|Bx r,J,I]=aA (.nx [aA (.fz<|Qe rows),aA<|.ol<|(G++[t]).map D.str,aA<|.oK ks vs,aA<|.fz<|.int (i:Int),aA<|.fz<|Bx r,aA<|.fz<|.int (k:Int),I]):=by unfold Gen.Qh;simp[st,stD,K,n]
   obtain⟨δ,e,c⟩:=Ny rows z o M (i+1) (G++[t]) _ _ g (aA<|.fz<|.int (i:Int)) (aA<|.fz<|Bx r) (aA<|.fz<|.int (k:Int)) I m hc Θ ε;apply A;refine⟨δ,(Yl run u).trans e,?_⟩;rw[c];simp[Er,hs,h2]
theorem wY(rows)(f:rows.length<=20)(c:∀r∈rows,r≠[]/\r.length<=6/\∀t∈r,t.length<=10000000):Gen.U2 [Qe rows]=aA (.ol<|(Er rows 0 rows []).map D.str):=by obtain⟨δ,e,a⟩:=Ny rows f c rows 0 [] [] [] [] aB aB aB aB (oh ..) ⟨rfl,cj _,λx=>Δ⟩ (cj _)<|cj _;simp only[mf,f8]at e a;unfold Gen.U2 Gen.R5;simp[-Yq,C7,e,a]
noncomputable abbrev TQ:=Str×List D×List Str
section
variable{ws:À Str}{wks:À Wk}(Sh:Shf ws wks)
abbrev YB(ws:À Str)(wks:À Wk)(L:À TQ)(k:Str):À Str:=L.map<|T3 ws wks k
include Sh in
theorem KO{i:Nat}{k:Str}(c:ws[i]? =aA k):∀(L:À TQ) (zs:À D),(∀x∈L,x∈Mq)->zs.length+L.length<=1000->
  Z7 [.own,.cap 0,.cap 1,.cap 2,.acc] 4 (Zj 0) Y1 Gen.Cd (L.map dT) [aB,aA<|.fz<|Qp ws wks,aA<|.fz<|Yd T0,aA<|.fz<|.str k,aA<|.ol zs]=aA [aB,aA<|.fz<|Qp ws wks,aA<|.fz<|Yd T0,aA<|.fz<|.str k,aA<|.ol<|zs++(YB ws wks L k).map D.str]
 | [],zs,_,_=>Δ
 |x::L,zs,h,hl=>by rw[ca]at hl;have f:=Vm Sh c<|h x ac;have a:=KO c L (zs++[.str (T3 ws wks k x)]) (λy j=>h y<|ag _ j) ε;have z:zs.length<PySem.sizeLine:=Ya Θ;rw[f9]at a;refine Eq.trans ?_ a;rw[cg];generalize T3 ws wks k x=R,Qp ws wks=SD,Yd T0=TD,L.map dT=LT,x.2.1=l at*;rw[Z7];unfold Gen.Cd;simp[-Z7,f,z]
include Sh in
theorem wX{i:Nat}{k:Str}(a:ws[i]? =aA k){L:À TQ}(h:∀x∈L,x∈Mq)(f:L.length<=100):Gen.Bs [Qp ws wks,Yd T0,.str k,.lst<|L.map dT]=aA (.ol<|(YB ws wks L k).map D.str):=by have c:=KO Sh a L [] h Ψ;generalize (YB ws wks L k).map D.str=RL,Qp ws wks=SD,Yd T0=TD,L.map dT=LT at*;unfold Gen.Bs Gen.R8;simp[-Z7,c]
abbrev rrD(ws:À Str)(wks:À Wk)(L:À TQ)(k:Str):D:=.lst<|(YB ws wks L k).map D.str
include Sh in
theorem Vp{L:À TQ}(h:∀x∈L,x∈Mq)(c:L.length<=100):∀(R:À Str) (zs:À D),(∀k∈R,k∈ws)->zs.length+R.length<=1000->
  Z7 [.own,.cap 0,.cap 1,.cap 3,.acc] 4 (Zj 0) Y1 Gen.Gj (R.map D.str) [aB,aA<|.fz<|Qp ws wks,aA<|.fz<|Yd T0,aA<|.fz<|.lst<|L.map dT,aA<|.ol zs]=aA [aB,aA<|.fz<|Qp ws wks,aA<|.fz<|Yd T0,aA<|.fz<|.lst<|L.map dT,aA<|.ol<|zs++R.map (rrD ws wks L)]
 | [],zs,_,_=>Δ
 |k::R,zs,hR,hz=>by rw[ca]at hz;obtain⟨i,l⟩:=mh<|hR k ac;have f:=wX Sh l h c;have a:=Vp h c R (zs++[rrD ws wks L k]) (λy j=>hR y<|ag _ j) ε;have z:zs.length<PySem.sizeLine:=Ya Θ;rw[f9]at a;refine Eq.trans ?_ a;rw[cg];unfold rrD;generalize (YB ws wks L k).map D.str=RL,Qp ws wks=SD,Yd T0=TD,L.map dT=LT at*;rw[Z7];unfold Gen.Gj;simp[-Z7,f,z]
include Sh in
theorem Nz{L:À TQ}(h:∀x∈L,x∈Mq)(a:L.length<=100){R:À Str}(f:∀k∈R,k∈ws)(j:R.length<=100):Gen.Uc [Qp ws wks,Yd T0,.lst<|R.map D.str,.lst<|L.map dT]=aA (.ol<|R.map<|rrD ws wks L):=by have c:=Vp Sh h a R [] f Ψ;generalize R.map (rrD ws wks L)=RL,Qp ws wks=SD,Yd T0=TD,L.map dT=LT,R.map D.str=l at*;unfold Gen.Uc Gen.Tq;simp[-Z7,c]
end
abbrev kL(l:À (Str×Str)):À L2.Key:=Zr (l.map (·.1))
noncomputable abbrev vL(l:List<|Str×Str):List D:=l.map λp=>D.str p.2
theorem Hs(h:f∉l.map (·.1)):Y2 (kL l) (vL l) (Sum.inr f) (.str s)=(kL<|l++[(f,s)],vL<|l++[(f,s)]):=by rw[Cs];unfold Y2;rw[dY h];simp[Zr]
theorem Ht(a0 a1 a2 a3 a4 ms)(C:l.length<=100)(c x m)(a:0<m)(z:m<100)(h:L2.atI ms c=aA (.int x))(f ts n)(hn:(ts.length:Int)=n)(n0:0<n)(y:n<100)(hf:f∉l.map (·.1)):
  ∃o,(∀t,o=aA t->t∈ts)/\Wo (Zq<|Zf P7 (Zf We (Zf Yn (Za 5)<|Zb<|.int c)<|Zb<|.int m)<|Zb<|.int 0) (Cn 6 (Zb<|.str f)<|Zf Yn (Qa<|W7 ts<|Zp)<|Zf We (Zf Qc (Zf Yn (Za 5)<|Zb<|.int c)<|Zb<|.int m)<|Zb<|.int n) (Yb) [a0,a1,a2,a3,a4,aA<|.ol ms,aA<|.oK (kL l)<|vL l]=aA (.nx [a0,a1,a2,a3,a4,aA<|.ol ms,aA<|.oK (kL<|l++Gx f o)<|vL<|l++Gx f o]):=by
 have p:(vL l).length<PySem.sizeLine:=Ya Ω;have v:m<1073741824:=Θ
 by_cases j:0<x % m
 .refine L2.Wv λ_ r=>?_;obtain⟨d,hd,e⟩:=B8 (ts.map D.str) (x / m) n (by rw[aj];exact hn) n0;obtain⟨s,hs,rfl⟩:=av.mp hd;apply r;have q:ts.length<=PySem.sizeLine:=Zz Θ;refine⟨aA s,λt e=>by cases e;exact hs,?_⟩;have u:=Hs (s:=s) hf;show _=aA (Fl.nx [a0,a1,a2,a3,a4,aA<|SV.ol ms,aA<|SV.oK (kL<|l++[(f,s)])<|vL<|l++[(f,s)]]);generalize kL (l++[(f,s)])=A,vL (l++[(f,s)])=B,kL l=A0,vL l=w at*;simp[-Y2,h,j,e,q,n0,a,v,p,u]
 .refine⟨aB,(λ_ e=>nomatch e),?_⟩;rw[show l++Gx f aB=l from iq l];generalize kL l=A0,vL l=w at*;simp[h,j,a]
theorem wW(a1 a2 a4){ws:À Str}(w:ws.length<=20)(ms)(H:l.length<=100)(i x y)(m:L2.atI ms 3=aA (.int x))(v:L2.atI ms 4=aA (.int y))(hf:Nk∉l.map (·.1)):
  ∃o,(o=aB\/∃(j:Nat) (b:Str),i<j/\ws[j]? =aA b/\o=aA b)/\Wo (YF (Zq<|Zf Cz (Zf We (Zf Yn (Za 5)<|Zb<|.int 3)<|Zb<|.int 2)<|Zb<|.int 0)<|Zq<|Zf ltD (Zf Yu (Za 3)<|Zb<|.int 1)<|Yh Qk<|Zd (Za 0) Zh) (Cn 6 (Zb<|.str "in")<|Zf Yn (Za 0)<|Zf Yu (Zf Yu (Za 3)<|Zb<|.int 1)<|Zf We (Zf Yn (Za 5)<|Zb<|.int 4)<|Zf K6 (Zf K6 (Yh Qk<|Zd (Za 0) Zh)<|Za 3)<|Zb<|.int 1) (Yb)
   [aA (.fz<|.lst<|ws.map D.str),a1,a2,aA<|.fz<|.int (i:Int),a4,aA<|.ol ms,aA<|.oK (kL l)<|vL l]=aA (.nx [aA (.fz<|.lst<|ws.map D.str),a1,a2,aA<|.fz<|.int (i:Int),a4,aA<|.ol ms,aA<|.oK (kL<|l++Gx Nk o)<|vL<|l++Gx Nk o]):=by
 have r:(vL l).length<PySem.sizeLine:=Ya Ω;by_cases h:x % 2=0
 .by_cases h2:i+1<ws.length
  .have hd0:(0:Int)<(ws.length:Int)- (i:Int)- 1:=Θ
   have F:=kc y (show(ws.length:Int)- (i:Int)- 1≠0 by clear h2;lia);have E:=g7 y hd0;obtain⟨j,c⟩:∃j:Nat,(i:Int)+1+y % ((ws.length:Int)- (i:Int)- 1)=(j:Int):=⟨_,(Int.toNat_of_nonneg (by clear w h;lia)).symm⟩
   have a:j<ws.length:=π
   have q:L2.atI (ws.map D.str) (j:Int)=aA (.str ws[j]):=Wh _ _ _ (by rw[c8,cf a];rfl);refine⟨aA ws[j],.inr ⟨j,ws[j],π,cf a,rfl⟩,?_⟩;have u:=Hs (s:=ws[j]) hf;have n:aa "in"=Nk:=rfl;show _=aA (Fl.nx [aA (SV.fz<|.lst<|ws.map D.str),a1,a2,aA<|SV.fz<|.int (i:Int),a4,aA<|SV.ol ms,aA<|SV.oK (kL<|l++[(Nk,ws[j])])<|vL<|l++[(Nk,ws[j])]]);have p:((i:Int)+1<(ws.length:Int))=True:=by simp;(clear c;lia)
   have C:(ws.length:Int)- (i:Int)- 1<1073741824:=by clear c;lia
   have z:(1:Int)<(ws.length:Int)- (i:Int):=by clear c C;lia
   have f:(ws.map D.str).length=ws.length:=aj ..;generalize kL (l++[(Nk,ws[j])])=A,vL (l++[(Nk,ws[j])])=B,kL l=A0,vL l=B0,ws.map D.str=W at*;simp[-Y2,m,v,h,p,z,c,q,f,r,u,n]
  .refine⟨aB,.inl rfl,?_⟩;rw[show l++Gx Nk aB=l from iq l];have p:¬((i:Int)+1<(ws.length:Int)):=Θ
   have f:(ws.map D.str).length=ws.length:=aj ..;generalize kL l=A0,vL l=B0,ws.map D.str=W at*;simp[m,h,p,f]
 .refine⟨aB,.inl rfl,?_⟩;rw[show l++Gx Nk aB=l from iq l];generalize kL l=A0,vL l=B0,ws.map D.str=W at*;simp[m,h]
noncomputable abbrev Vq:Str:=aa "note"
theorem nO(h:f∉l.map (·.1)):Y2 (kL<|l++[(f,s)]) (vL<|l++[(f,s)]) (Sum.inr f) (.str s')=(kL<|l++[(f,s')],vL<|l++[(f,s')]):=by
 unfold kL vL;rw[Cs,cb,cb,cb,cb];show(Zr (Y2 (l.map (·.1)++[f]) ((l.map λp=>D.str p.2)++[D.str s]) f<|.str s').1,(Y2 (l.map (·.1)++[f]) ((l.map λp=>D.str p.2)++[D.str s]) f<|.str s').2)=_;have c:(l.map (·.1)).length=(l.map λp=>D.str p.2).length:=by rw[aj,aj]
 have e:Y2 (l.map (·.1)++[f]) ((l.map λp=>D.str p.2)++[D.str s]) f (.str s')=(l.map (·.1)++[f],(l.map λp=>D.str p.2)++[D.str s']):=by
  unfold Y2;rw[dZ Δ,List.zip_append c,cb];have e:((l.map (·.1)).zip<|l.map λp=>D.str p.2).map (λp=>if p.1=f then D.str s' else p.2)=l.map λp=>D.str p.2:=by have:((l.map (·.1)).zip<|l.map λp=>D.str p.2).map (λp=>if p.1=f then D.str s' else p.2)=((l.map (·.1)).zip<|l.map λp=>D.str p.2).map Prod.snd:=kj λp a=>dY λ(z:p.1=f)=>h (by rw[<-z];exact(ph a).1);rw[this,ur Θ]
  rw[e];simp
 rw[e];rfl
theorem kT:∀{l:À (Str×Str)},f∉l.map (·.1)->Z5 (kL<|l++[(f,s)]) (vL<|l++[(f,s)]) (Sum.inr f)=aA (.str s):=fun{l} h=>by
 rw[W2,Hk];have:(l++[(f,s)]).find? (λp=>decide (p.1=f))=aA (f,s):=by rw[List.find?_append,DA.mpr λp a=>by simpa using λz=>h<|av.mpr ⟨p,a,z⟩];simp
 rw[this];rfl
theorem nN(a1 a2 a3 a4){ws:À Str}(f:ws.length<=20)(h0:0<ws.length)(u:∀k∈ws,Key k)(ms)(Z:l.length<=100)(x y)(r:L2.atI ms 6=aA (.int x))(L:L2.atI ms 7=aA (.int y))(hf:Vq∉l.map (·.1)):
  ∃g:Nt,g.Ok/\Wo (Zq<|Zf Cz (Zf We (Zf Yn (Za 5)<|Zb<|.int 6)<|Zb<|.int 3)<|Zb<|.int 0) (Zo (Cn 6 (Zb<|.str "note")<|Zf Yu (Zf Yu (Zb<|.str "see <")<|Zf Yn (Za 0)<|Zf We (Zf Qc (Zf Yn (Za 5)<|Zb<|.int 6)<|Zb<|.int 3)<|Yh Qk<|Zd (Za 0) Zh)<|Zb<|.str " 7>")<|Cn 6 (Zb<|.str "note")<|Zf Yu (Zf Yu (Zf Yu (Zf Yn (Za 6)<|Zb<|.str "note")<|Zb<|.str "; <")<|Zf Yn (Za 0)<|Zf We (Zf Yn (Za 5)<|Zb<|.int 7)<|Yh Qk<|Zd (Za 0) Zh)<|Zb<|.str ">") (Yb)
   [aA (.fz<|.lst<|ws.map D.str),a1,a2,a3,a4,aA<|.ol ms,aA<|.oK (kL l)<|vL l]=aA (.nx [aA (.fz<|.lst<|ws.map D.str),a1,a2,a3,a4,aA<|.ol ms,aA<|.oK (kL<|l++Gx Vq g.text)<|vL<|l++Gx Vq g.text]):=by
 by_cases h:x % 3=0
 .refine L2.Wv λ_ C=>?_;obtain⟨d,hd,Q⟩:=B8 (ws.map D.str) (x / 3) ws.length (by rw[aj]) (by clear f;lia);obtain⟨k,n,rfl⟩:=av.mp hd;obtain⟨d,hd,P⟩:=B8 (ws.map D.str) y ws.length (by rw[aj]) (by clear f;lia);obtain⟨a,m,rfl⟩:=av.mp hd;apply C;have w:=u k n;have v:=u a m;have X:=w.most;have T:=v.most;refine⟨.two k a,⟨w,v⟩,?_⟩;have O:(aa "see <").length=5:=Ξ
  have N:(aa " 7>").length=3:=Ξ
  have M:(aa "; <").length=3:=Ξ
  have J:(aa ">").length=1:=Ξ
  have j:aa "note"=Vq:=rfl;have H:=Hs (s:=aa "see <"++k++aa " 7>") hf;have p2:=nO (s:=aa "see <"++k++aa " 7>") (s':=aa "see <"++k++aa " 7>"++aa "; <"++a++aa ">") hf;have F:=kT (s:=aa "see <"++k++aa " 7>") hf;show _=aA (Fl.nx [aA (SV.fz<|.lst<|ws.map D.str),a1,a2,a3,a4,aA<|SV.ol ms,aA<|SV.oK (kL<|l++[(Vq,aa "see <"++k++aa " 7>"++aa "; <"++a++aa ">")])<|vL<|l++[(Vq,aa "see <"++k++aa " 7>"++aa "; <"++a++aa ">")]]);have o:(aa "see <"++k++aa " 7>"++aa "; <"++a).length+(aa ">").length<=PySem.sizeLine:=Zz (by rw[Z2,Z2,Z2,Z2];(clear h;lia));have p:(aa "see <"++k++aa " 7>"++aa "; <").length+a.length<=PySem.sizeLine:=pfx o;have q:(aa "see <"++k++aa " 7>").length+(aa "; <").length<=PySem.sizeLine:=pfx p;have z2:(aa "see <"++k).length+(aa " 7>").length<=PySem.sizeLine:=pfx q;have E:(aa "see <").length+k.length<=PySem.sizeLine:=pfx z2;have z:(vL l).length<PySem.sizeLine:=Ya Ω;have c:(vL<|l++[(Vq,aa "see <"++k++aa " 7>")]).length<PySem.sizeLine:=Ya (by rw[aj,ax];simp;lia);have I:¬(ws.length:Int)=0:=by clear f;lia
  have G:(ws.length:Int)<1073741824:=by clear h0;lia
  have i:(0:Int)<(ws.length:Int):=Θ
  have K:(ws.map D.str).length=ws.length:=aj ..;generalize kL (l++[(Vq,aa "see <"++k++aa " 7>"++aa "; <"++a++aa ">")])=A at*;generalize vL (l++[(Vq,aa "see <"++k++aa " 7>"++aa "; <"++a++aa ">")])=B at*;generalize kL (l++[(Vq,aa "see <"++k++aa " 7>")])=A1,vL (l++[(Vq,aa "see <"++k++aa " 7>")])=B1,kL l=A0,vL l=B0,ws.map D.str=W at*;simp[-Y2,-Z5,r,L,h,h0,Q,P,K,z,c,H,p2,F,E,z2,q,p,o,j]
 .refine⟨.no,trivial,?_⟩;rw[show l++Gx Vq Nt.no.text=l from iq l];generalize kL l=A0,vL l=B0,ws.map D.str=W at*;simp[r,h]
theorem Kl(f o):(Gx f o).length<=1:=by cases o<;> simp[Gx]
abbrev PG0:À (Str×Str):=[(PG,"1-9")]
theorem Ur(h:g∉l.map (·.1))(hn:g≠f):g∉(l++Gx f o).map (·.1):=λz=>by
 rw[cb]at z;rcases dm.mp z with z|z
 .exact h z
 .exact hn (by
   cases o with
   |none=>exact nomatch z
   |some t=>exact ao.mp z)
theorem Fo{a:À Int}{n:Nat}(h:a.length=8)(hn:n<8):∃x,L2.atI (a.map D.int) (n:Int)=aA (.int x):=by refine⟨a[n]' Θ,Wh _ _ _ ?_⟩;rw[c8,cf Θ];rfl
theorem iG(nd:ws.Nodup)(C:ws.length<=20)(hk:∀k∈ws,Key k)(a1 x5 x6 i)(N:i<ws.length)(c vs)(J:vs.length=i):
  ∃w y5 y6,dX ws i w/\Gen.Uj [aA (.fz<|.lst<|ws.map D.str),a1,aA<|.oK (Zr<|ws.take i) vs,aA<|.fz<|.int (i:Int),aA<|.fz<|.int c,x5,x6]=
   aA (.nx [aA (.fz<|.lst<|ws.map D.str),a1,aA<|.oK (Zr<|ws.take<|i+1)<|vs++[w.d],aA<|.fz<|.int (i:Int),aA<|.fz<|.int c,y5,y6]):=by
 refine L2.Wv λ_ A=>?_;obtain⟨p,F,_,s⟩:=O8 c 8 Γ;obtain⟨x0,h0⟩:=Fo (n:=0) s Γ;obtain⟨x1,h1⟩:=Fo (n:=1) s Γ;obtain⟨x2,h2⟩:=Fo (n:=2) s Γ;obtain⟨x3,h3⟩:=Fo (n:=3) s Γ;obtain⟨x4,h4⟩:=Fo (n:=4) s Γ;obtain⟨u,E⟩:=Fo (n:=5) s Γ;obtain⟨B,h6⟩:=Fo (n:=6) s Γ;obtain⟨x7,h7⟩:=Fo (n:=7) s Γ;have d:TI≠PG/\YR≠PG/\HN≠PG/\Nk≠PG/\Vq≠PG/\YR≠TI/\HN≠TI/\Nk≠TI/\Vq≠TI/\HN≠YR/\Nk≠YR/\Vq≠YR/\Nk≠HN/\Vq≠HN/\Vq≠Nk:=Ξ
 obtain⟨d1,d2,d3,d4,d5,d6,d7,d8,d9,G,Z,X,T,Q,P⟩:=d;apply A;have n0:∀g,g≠PG->g∉PG0.map (·.1):=λg h z=>h<|ao.mp z;generalize O:(aA (.fz<|.lst<|ws.map D.str):Á SV)=y;generalize hS:(aA (.oK (Zr<|ws.take i) vs):Á SV)=x;refine L2.Wv λ_ A=>?_;obtain⟨a,m1,e1⟩:=Ht y a1 x (aA<|.fz<|.int (i:Int)) (aA<|.fz<|.int c) (p.map D.int) (l:=PG0) Γ 0 x0 3 Γ Γ h0 "title" TTS 3 rfl Γ Γ (n0 _ d1);have q1:=Kl TI a;obtain⟨f,m2,e2⟩:=Ht y a1 x (aA<|.fz<|.int (i:Int)) (aA<|.fz<|.int c) (p.map D.int) (l:=PG0++Gx TI a) Ψ 1 x1 3 Γ Γ h1 "year" YRS 2 rfl Γ Γ (Ur (n0 _ d2) d6);have q2:=Kl YR f;obtain⟨m,m3,e3⟩:=Ht y a1 x (aA<|.fz<|.int (i:Int)) (aA<|.fz<|.int c) (p.map D.int) (l:=PG0++Gx TI a++Gx YR f) Ψ 2 x2 5 Γ Γ h2 "hands" HDS 3 rfl Γ Γ (Ur (Ur (n0 _ d3) d7) G);have q3:=Kl HN m;obtain⟨o,m4,U⟩:=wW a1 x (aA<|.fz<|.int c) C (p.map D.int) (l:=PG0++Gx TI a++Gx YR f++Gx HN m) Ψ i x3 x4 h3 h4<|Ur (Ur (Ur (n0 _ d4) d8) Z) T;have q4:=Kl Nk o;obtain⟨r,m5,L⟩:=nN a1 x (aA<|.fz<|.int (i:Int)) (aA<|.fz<|.int c) C (by clear J C;lia) hk (p.map D.int) (l:=PG0++Gx TI a++Gx YR f++Gx HN m++Gx Nk o) Ψ B x7 h6 h7<|Ur (Ur (Ur (Ur (n0 _ d5) d9) X) Q) P;obtain⟨dd,hd,K⟩:=B8 [D.str "part",D.str "book"] u 2 rfl Γ;obtain⟨q,ek⟩:∃q:Str,dd= .str q:=by simp at hd;rcases hd with e|e<;> exact⟨_,e⟩
 apply A;subst ek;rw[O]at U L;refine⟨⟨q,a,f,m,o,r⟩,aA<|.ol<|p.map D.int,aA<|.fz<|.dK (Zr<|Wk.ks ⟨q,a,f,m,o,r⟩)<|Wk.vs ⟨q,a,f,m,o,r⟩,⟨m5,m4,m1,m2,m3⟩,?_⟩;have H:PG0++Gx TI a++Gx YR f++Gx HN m++Gx Nk o++Gx Vq r.text=Wk.fl ⟨q,a,f,m,o,r⟩:=by simp only[f9];rfl
 rw[H]at L;refine(Jd (δ':=[y,a1,x,aA<|.fz<|.int (i:Int),aA<|.fz<|.int c,aA<|.ol<|p.map D.int,x6]) ?_).trans ((Jd (δ':=[y,a1,x,aA<|.fz<|.int (i:Int),aA<|.fz<|.int c,aA<|.ol<|p.map D.int,aA<|.oK (kL PG0)<|vL PG0]) ?_).trans<|(Jd e1).trans<|(Jd e2).trans<|(Jd e3).trans<|(Jd U).trans<|(Jd L).trans ?_)
 .generalize p.map D.int=M at*;have F:Gen.Yx [.int c,.int 8]=aA (.ol M):=F;simp[F]
 .have z1:1<=PySem.sizeLine:=Zz Γ;generalize p.map D.int=M at*;simp
 .subst O;subst hS;show Cn 2 _ _ [_,_,_,_,_,_,aA<|.oK (Zr<|Wk.ks ⟨q,a,f,m,o,r⟩)<|Wk.vs ⟨q,a,f,m,o,r⟩]=_;have I:L2.atI (ws.map D.str) (i:Int)=aA (.str ws[i]):=Wh _ _ _ (by rw[c8,cf N];rfl);have hn:ws[i]∉ws.take i:=λz=>by obtain⟨j,hj,R⟩:=vv z;rw[DQ]at R;rw[om]at hj;have:=(EL nd).mp R;clear J;lia
  have pi:∀v,Y2 (Zr<|ws.take i) vs (Sum.inr ws[i]) v=(Zr<|ws.take<|i+1,vs++[v]):=λv=>by rw[Cs];unfold Y2;rw[dY hn,List.take_succ_eq_append_getElem N]
  have Y:vs.length<PySem.sizeLine:=Ya Θ;have z2:2<=PySem.sizeLine:=Zz Γ;unfold Wk.d;generalize Zr (Wk.ks ⟨q,a,f,m,o,r⟩)=WK,Wk.vs ⟨q,a,f,m,o,r⟩=WV,Zr (ws.take i)=T0,Zr (ws.take<|i+1)=T1,p.map D.int=M at*;have E:L2.atI M 5=aA (.int u):=E;have K:L2.atI [D.str "part",D.str "book"] (u % 2)=aA (.str q):=K;generalize ws.map D.str=W at*;simp[-Y2,E,K,I,pi,Y,z2]
theorem N0(n:ws.Nodup)(p:ws.length<=20)(q:∀k∈ws,Key k)(a1):∀(cs:À Int) i (wks:À Wk) x3 x4 x5 x6,wks.length=i->i+cs.length=ws.length->(∀j w,wks[j]? =aA w->dX ws j w)->
  ∃(a:À Wk) (A z l h:Á SV),a.length=ws.length/\(∀j w,a[j]? =aA w->dX ws j w)/\
   Yq (W1 2<|Yj (Zj 3)<|Yj (Zj 4)<|W0) Gen.Uj (Uy i<|cs.map D.int) [aA (.fz<|.lst<|ws.map D.str),a1,aA<|.oK (Zr<|ws.take i)<|wks.map Wk.d,x3,x4,x5,x6]=aA (.nx [aA (.fz<|.lst<|ws.map D.str),a1,aA<|.oK (Zr ws)<|a.map Wk.d,A,z,l,h])
 | [],i,wks,x3,x4,x5,x6,hl,hc,ho=>by simp at hc;refine⟨wks,x3,x4,x5,x6,Θ,ho,?_⟩;rw[kx Θ];rfl
 |c::cs,i,wks,x3,x4,x5,x6,hl,hc,ho=>by
  rw[ca]at hc;refine L2.Wv λ_ r=>?_;obtain⟨w,l,h,W,e⟩:=iG n p q a1 x5 x6 i Θ c (wks.map Wk.d) (by rw[aj];exact hl);obtain⟨a,y,x,u,s,h1,h2,o⟩:=N0 n p q a1 cs (i+1) (wks++[w]) (aA<|.fz<|.int (i:Int)) (aA<|.fz<|.int c) l h (by simp;omega) Θ (λj v f=>by
   by_cases m:j<wks.length
   .rw[ix m]at f;exact ho j v f
   .rw[jb (by clear hl;lia)]at f;have:j=i:=by have:=(ci.mp f).1;simp at this;lia
    subst this;have ev:v=w:=by
     have:j- wks.length=0:=Θ
     rw[this]at f;simp at f;exact f.symm
    rw[ev];exact W)
  apply r;refine⟨a,y,x,u,s,h1,h2,?_⟩;rw[cb]at o;exact(Yl Δ e).trans o
theorem nM(a:ws.Nodup)(c:ws.length<=20)(f:∀k∈ws,Key k)(cs:À Int)(o:cs.length=ws.length):∃wks,Shf ws wks/\Gen.Uz [.lst (ws.map D.str),.lst<|cs.map D.int]=aA (.oK (Zr ws)<|wks.map Wk.d):=by obtain⟨wks,n,m,l,j,h1,h2,e⟩:=N0 a c f (aA<|.fz<|.lst<|cs.map D.int) cs 0 [] aB aB aB aB rfl Θ (λ_ _ h=>nomatch h);refine⟨wks,⟨a,h1,c,f,h2⟩,?_⟩;have e:Yq (W1 2<|Yj (Zj 3)<|Yj (Zj 4)<|W0) Gen.Uj (Uy 0<|cs.map D.int) [aA (.fz<|.lst<|ws.map D.str),aA<|.fz<|.lst<|cs.map D.int,aA<|.oK [] [],aB,aB,aB,aB]=_:=e;rw[<-C7]at e;generalize wks.map Wk.d=WD,Zr ws=IW,ws.map D.str=W,cs.map D.int=C at*;unfold Gen.Uz Gen.Ry;simp[-Yq,e]
noncomputable abbrev Vt:List Str:=["{hands 1 0}","{hands 1 0} {year}","{hands 2 1} {year}","{hands 9 2}, {year}","{title}","{hands 9 2}: {title}","{book|title}","[{hands 9 2}, ][{year}, ]{title}","{kind|title}",""]
theorem N1:∀s∈Vt++([aa "{hands 9 2}. {title}[, in {book}], {year}"]:À Str),∃x∈Mq,x.1=s:=by intro s hs;have:s∈Mq.map (·.1):=hs;obtain⟨x,a,e⟩:=av.mp this;exact⟨x,a,e⟩
theorem Vu:∀(a:À Int) (L:À TQ),(∀x∈L,x∈Mq)->L.length+a.length<=1000->∃g:À TQ,(∀x∈g,x∈Mq)/\g.length=L.length+a.length/\
  Z7 [.own,.cap 2,.acc] 2 (Zj 0) Y1 Gen.Qg (a.map D.int) [aB,aA<|.fz<|.lst<|Vt.map D.str,aA<|.ol<|L.map dT]=aA [aB,aA<|.fz<|.lst<|Vt.map D.str,aA<|.ol<|g.map dT]
 | [],L,h,_=>⟨L,h,rfl,Δ⟩
 |m::a,L,h,hl=>by
  rw[ca]at hl;refine L2.Wv λ_ j=>?_;obtain⟨d,hd,e⟩:=B8 (Vt.map D.str) (m / 7) 10 rfl Γ;obtain⟨s,hs,rfl⟩:=av.mp hd;obtain⟨x,f,rfl⟩:=N1 s<|dr _ hs;have r:=(Iq x f).read;obtain⟨g,h1,h2,l⟩:=Vu a (L++[x]) (λy c=>by
   rcases dm.mp c with c|c
   .exact h y c
   .rw[ao.mp c];exact f) Ψ
  apply j;refine⟨g,h1,by rw[h2];simp;lia,?_⟩;refine Eq.trans ?_ l;have z:(L.map dT).length<PySem.sizeLine:=Ya Ω;rw[cg,cb,show re dT [x]=[dT x]from rfl];generalize L.map dT=LD,Vt.map D.str=TD,x.2.1=n at*;rw[Z7];unfold Gen.Qg;simp[-Z7,e,r,z]
theorem Vv:∀(a:À Str) (L:À TQ),(∀t∈a,t∈Vt)->(∀x∈L,x∈Mq)->L.length+a.length<=1000->∃g:À TQ,(∀x∈g,x∈Mq)/\g.length=L.length+a.length/\
  Z7 [.own,.acc] 1 (Zj 0) Y1 Gen.Q5 (a.map D.str) [aB,aA<|.ol<|L.map dT]=aA [aB,aA<|.ol<|g.map dT]
 | [],L,_,h,_=>⟨L,h,rfl,Δ⟩
 |s::a,L,ht,h,hl=>by
  rw[ca]at hl;obtain⟨x,f,rfl⟩:=N1 s<|dr _<|ht s ac;have r:=(Iq x f).read;obtain⟨g,h1,h2,j⟩:=Vv a (L++[x]) (λt h=>ht t<|ag _ h) (λy c=>by
   rcases dm.mp c with c|c
   .exact h y c
   .rw[ao.mp c];exact f) Ψ
  refine⟨g,h1,by rw[h2];simp;lia,?_⟩;refine Eq.trans ?_ j;have z:(L.map dT).length<PySem.sizeLine:=Ya Ω;rw[cg,cb,show re dT [x]=[dT x]from rfl];generalize L.map dT=LD,x.2.1=l at*;rw[Z7];unfold Gen.Q5;simp[-Z7,r,z]
abbrev ORD:À Str:=[HN,YR,TI,BK]
theorem MH:∀(a:À Int) (fs:À Str),(∀f∈fs,f∈ORD)->fs.length+a.length<=1000->∃YA:À Str,(∀f∈YA,f∈ORD)/\YA.length=fs.length+a.length/\
  Z7 [.own,.acc] 1 (Zj 0) Y1 Gen.Ul (a.map D.int) [aB,aA<|.ol<|fs.map D.str]=aA [aB,aA<|.ol<|YA.map D.str]
 | [],fs,h,_=>⟨fs,h,rfl,Δ⟩
 |m::a,fs,h,hl=>by
  rw[ca]at hl;refine L2.Wv λ_ j=>?_;obtain⟨d,hd,e⟩:=B8 (ORD.map D.str) m 4 rfl Γ;obtain⟨s,hs,rfl⟩:=av.mp hd;obtain⟨YA,h1,h2,n⟩:=MH a (fs++[s]) (λy c=>by
   rcases dm.mp c with c|c
   .exact h y c
   .rw[ao.mp c];exact hs) Ψ
  apply j;refine⟨YA,h1,by rw[h2];simp;lia,?_⟩;refine Eq.trans ?_ n;have z:(fs.map D.str).length<PySem.sizeLine:=Ya (by rw[aj];(clear h2;lia));have l:4<=PySem.sizeLine:=Zz Γ;have e:L2.atI [D.str "hands",D.str "year",D.str "title",D.str "book"] (m % 4)=aA (.str s):=e;rw[cg,cb,show re D.str [s]=[D.str s]from rfl];generalize fs.map D.str=FD at*;rw[Z7];unfold Gen.Ul;simp[-Z7,e,z,l]
theorem gE(a):∃g:À Str,L2.A4 ((∀t∈g,t∈Vt)) (1<=g.length) (g.length<=6)<|Dh (.lst<|Vt.map D.str) (aA 1) (aA<|2+a % 4)=aA (.ol<|g.map D.str):=by
 have h1:=kc a (show(4:Int)≠0 by decide);have h2:=g7 a (show(0:Int)<4 by decide);have:a % 4=0\/a % 4=1\/a % 4=2\/a % 4=3:=by clear h1 h2;lia
 rcases this with e|e|e|e<;> rw[e]
 .exact⟨(Vt.drop 1).take 1,λt h=>q5<|qy h,Γ,Γ,rfl⟩
 .exact⟨(Vt.drop 1).take 2,λt h=>q5<|qy h,Γ,Γ,rfl⟩
 .exact⟨(Vt.drop 1).take 3,λt h=>q5<|qy h,Γ,Γ,rfl⟩
 .exact⟨(Vt.drop 1).take 4,λt h=>q5<|qy h,Γ,Γ,rfl⟩
abbrev stK:À L2.Key:=Zr ["ladder","row","order","many"]
abbrev Dk(L:À TQ)(x0:TQ)(fs:À Str)(m:Nat):À D:=[.lst (L.map dT),dT x0,.lst<|fs.map D.str,.int (m:Int)]
structure Sty(L:À TQ)(x0:TQ)(fs:À Str)(m:Nat):Prop where
 l:∀x∈L,x∈Mq
 l1:1<=L.length
 l6:L.length<=6
 x:x0∈Mq
 f:∀f∈fs,f∈ORD
 f3:fs.length<=3
 m1:1<=m
 m3:m<=3
theorem nL(a b):∃L x0 fs m,Sty L x0 fs m/\Gen.U1 [.int a,.int b]=aA (.oK stK<|Dk L x0 fs m):=by
 have a2:=g7 a (show(0:Int)<6 by decide);have b2:=g7 b (show(0:Int)<4 by decide);have c2:=g7 (b / 12) (show(0:Int)<3 by decide);refine L2.Wv λ_ F=>?_;obtain⟨n,hn⟩:∃n:Nat,1+a % 6=(n:Int):=⟨(1+a % 6).toNat,Θ⟩
 obtain⟨M,w⟩:∃n:Nat,b % 4=(n:Int):=⟨(b % 4).toNat,Θ⟩
 obtain⟨m,U⟩:∃m:Nat,1+b / 12 % 3=(m:Int):=⟨(1+b / 12 % 3).toNat,Θ⟩
 obtain⟨l,s,_,ml⟩:=O8 a n Θ;obtain⟨c,p,_,N⟩:=O8 b M Θ;obtain⟨B,J,p2,j⟩:=Vu l [] (λ_ h=>nomatch h) Ψ;obtain⟨v,T,t2,Q,ec⟩:=gE a;obtain⟨q,g,Z,A⟩:=Vv v [] T (λ_ h=>nomatch h) Ψ;obtain⟨fs,f1,Y,y⟩:=MH c [] (λ_ h=>nomatch h) Ψ;simp only[pj,oi]at p2 Z Y;have P:∃x∈Mq,L2.atI [D.str "{hands 9 2}. {title}[, in {book}], {year}",D.str "{title}",D.str ""] (b / 4 % 3)=aA (.str x.1):=by
  obtain⟨d,hd,e⟩:=B8 [D.str "{hands 9 2}. {title}[, in {book}], {year}",D.str "{title}",D.str ""] (b / 4) 3 rfl Γ;have:∃x∈Mq,d= .str x.1:=by
   simp only[az,w5,or_false]at hd;rcases hd with z|z|z
   .obtain⟨x,f,ex⟩:=N1 _<|di _ ac;exact⟨x,f,by rw[ex];exact z⟩
   .obtain⟨x,f,ex⟩:=N1 (aa "{title}")<|dr _ Ξ;exact⟨x,f,by rw[ex];exact z⟩
   .obtain⟨x,f,ex⟩:=N1 (aa "")<|dr _ Ξ;exact⟨x,f,by rw[ex];exact z⟩
  obtain⟨x,f,rfl⟩:=this;exact⟨x,f,e⟩
 obtain⟨x0,o,ex⟩:=P;apply F;have rd:=(Iq x0 o).read;have H:5<=PySem.sizeLine:=Zz Γ;have u:10<=PySem.sizeLine:=Zz Γ;have K:3<=PySem.sizeLine:=Zz Γ;have fin:∀(L:À TQ),(∀x∈L,x∈Mq)->1<=L.length->L.length<=6->(∃r,(r=aA (.ol<|L.map dT)\/r=aA (.fz<|.lst<|L.map dT))/\
   ∀R:FS,Zo (Z1 3<|Y3 [.own,.cap 2,.acc] 2 (Y9<|Z0 2 Gen.Yx<|Zd (Za 0)<|Zd (Zf Yu (Zb<|.int 1)<|Zf We (Za 0)<|Zb<|.int 6)<|Zh) (Zj 0) (Y1) Gen.Qg) (Zo (Wo (Zq<|Zf Cz (Zf We (Zf Qc (Za 0)<|Zb<|.int 6)<|Zb<|.int 2)<|Zb<|.int 0) (Z1 3<|Y3 [.own,.acc] 1 (Y9<|slF Dh (Za 2) (Q4<|Zb<|.int 1)<|Q4<|Zf Yu (Zb<|.int 2)<|Zf We (Za 0)<|Zb<|.int 4) (Zj 0) (Y1) Gen.Q5)<|Yb) R) [aA (.fz<|.int a),aA<|.fz<|.int b,aA<|.ol<|Vt.map D.str,aB,aB,aB]=R [aA (.fz<|.int a),aA<|.fz<|.int b,aA<|.fz<|.lst<|Vt.map D.str,r,aB,aB])->
   ∃L x0 fs m,Sty L x0 fs m/\Gen.U1 [.int a,.int b]=aA (.oK stK<|Dk L x0 fs m):=λL I G i ⟨r,O,W⟩=>by
  refine⟨L,x0,fs,m,⟨I,G,i,o,f1,Θ,Θ,Θ⟩,?_⟩;have X:∀R:FS,Zo (Z1 2<|Qa<|W7 ["{hands 1 0}","{hands 1 0} {year}","{hands 2 1} {year}","{hands 9 2}, {year}","{title}"]<|Zp) (Zo (Z1 2<|Zf Yu (Za 2)<|Qa<|W7 ["{hands 9 2}: {title}","{book|title}","[{hands 9 2}, ][{year}, ]{title}","{kind|title}",""]<|Zp) R) [aA (.fz<|.int a),aA (.fz<|.int b),aB,aB,aB,aB]=R [aA (.fz<|.int a),aA<|.fz<|.int b,aA<|.ol<|Vt.map D.str,aB,aB,aB]:=λR=>by simp[H,u]
  show(match Zo _ _ [aA (.fz<|.int a),aA<|.fz<|.int b,aB,aB,aB,aB]with|some (.rt sv)=>aA sv|some (.nx δ)=>aA (SV.fz .non)|x=>aB)=_;rw[X,W];rw[<-w]at p;have y:Z7 [.own,.acc] 1 (Zj 0) Y1 Gen.Ul (c.map D.int) [aB,aA<|.ol []]=_:=y;unfold Dk;unfold dT at*;generalize L.map (λx:TQ=>D.tup x.2.1)=LD at*;generalize x0.2.1=X0,fs.map D.str=FD,c.map D.int=MD,Vt.map D.str=E at*;rcases O with rfl|rfl<;> simp[-Z7,p,y,ex,rd,U,K]
 by_cases C:a / 6 % 2=0
 .refine fin q g (by clear Q;lia) Θ ⟨_,.inl rfl,λR=>?_⟩;rw[<-hn]at s;have j:Z7 [.own,.cap 2,.acc] 2 (Zj 0) Y1 Gen.Qg (l.map D.int) [aB,aA<|.fz<|.lst<|Vt.map D.str,aA<|.ol []]=_:=j;have A:Z7 [.own,.acc] 1 (Zj 0) Y1 Gen.Q5 (v.map D.str) [aB,aA<|.ol []]=_:=A;generalize B.map dT=LD1,q.map dT=LD2,l.map D.int=MD,v.map D.str=TSD,Vt.map D.str=E at*;simp[-Z7,-Dh,s,j,A,ec,C]
 .refine fin B J Θ Θ ⟨_,.inl rfl,λR=>?_⟩;rw[<-hn]at s;have j:Z7 [.own,.cap 2,.acc] 2 (Zj 0) Y1 Gen.Qg (l.map D.int) [aB,aA<|.fz<|.lst<|Vt.map D.str,aA<|.ol []]=_:=j;generalize B.map dT=LD1,l.map D.int=MD,Vt.map D.str=E at*;simp[-Z7,-Dh,s,j,C]
inductive Prt where
 |sg (s:Str)|pt (p:Pnt)
noncomputable def Pnt.e(p:Pnt):D:=match p.p with
 |none=>.non
 |some q=>.str q
noncomputable def Prt.ld:Prt->D
 | .sg s=>.str s
 | .pt p=>.tup [.str p.k,p.e]
noncomputable def Prt.pd:Prt->D
 | .sg s=>.str s
 | .pt p=>p.d
noncomputable def Prt.t:Prt->Str
 | .sg s=>s
 | .pt p=>p.t
noncomputable def Prt.key:Prt->Option Str
 | .sg _=>aB
 | .pt p=>aA p.k
theorem Hu(p:Pnt):p.d= .tup [.str "point",.str p.k,p.e]:=by unfold Pnt.d Pnt.e;cases p.p<;> rfl
noncomputable def rnQ(r:Str):À Prt:=if r=dy then[]else[.sg r]
def itQ(x:Cf):À Prt:=.pt x.1::rnQ x.2
def Iu(a:Str)(xs:À Cf):À Prt:=rnQ a++xs.flatMap itQ
theorem OL(r):(rnQ r).map Prt.pd=rn r:=by unfold rnQ rn;split<;> rfl
theorem PF(r):Ux ((rnQ r).map Prt.t)=r:=by
 unfold rnQ;split
 .rename_i h;rw[h];rfl
 .exact ju r
theorem MG(r0)(xs:À Cf):(Iu r0 xs).map Prt.pd=Jv r0 xs:=by
 unfold Iu Jv;rw[cb,OL];congr 1;induction xs with
 |nil=>rfl
 |cons x xs a=>rw[qh,qh,cb,a];unfold itQ it;rw[cg,OL];rfl
theorem wV(r0)(xs:À Cf):Ux ((Iu r0 xs).map Prt.t)=Qw r0 xs:=by
 unfold Iu Qw;rw[cb,X9,PF,S8];congr 1;induction xs with
 |nil=>rfl
 |cons x xs a=>rw[qh,cb,X9,a];show(x.1.t++Ux ((rnQ x.2).map Prt.t))++_=(LTS++Ph x)++_;rw[PF];congr 1;unfold Pnt.t Ph;simp only[i4]
structure FormAt(ws:À Str)(P:À Prt)(n:Nat)(r0:Str)(xs:À Cf):Prop where
 r:Rn r0
 x:∀x∈xs,Rn x.2/\x.1.k∈ws
 e:P=Iu r0 xs
 n:xs.length<=n
def G8(ws:À Str)(P:À Prt)(n:Nat):Prop:=∃a xs,FormAt ws P n a xs
theorem Ot:rnQ dy=[]:=by unfold rnQ;rw[dZ rfl]
theorem Es(h:w≠dy):rnQ w=[.sg w]:=by unfold rnQ;rw[dY h]
theorem kR(h:G8 ws P n):(P=[]\/∃Q p,P=Q++[.pt p])/\(∀w,Rn w->w≠dy->G8 ws (P++[.sg w]) n)\/∃Q r,P=Q++[.sg r]:=by
 obtain⟨f,xs,h1,h2,rfl,l⟩:=h;rcases nr xs with a|⟨ys,x,a⟩
 .subst a;by_cases h0:f=dy
  .subst h0;refine .inl ⟨.inl (by unfold Iu;rw[Ot];rfl),λw j c=>⟨w,[],j,(λ_ h=>nomatch h),?_,gr _⟩⟩;unfold Iu;rw[Ot,Es c];rfl
  .exact .inr ⟨[],f,by unfold Iu;rw[Es h0];rfl⟩
 .rw[nu]at a;subst a;obtain⟨p,r⟩:=x;by_cases h0:r=dy
  .subst h0;refine .inl ⟨.inr ⟨rnQ f++ys.flatMap itQ,p,?_⟩,λw j c=>⟨f,ys++[(p,w)],h1,λx a=>?_,?_,by rw[ax,dv]at l⊢;omega⟩⟩
   .unfold Iu;simp[itQ,Ot]
   .rcases dm.mp a with a|a
    .exact h2 x (dr _ a)
    .rw[ao.mp a];exact⟨j,(h2 (p,dy)<|di _ ac).2⟩
   .unfold Iu;simp[itQ,Ot,Es c]
  .refine .inr ⟨rnQ f++ys.flatMap itQ++[.pt p],r,?_⟩;unfold Iu;simp[itQ,Es h0]
theorem Cy(h:G8 ws P n):P.length<=2*n+1:=by obtain⟨a,xs,h1,h2,rfl,c⟩:=h;have e:=congrArg p9<|MG a xs;rw[aj]at e;have:=Ve a xs;lia
abbrev SG3:À Str:=[" so: ","; and\n","(it) "]
theorem OK:∀s∈SG3,Rn s/\s≠Str.empty:=by intro s hs;simp at hs;rcases hs with e|e|e<;> subst e<;> exact⟨⟨by unfold Of;decide+kernel,Ξ⟩,Ξ⟩
theorem H_:∀q∈([aa "12-14",aa " x"]:À Str),Plc q:=by intro s hs;simp at hs;rcases hs with e|e<;> subst e<;> exact⟨by unfold Of;decide+kernel,Ξ,Ξ⟩
theorem kQ {ws:À Str} (hk:∀ k ∈ ws,Key k) (hw:ws.length<=20) (h0:0 < ws.length) (a1:Á SV) (P:À Prt) (n:Nat) (hP:G8 ws P n) (hn:n<=100) (k:Str) (hk0:k ∈ ws) (x:Int) :
    L2.E2 λi g=>L2.A3 (G8 ws i<|n + 1) (g ∈ ws)<|Gen.Q6 [aA (.fz<|.lst<|ws.map D.str),a1,aA<|.ol<|P.map Prt.ld,aA<|.fz<|.str k,aA<|.fz<|.int x]=aA (.nx [aA (.fz<|.lst<|ws.map D.str),a1,aA<|.ol<|i.map Prt.ld,aA<|.fz<|.str g,aA<|.fz<|.int x]):= by
  have pl:=Cy hP;have j:(P.map Prt.ld).length < PySem.sizeLine:=Ya (by rw [aj]; lia);have B:(P.map Prt.ld).length<=PySem.sizeLine:=qg j;have y:3<=PySem.sizeLine:=Zz Γ;have z2:2<=PySem.sizeLine:=Zz Γ;have T:(ws.map D.str).length=ws.length:=aj ..
  have K : ∃ (p : Pnt), p.k ∈ ws /\ Zo (Wo (Zq<|Zf P7 (Zf We (Zf Qc (Za 4)<|Zb<|.int 12)<|Zb<|.int 3)<|Zb<|.int 0) (Z1 3<|Zf Yn (Za 0)<|Zf We (Zf Qc (Za 4)<|Zb<|.int 36)<|Yh Qk<|Zd (Za 0) Zh)<|Yb) (B3 2<|tupF<|Zl (Za 3)<|Zl (Zf Yn (Qa<|Zl (Zb .non)<|W7 ["12-14", " x"]<|Zp)<|Zf We (Zf Qc (Za 4)<|Zb<|.int 700)<|Zb<|.int 3)<|Zp) [aA (.fz<|.lst<|ws.map D.str), a1, aA (.ol<|P.map Prt.ld), aA (.fz<|.str k), aA (.fz<|.int x)] =
      aA (.nx [aA (.fz<|.lst<|ws.map D.str),a1,aA<|.ol<|P.map Prt.ld ++ [.tup [.str p.k,p.e]],aA<|.fz<|.str p.k,aA<|.fz<|.int x]):=by
    refine L2.Wv λ_ J => ?_;obtain ⟨d, hd, e⟩ := B8 [D.non, D.str "12-14", D.str " x"] (x / 700) 3 rfl Γ;have A : ∃ q : Á Str, (∀ s, q = aA s -> Plc s) /\ d = (match q with | none => D.non | some s => D.str s) := by
      simp only [az,w5,or_false] at hd;rcases hd with z | z | z
      · exact ⟨aB,(λ_ h=>nomatch h),z⟩
      · exact ⟨aA "12-14", λs h => by cases h; exact H_ _ ac, z⟩
      · exact ⟨aA " x", λs h => by cases h; exact H_ _<|ag _ ac, z⟩
    obtain ⟨q,A,L⟩:=A;apply J;by_cases Z:0 < x / 12 % 3
    · obtain ⟨d,hd,e'⟩:=B8 (ws.map D.str) (x / 36) ws.length (by rw [aj]) (by clear T hw; lia)
      obtain ⟨g,w,rfl⟩:=av.mp hd;refine ⟨⟨g,q,hk g w,A⟩,w,?_⟩;unfold Pnt.e;dsimp only;rw [<- L];generalize P.map Prt.ld=PL,ws.map D.str=W at *;simp [Z,e,e',h0,T,j,z2,y]
    · refine ⟨⟨k,q,hk k hk0,A⟩,hk0,?_⟩
      unfold Pnt.e;dsimp only;rw [<- L];generalize P.map Prt.ld=PL,ws.map D.str=W at *;simp [Z,e,j,z2,y]
  obtain ⟨p,X,G⟩:=K;have o:∃ i g,G8 ws i (n + 1)/\g ∈ ws/\aA (Fl.nx [aA (.fz<|.lst<|ws.map D.str),a1,aA<|.ol<|P.map Prt.ld ++ [.tup [.str p.k,p.e]],aA<|.fz<|.str p.k,aA<|.fz<|.int x])=aA (Fl.nx [aA (.fz<|.lst<|ws.map D.str),a1,aA<|.ol<|i.map Prt.ld,aA<|.fz<|.str g,aA<|.fz<|.int x]) :=
    ⟨P ++ [.pt p],p.k,(by
      obtain ⟨O,xs,h1,h2,rfl,m⟩:=hP;refine ⟨O,xs ++ [(p,dy)],h1,λx u=>?_,?_,by rw [ax,dv]; lia⟩
      · rcases dm.mp u with u | u
        · exact h2 x u
        · rw [ao.mp u]; exact ⟨UO,X⟩
      · unfold Iu
        rw [List.flatMap_append,f9];simp [itQ,Ot]),X,by rw [cb]; rfl⟩
  unfold Gen.Q6;have M:∀ {Q:À Prt},G8 ws Q n->G8 ws Q (n + 1):=λ⟨r,xs,a,b,c,d⟩=>⟨r,xs,a,b,c,me d⟩
  rcases kR hP with ⟨Y,hs⟩ | ⟨Q,r,hQ⟩
  · by_cases m:x % 4=0
    · obtain ⟨d,hd,e⟩:=B8 (SG3.map D.str) (x / 4) 3 rfl Γ
      obtain ⟨s, v, rfl⟩ := av.mp hd;refine ⟨P ++ [.sg s], k, M (hs s (OK s v).1 (OK s v).2), hk0, ?_⟩;rw [cb];have e : L2.atI [D.str " so: ", D.str "; and\n", D.str "(it) "] (x / 4 % 3) = aA (.str s) := e;rcases Y with rfl | ⟨Q, f, rfl⟩
      · generalize ws.map D.str = W at *
        have I:0 < PySem.sizeLine:=Ya Γ;simp [m,e,y,I,Prt.ld]
      · rw [cb] at j B ⊢
        have l:=Ke (Q.map Prt.ld)<|Prt.ld<|.pt f;have l:L2.atI (Q.map Prt.ld ++ [.tup [.str f.k,f.e]]) (-1)=aA (.tup [.str f.k,f.e]):=l;show _=aA (Fl.nx [_,_,aA<|SV.ol<|Q.map Prt.ld ++ [.tup [.str f.k,f.e]] ++ [.str s],_,_]);have j:(Q.map Prt.ld ++ [D.tup [.str f.k,f.e]]).length < PySem.sizeLine:=j;have C:¬ (Q.map Prt.ld ++ [D.tup [.str f.k,f.e]]).length=0:=Δ
        have N:re Prt.ld [Prt.pt f]=[.tup [.str f.k,f.e]]:=rfl;rw [N];generalize Q.map Prt.ld ++ [D.tup [.str f.k,f.e]]=QL,ws.map D.str=W at *;have U:¬ ((QL.length:Int)=0):=Θ
        simp [m,e,l,C,y,j]
    · obtain ⟨i,g,H,F,E⟩:=o
      refine ⟨i,g,H,F,Eq.trans ?_ E⟩;refine Eq.trans ?_ G;generalize P.map Prt.ld=PL,ws.map D.str=W at *;generalize (Zo (Wo (Zq<|Zf P7 (Zf We (Zf Qc (Za 4)<|Zb<|.int 12)<|Zb<|.int 3)<|Zb<|.int 0) _ _) _:FS)=R;simp [m]
  · obtain ⟨i,g,H,F,E⟩:=o
    refine ⟨i,g,H,F,Eq.trans ?_ E⟩;refine Eq.trans ?_ G;have l:=Ke (Q.map Prt.ld)<|Prt.ld<|.sg r;have l:L2.atI (P.map Prt.ld) (-1)=aA (.str r):=by rw [hQ,cb]; exact l
    have C:¬ (P.map Prt.ld).length=0:=by rw [hQ]; simp
    generalize P.map Prt.ld=PL,ws.map D.str=W at *;generalize (Zo (Wo (Zq<|Zf P7 (Zf We (Zf Qc (Za 4)<|Zb<|.int 12)<|Zb<|.int 3)<|Zb<|.int 0) _ _) _:FS)=R;have U:¬ ((PL.length:Int)=0):=Θ
    by_cases m:x % 4=0
    · simp [m,l,C]
    · simp [m]
theorem N2(f:∀k∈ws,Key k)(c:ws.length<=20)(h0:0<ws.length)(a1):∀(a:À Int) P n k x4,G8 ws P n->n+a.length<=100->k∈ws->
  L2.E3 λi G g=>G8 ws i (n+a.length)/\Yq (Zj 4) Gen.Q6 (a.map D.int) [aA (.fz<|.lst<|ws.map D.str),a1,aA<|.ol<|P.map Prt.ld,aA<|.fz<|.str k,x4]=aA (.nx [aA (.fz<|.lst<|ws.map D.str),a1,aA<|.ol<|i.map Prt.ld,aA<|.fz<|.str G,g])
 | [],P,n,k,x4,h,_,hk0=>⟨P,k,x4,h,rfl⟩
 |m::a,P,n,k,x4,h,hl,hk0=>by rw[ca]at hl;refine L2.Wv λ_ j=>?_;obtain⟨u,k1,p,o,r⟩:=kQ f c h0 a1 P n h Θ k hk0 m;obtain⟨s,k2,g,l,q⟩:=N2 f c h0 a1 a u (n+1) k1 (aA<|.fz<|.int m) p Θ o;apply j;refine⟨s,k2,g,by rw[ca,show n+(a.length+1)=n+1+a.length by lia];exact l,?_⟩;exact(Yl Δ r).trans q
theorem nK(p:∀k∈ws,Key k)(o:ws.length<=20)(h0:0<ws.length)(c):∃P,G8 ws P 8/\Gen.Bq [.lst (ws.map D.str),.int c]=aA (.ol<|P.map Prt.ld):=by
 have s:=g7 c (show(0:Int)<9 by decide);obtain⟨n,hn⟩:∃n:Nat,c % 9=(n:Int):=⟨(c % 9).toNat,Θ⟩
 obtain⟨j,m,_,u⟩:=O8 c n Θ;rw[<-hn]at m;obtain⟨P,v,q,f,e⟩:=N2 p o h0 (aA<|.fz<|.int c) j [] 0 ws[0] aB ⟨dy,[],UO,(λ_ h=>nomatch h),by unfold Iu;rw[Ot];rfl,cj _⟩ Θ (oq h0);refine⟨P,?_,?_⟩
 .obtain⟨r,xs,a,b,c,d⟩:=f;exact⟨r,xs,a,b,c,Θ⟩
 have l:L2.atI (ws.map D.str) 0=aA (.str ws[0]):=Wh _ 0 _ (by rw[c8,cf h0];rfl);have e:Yq (Zj 4) Gen.Q6 (j.map D.int) [aA (.fz<|.lst<|ws.map D.str),aA<|.fz<|.int c,aA<|.ol [],aA<|.fz<|.str ws[0],aB]=_:=e;generalize P.map Prt.ld=PL,ws.map D.str=W,j.map D.int=M at*;unfold Gen.Bq Gen.R1;simp[-Yq,m,e,l]
theorem g9(p:Pnt):p.t.length<=91:=by
 have:=p.b_len;have c:LTS.length=1:=Ξ
 have a:GTS.length=1:=Ξ
 unfold Pnt.t;rw[Z2,Z2,c,a];lia
theorem MF(h:Rn r):∀x∈rnQ r,x.t.length<=1000:=λx a=>by
 unfold rnQ at a;split at a
 .exact nomatch a
 .rw[ao.mp a];exact h.len
theorem U_(h:G8 ws P n):∀x∈P,x.t.length<=1000:=λx a=>by
 obtain⟨f,xs,h1,h2,rfl,j⟩:=h;rcases dm.mp a with a|a
 .exact MF h1 x a
 .obtain⟨y,c,a⟩:=uq.mp a;rcases az.mp a with e|a
  .rw[e];have:=g9 y.1;show y.1.t.length<=1000;lia
  .exact MF (h2 y c).1 x a
theorem Vw(a0):∀(L:À Prt) acc x2,(∀x∈L,x.t.length<=1000)->acc.length+L.length*1000<=1000000->
  ∃g,Yq (Zj 2) Gen.Gu (L.map Prt.ld) [a0,aA<|.fz<|.str acc,x2]=aA (.nx [a0,aA<|.fz<|.str<|acc++Ux (L.map Prt.t),g])
 | [],acc,x2,_,_=>⟨x2,by rw[show Ux (([]:À Prt).map Prt.t)=dy from rfl,ju];rfl⟩
 |x::L,acc,x2,h,hl=>by
  rw[ca]at hl;have w:=h x ac;have f:(acc++x.t).length=acc.length+x.t.length:=Z2 _ _;obtain⟨g,u⟩:=Vw a0 L (acc++x.t) (aA<|.fz x.ld) (λy v=>h y<|ag _ v) Θ;refine⟨g,?_⟩;rw[cg,cg,show Ux (x.t::L.map Prt.t)=x.t++Ux (L.map Prt.t)from rfl,<-i4];refine(Yl (δ1:=[a0,aA<|.fz<|.str acc,aA<|.fz x.ld]) Δ ?_).trans u;unfold Gen.Gu;cases x with
  |sg s=>have z:acc.length+s.length<=PySem.sizeLine:=Zz (by have:s.length<=1000:=w;(clear f;lia));show _=aA (Fl.nx [a0,aA<|SV.fz<|.str<|acc++s,aA<|SV.fz<|.str s]);simp[Prt.ld,z]
  |pt p=>
   have B:=p.hk.most;have F:(aa "<").length=1:=Ξ
   have E:(aa ">").length=1:=Ξ
   have C:(aa " ").length=1:=Ξ
   show _=aA (Fl.nx [a0,aA<|SV.fz<|.str<|acc++p.t,aA<|SV.fz<|.tup [.str p.k,p.e]]);have r:L2.atI [D.str p.k,p.e] 0=aA (.str p.k):=rfl;have i1:L2.atI [D.str p.k,p.e] 1=aA p.e:=rfl;have z2:(acc++aa "<").length+p.k.length<=PySem.sizeLine:=Zz (by rw[Z2];(clear f;lia));have o:acc.length+(aa "<").length<=PySem.sizeLine:=pfx z2;cases a:p.p with
   |none=>
    have c:p.e= .non:=by unfold Pnt.e;rw[a]
    have l:acc++p.t=acc++aa "<"++p.k++aa ">":=by unfold Pnt.t Pnt.b;rw[a];simp only[i4]
    have j:(acc++aa "<"++p.k).length+(aa ">").length<=PySem.sizeLine:=Zz (by rw[Z2,Z2];(clear f;lia));rw[l];rw[c]at r i1;simp[Prt.ld,c,o,z2,j]
   |some q=>
    have A:=(p.hp q a).most;have c:p.e= .str q:=by unfold Pnt.e;rw[a]
    have l:acc++p.t=acc++aa "<"++p.k++aa " "++q++aa ">":=by unfold Pnt.t Pnt.b;rw[a];simp only[i4]
    have m:(acc++aa "<"++p.k++aa " "++q).length+(aa ">").length<=PySem.sizeLine:=Zz (by rw[Z2,Z2,Z2,Z2];(clear f;lia));have n:(acc++aa "<"++p.k++aa " ").length+q.length<=PySem.sizeLine:=pfx m;have j:(acc++aa "<"++p.k).length+(aa " ").length<=PySem.sizeLine:=pfx n;rw[l];rw[c]at r i1;simp[Prt.ld,c,o,z2,j,n,m]
theorem rX(h:G8 ws P 8):Gen.Gv [.lst (P.map Prt.ld)]=aA (.fz<|.str<|Ux<|P.map Prt.t):=by have c:=Cy h;have c0:(aa "").length=0:=rfl;obtain⟨a,e⟩:=Vw (aA<|.fz<|.lst<|P.map Prt.ld) P (aa "") aB (U_ h) (by rw[c0];lia);rw[show aa ""++Ux (P.map Prt.t)=Ux (P.map Prt.t)from ww _]at e;generalize Ux (P.map Prt.t)=T,P.map Prt.ld=f at*;unfold Gen.Gv Gen.Tv;simp[-Yq,e]
theorem rW(h:G8 ws P 8):Gen.W5 [.str (Ux<|P.map Prt.t)]=aA (.v<|.ol<|P.map Prt.pd):=by obtain⟨a,xs,h1,h2,rfl,f⟩:=h;rw[wV,MG];exact K1 a xs h1 (λx c=>(h2 x c).1) Θ
noncomputable def bsL(place:Nat)(t:Str):Nat->List (List Str)->List Bool
 |_,[]=>[]
 |i,r::rs=>if i=place then bsL place t (i+1) rs else decide (t∈r)::bsL place t (i+1) rs
theorem OJ(place t):∀g i,(bsL place t i g).contains aC=(Qx place t i g).isSome
 | [],_=>rfl
 |r::g,i=>by
  have c:=OJ place t g<|i+1;unfold bsL Qx;by_cases h:i=place
  .rw[dZ h,dY<|λz=>z.1 h];exact c
  .rw[dY h];by_cases a:t∈r
   .rw[dZ ⟨h,a⟩,d_ a];simp
   .rw[dY<|λz=>a z.2,d0 a,DB];simpa using c
theorem wU(bs:À Bool):Pb (.bl aC) (bs.map D.bl)=bs.contains aC:=by
 unfold Pb;induction bs with
 |nil=>rfl
 |cons x r a=>rw[cg,o8,a,DB];cases x<;> rfl
theorem nJ(bs:À Bool):(bs.map D.bl).all D.isFlat=aC:=by rw[ky];simp
theorem Hv(place:Nat)(t):∀n s zs,s+n=rows.length->zs.length+n<=1000->
  Z7 [.own,.cap 2,.cap 0,.cap 1,.acc] 4 (Zj 0) Gen.Ju Gen.On (Cr s n) [aB,aA<|.fz<|.str t,aA<|.fz<|Qe rows,aA<|.fz<|.int (place:Int),aA<|.ol<|zs.map D.bl]=
   aA [aB,aA<|.fz<|.str t,aA<|.fz<|Qe rows,aA<|.fz<|.int (place:Int),aA<|.ol<|(zs++bsL place t s (rows.drop s)).map D.bl]
 |0,s,zs,h,_=>by rw[uy Θ];simp[Cr,bsL]
 |n+1,s,zs,h,hz=>by
  have hs:s<rows.length:=Θ
  rw[ic hs];have m:L2.atI (rows.map Bx) (s:Int)=aA (Bx rows[s]):=Wh _ _ _ (by rw[c8,cf hs];rfl);have c:=X7 t rows[s];have l:(zs.map D.bl).length<PySem.sizeLine:=Ya Ω;show Z7 _ _ _ _ _ (.int (s:Int)::Cr (s+1) n) _=_;unfold bsL;by_cases j:s=place
  .rw[dZ j];have a:=Hv (rows:=rows) place t n (s+1) zs Θ (by clear h;lia);refine Eq.trans ?_ a;generalize Cr (s+1) n=NS,zs.map D.bl=o at*
   conv=>lhs;rw[Z7]
   unfold Gen.Ju;simp[-Z7,j]
  .rw[dY j];have a:=Hv (rows:=rows) place t n (s+1) (zs++[decide (t∈rows[s])]) Θ Ψ;rw[f9]at a;refine Eq.trans ?_ a;rw[cb];have f:¬(s:Int)=(place:Int):=by clear h;lia
   generalize Cr (s+1) n=NS,zs.map D.bl=o at*
   conv=>lhs;rw[Z7]
   unfold Gen.Ju Gen.On;simp[-Z7,-ky,f,m,c,l]
def N3(place:Nat)(rows:List<|List Str):List Str->Option Str
 | []=>aB
 |t::ts=>if(Qx place t 0 rows).isSome=aC then N3 place rows ts else aA t
theorem JM(place rows):∀i g r,r=g++i->N3 place rows i=(Jx place rows g.length i).map λk=>r.getD k ""
 | [],g,r,e=>rfl
 |t::i,g,r,e=>by
  have a:=JM place rows i (g++[t]) r (by rw[e];simp);unfold N3 Jx;cases h:Qx place t 0 rows with
  |none=>
   have:r.getD g.length ""=t:=by rw[e];simp
   show aA t=aA (r.getD g.length "");rw[this]
  |some x=>simpa using a
noncomputable def txD:Option Str->D
 |none=>.non
 |some t=>.str t
theorem N4{rows:À (À Str)}(s:rows.length<=20)(place:Nat):∀(f:À Str) (j:Á SV),
  match N3 place rows f with
  |some t=>Yq (Zj 2) Gen.Qs (f.map D.str) [aA (.fz<|Qe rows),aA<|.fz<|.int (place:Int),j]=aA (.rt<|.fz<|.str t)
  |none=>∃δ,Yq (Zj 2) Gen.Qs (f.map D.str) [aA (.fz<|Qe rows),aA<|.fz<|.int (place:Int),j]=aA (.nx δ)
 | [],j=>⟨_,rfl⟩
 |t::f,j=>by
  have l:=N4 s place f<|aA<|.fz<|.str t;have c:=Hv (rows:=rows) place t rows.length 0 [] Θ Ψ;rw[f8,oh]at c;have u:=OJ place t rows 0;have a:=wU<|bsL place t 0 rows;have fb:=nJ<|bsL place t 0 rows;rw[u]at a;have g1:Dy (rows.length:Int):=Ro Θ;have p:((rows.length:Int)).toNat=rows.length:=by rfl
  have m:(rows.map Bx).length=rows.length:=aj ..;have run:(Zj 2).run (.str t) [aA (.fz<|Qe rows),aA<|.fz<|.int (place:Int),j]=aA [aA (.fz<|Qe rows),aA<|.fz<|.int (place:Int),aA<|.fz<|.str t]:=Δ
  have c:Z7 [.own,.cap 2,.cap 0,.cap 1,.acc] 4 (Zj 0) Gen.Ju Gen.On (Cr 0 rows.length) [aB,aA<|.fz<|.str t,aA<|.fz<|Qe rows,aA<|.fz<|.int (place:Int),aA<|.ol []]=_:=c;unfold N3;rw[cg];generalize (bsL place t 0 rows).map D.bl=r at*;unfold Qe at*;generalize rows.map Bx=q at*;cases h:Qx place t 0 rows with
  |none=>rw[h]at a;have a:Pb (.bl aC) r=aE:=a;rw[dY Δ];refine Kd run ?_;unfold Gen.Qs;simp[-Z7,-ky,-gi,g1,p,Jk,c,a,fb,m]
  |some z=>
   rw[h]at a;have a:Pb (.bl aC) r=aC:=a;have n:Gen.Qs [aA (.fz<|.lst q),aA<|.fz<|.int (place:Int),aA<|.fz<|.str t]=aA (.nx [aA (.fz<|.lst q),aA<|.fz<|.int (place:Int),aA<|.fz<|.str t]):=by unfold Gen.Qs;simp[-Z7,-ky,-gi,g1,p,Jk,c,a,fb,m]
   rw[dZ Δ];generalize N3 place rows f=o at l⊢;cases o with
   |none=>obtain⟨δ,e⟩:=l;exact⟨δ,(Yl run n).trans e⟩
   |some k=>exact(Yl run n).trans l
theorem nI{place:Nat}(h:rows.length<=20)(f:rows[place]? =aA r):Gen.Ue [Qe rows,.int (place:Int)]=aA (.fz<|txD<|(Jx place rows 0 r).map λk=>r.getD k ""):=by
 have l:=N4 h place r aB;have a:=JM place rows r [] r rfl;rw[pj]at a;rw[<-a];have c:L2.atI (rows.map Bx) (place:Int)=aA (Bx r):=Wh _ _ _ (by rw[c8,f];rfl);unfold Gen.Ue Gen.Tt;generalize N3 place rows r=o at l⊢;unfold Qe Bx at*;generalize rows.map (λr:À Str=>D.lst<|r.map D.str)=j at*;generalize r.map D.str=m at*;cases o with
 |none=>obtain⟨δ,e⟩:=l;simp[-Yq,c,e,txD]
 |some k=>simp[-Yq,c,l,txD]
def lgo(rows:List<|List Str):Nat->List (List Str)->List Str->List (Str×Str)
 |_,[],_=>[]
 |i,r::rs,ls=>match Jx i rows 0 r with
  |some k=>(r.getD k "",dy)::lgo rows (i+1) rs ls
  |none=>(lastT r++aa "^",X4<|ls.count<|lastT r)::lgo rows (i+1) rs (lastT r::ls)
theorem Hw(rows):∀g i G,Er rows i g G=(lgo rows i g G).map λp=>p.1++p.2
 | [],_,_=>rfl
 |r::g,i,G=>by
  unfold Er lgo;cases Jx i rows 0 r with
  |some k=>rw[cg,<-Hw rows g (i+1) G];dsimp only;rw[ju]
  |none=>rw[cg,<-Hw rows g (i+1) (lastT r::G)]
noncomputable abbrev Gz(p:Str×Str):D:=.tup [.str p.1,.str p.2]
theorem Iv(rows)(v:rows.length<=20)(u:∀r∈rows,r≠[]/\r.length<=6/\∀t∈r,t.length<=10000000):∀M i I ks vs g O N J,
  rows.drop i=M->Cnt ks vs g->g.length<=i->I.length<=i->
  ∃δ,Yq (W1 2<|Yj (Zj 3)<|Yj (Zj 4)<|W0) Gen.Qt (Uy i<|M.map Bx) [aA (.fz<|Qe rows),aA<|.ol<|I.map Gz,aA<|.oK ks vs,O,N,J]=aA (.nx δ)/\δ[1]? =aA (aA<|.ol<|(I++lgo rows i M g).map Gz)
 | [],i,I,ks,vs,g,O,N,J,_,_,_,_=>⟨_,rfl,by simp[lgo]⟩
 |r::M,i,I,ks,vs,g,O,N,J,hd,hc,hls,hts=>by
  have w:=L2.dlt hd;rw[ic w]at hd;have j:rows[i]=r:=(zp.inj hd).1;have o:rows.drop (i+1)=M:=(zp.inj hd).2;have K:rows[i]? =aA r:=by rw[cf w,j]
  obtain⟨m,Z,n⟩:=u r (by rw[<-j];exact oq w);have st:=nI v K;have C:=KQ m;have s:(I.map Gz).length<PySem.sizeLine:=Ya Ω;have run:(W1 2<|Yj (Zj 3)<|Yj (Zj 4)<|W0).run (.tup [.int (i:Int),Bx r]) [aA (.fz<|Qe rows),aA<|.ol<|I.map Gz,aA<|.oK ks vs,O,N,J]=aA [aA (.fz<|Qe rows),aA<|.ol<|I.map Gz,aA<|.oK ks vs,aA<|.fz<|.int (i:Int),aA<|.fz<|Bx r,J]:=Δ
  cases hs:Jx i rows 0 r with
  |none=>
   rw[hs]at st;have st:Gen.Ue [Qe rows,.int (i:Int)]=aA (.fz .non):=st;have A:vs.length<PySem.sizeLine:=Ya (by have:=hc.2.1;lia);have L:(lastT r).length<=10000000:=by
    rcases nr r with e|⟨q,x,e⟩
    .exact dt e m
    .have:lastT r=x:=by unfold lastT;rw[e,nu];simp
     rw[this];exact n x (by rw[e];simp)
   have p:g.count (lastT r)<=20:=by have:=vk (a:=lastT r) (l:=g);lia
   obtain⟨lt,_,dl,_⟩:=Ir (g.count<|lastT r) p;have T:(aa "^").length=1:=rfl;have B:(lastT r).length+(aa "^").length<=PySem.sizeLine:=Zz (by rw[T];lia);have lk:=hc.2.2<|lastT r;have Q:=Hr hc<|lastT r;have c:=Q.2.2<|lastT r;rw[BG,dY (by clear p;lia)]at c;have E:((g.count (lastT r)+1:Nat):Int)=((g.count (lastT r):Nat):Int)+1:=by rfl
   rw[E]at c;have y:Gen.Qt [aA (.fz<|Qe rows),aA<|.ol<|I.map Gz,aA<|.oK ks vs,aA<|.fz<|.int (i:Int),aA<|.fz<|Bx r,J]=aA (.nx [aA (.fz<|Qe rows),aA<|.ol<|(I++[(lastT r++aa "^",X4<|g.count<|lastT r)]).map Gz,aA<|.oK (Y2 ks vs (.inr<|lastT r)<|.int (((g.count (lastT r)+1:Nat)):Int)).1 (Y2 ks vs (.inr<|lastT r)<|.int (((g.count (lastT r)+1:Nat)):Int)).2,aA<|.fz<|.int (i:Int),aA<|.fz<|Bx r,aA<|.fz .non]):=by
    rw[E,cb]at*;generalize f:Y2 ks vs (.inr<|lastT r) (.int<|((g.count (lastT r):Nat):Int)+1)=z at*;generalize I.map Gz=X at*;unfold Gen.Qt;by_cases h0:g.count (lastT r)=0
    .rw[dZ h0]at lk;rw[h0]at lt f c⊢;have H:((0:Nat):Int)=0:=rfl;rw[H]at lt c;have f:Y2 ks vs (.inr<|lastT r) (.int 1)=z:=f;have c:Z5 z.1 z.2 (Sum.inr<|lastT r)=aA (.int 1):=c;simp[-Y2,-Z5,st,C,lk,c,f,A,B,z2,s,lt]
    .rw[dY h0]at lk;have F:((g.count (lastT r):Nat):Int)+1- 1=((g.count (lastT r):Nat):Int):=Θ
     simp[-Y2,-Z5,st,C,lk,c,f,F,A,B,z2,s,lt]
   obtain⟨δ,e,h⟩:=Iv rows v u M (i+1) (I++[(lastT r++aa "^",X4<|g.count<|lastT r)]) _ _ (lastT r::g) (aA<|.fz<|.int (i:Int)) (aA<|.fz<|Bx r) (aA<|.fz .non) o (Hr hc<|lastT r) (by rw[ca];lia) ε;refine⟨δ,(Yl run y).trans e,?_⟩;rw[h];simp[lgo,hs]
  |some k=>
   rw[hs]at st;have st:Gen.Ue [Qe rows,.int (i:Int)]=aA (.fz<|.str<|r.getD k ""):=st;have P:aa ""=Str.empty:=rfl;have y:Gen.Qt [aA (.fz<|Qe rows),aA<|.ol<|I.map Gz,aA<|.oK ks vs,aA<|.fz<|.int (i:Int),aA<|.fz<|Bx r,J]=aA (.nx [aA (.fz<|Qe rows),aA<|.ol<|(I++[(r.getD k "",dy)]).map Gz,aA<|.oK ks vs,aA<|.fz<|.int (i:Int),aA<|.fz<|Bx r,aA<|.fz<|.str<|r.getD k ""]):=by rw[cb];generalize r.getD k ""=G,I.map Gz=X at*;unfold Gen.Qt;simp[st,s,z2,P]
   obtain⟨δ,e,h⟩:=Iv rows v u M (i+1) (I++[(r.getD k "",dy)]) _ _ g (aA<|.fz<|.int (i:Int)) (aA<|.fz<|Bx r) (aA<|.fz<|.str<|r.getD k "") o hc Θ ε;refine⟨δ,(Yl run y).trans e,?_⟩;rw[h];simp[lgo,hs]
theorem rV(rows)(f:rows.length<=20)(c:∀r∈rows,r≠[]/\r.length<=6/\∀t∈r,t.length<=10000000):Gen.O7 [Qe rows]=aA (.ol<|(lgo rows 0 rows []).map Gz):=by obtain⟨δ,e,a⟩:=Iv rows f c rows 0 [] [] [] [] aB aB aB (oh ..) ⟨rfl,cj _,λx=>Δ⟩ (cj _)<|cj _;simp only[mf,f8]at e a;unfold Gen.O7 Gen.Tu;simp[-Yq,C7,e,a]
noncomputable abbrev THE:Str:=aa "there"
noncomputable def pnS(x:Str):Option Str->Str
 |none=>aa "("++x++aa ")"
 |some q=>aa "("++x++aa ", "++q++aa ")"
def U9(tk:Str->Str):Option Str->List Prt->List Str
 |_,[]=>[]
 |a,.sg s::L=>s::U9 tk a L
 |a,.pt p::L=>pnS (if aA p.k=a then THE else tk p.k) p.p::U9 tk (aA p.k) L
noncomputable def Pl:Option Str->D
 |none=>.non
 |some k=>.str k
theorem OI(p:Pnt)(h:x.length<=1000):(pnS x p.p).length<=1200:=by
 have c:(aa "(").length=1:=Ξ
 have a:(aa ")").length=1:=Ξ
 have j:(aa ", ").length=2:=Ξ
 unfold pnS;cases f:p.p with
 |none=>rw[Z2,Z2,c,a];lia
 |some q=>have:=(p.hp q f).most;rw[Z2,Z2,Z2,Z2,c,a,j];lia
theorem told_point(p:Pnt)(x)(h:x.length<=1000):Gen.Om [.str x,p.e]=aA (.fz<|.str<|pnS x p.p):=by
 have r:(aa "(").length=1:=Ξ
 have o:(aa ")").length=1:=Ξ
 have n:(aa ", ").length=2:=Ξ
 have l:(aa "(").length+x.length<=PySem.sizeLine:=Zz Θ;unfold Gen.Om Gen.Gk;cases a:p.p with
 |none=>
  have c:p.e= .non:=by unfold Pnt.e;rw[a]
  have z2:(aa "("++x).length+(aa ")").length<=PySem.sizeLine:=Zz (by rw[Z2];lia);rw[c];simp[pnS,l,z2]
 |some q=>
  have m:=(p.hp q a).most;have c:p.e= .str q:=by unfold Pnt.e;rw[a]
  have f:(aa "("++x++aa ", "++q).length+(aa ")").length<=PySem.sizeLine:=Zz (by rw[Z2,Z2,Z2];lia);have j:(aa "("++x++aa ", ").length+q.length<=PySem.sizeLine:=pfx f;have z2:(aa "("++x).length+(aa ", ").length<=PySem.sizeLine:=pfx j;rw[c];simp[pnS,l,z2,j,f]
theorem Hx:THE.length<=1000:=Ξ
theorem Hy(a0)(c:À L2.Key)(DV tk):∀L g a I,(∀p,Prt.pt p∈L->Z5 c DV (Sum.inr p.k)=aA (.str<|tk p.k)/\(tk p.k).length<=1000)->g.length+L.length<=1000->
  ∃G i,Yq (Zj 4) Gen.Q7 (L.map Prt.pd) [a0,aA<|.fz<|.dK c DV,aA<|.ol<|g.map D.str,aA<|.fz<|Pl a,I]=aA (.nx [a0,aA<|.fz<|.dK c DV,aA<|.ol<|(g++U9 tk a L).map D.str,G,i])
 | [],g,a,I,_,_=>⟨aA<|.fz<|Pl a,I,by simp[U9]⟩
 |x::L,g,a,I,h,hl=>by
  rw[ca]at hl;have l:(g.map D.str).length<PySem.sizeLine:=Ya Ω;have o:∀p,Prt.pt p∈L->Z5 c DV (Sum.inr p.k)=aA (.str<|tk p.k)/\(tk p.k).length<=1000:=λp n=>h p<|ag _ n;cases x with
  |sg s=>obtain⟨G,i,j⟩:=Hy a0 c DV tk L (g++[s]) a (aA<|.fz<|.str s) o Ψ;refine⟨G,i,?_⟩;rw[f9]at j;refine(Yl (δ1:=[a0,aA<|.fz<|.dK c DV,aA<|.ol<|g.map D.str,aA<|.fz<|Pl a,aA<|.fz<|.str s]) (by simp[Prt.pd]) ?_).trans j;rw[cb];generalize g.map D.str=TS at*;unfold Gen.Q7;simp[l]
  |pt p=>
   obtain⟨lk,q⟩:=h p ac;have n:=Hu p;have i1:L2.atI [D.str "point",D.str p.k,p.e] 1=aA (.str p.k):=rfl;have i2:L2.atI [D.str "point",D.str p.k,p.e] 2=aA p.e:=rfl;obtain⟨G,i,j⟩:=Hy a0 c DV tk L (g++[pnS (if aA p.k=a then THE else tk p.k) p.p]) (aA p.k) (aA<|.fz p.d) o Ψ;refine⟨G,i,?_⟩;rw[f9]at j;refine(Yl (δ1:=[a0,aA<|.fz<|.dK c DV,aA<|.ol<|g.map D.str,aA<|.fz<|Pl a,aA<|.fz p.d]) (by simp[Prt.pd]) ?_).trans j;rw[cb];have u:THE=aa "there":=rfl;generalize g.map D.str=TS at*;unfold Gen.Q7;rw[n];by_cases m:aA p.k=a
   .rw[dZ m];have f:=told_point p THE Hx;rw[u]at f;have v:Pl a= .str p.k:=by rw[<-m];rfl
    rw[v];generalize pnS THE p.p=PS,p.e=PE at*;simp[-Z5,i1,i2,f,l,Pl]
   .rw[dY m];have f:=told_point p (tk p.k) q;generalize pnS (tk p.k) p.p=PS at*;cases a with
    |none=>generalize p.e=PE at*;simp[-Z5,i1,i2,f,lk,l,Pl]
    |some k=>have r:¬p.k=k:=λz=>m (by rw[z]);generalize p.e=PE at*;simp[-Z5,i1,i2,f,lk,l,Pl,r]
theorem Hz:∀{L:À Prt} {a:Á Str},(∀x∈L,x.t.length<=1000)->(∀p,Prt.pt p∈L->(tk p.k).length<=1000)->∀s∈U9 tk a L,s.length<=1200
 | [],_,_,_,_,hs=>nomatch hs
 | .sg t::L,a,h,h2,s,hs=>by
  rcases az.mp hs with e|hs
  .rw[e];have:t.length<=1000:=h (.sg t) ac;lia
  .exact Hz (λy c=>h y<|ag _ c) (λp f=>h2 p<|ag _ f) s hs
 | .pt p::L,a,h,h2,s,hs=>by
  rcases az.mp hs with e|hs
  .rw[e];refine OI p ?_;split
   .exact Hx
   .exact h2 p ac
  .exact Hz (λy c=>h y<|ag _ c) (λp f=>h2 p<|ag _ f) s hs
theorem Iw:∀{L:À Prt} {a:Á Str},(U9 tk a L).length=L.length
 | [],_=>rfl
 | .sg _::L,a=>by show(U9 tk a L).length+1=_;rw[Iw];rfl
 | .pt p::L,a=>by show(U9 tk (aA p.k) L).length+1=_;rw[Iw];rfl
theorem g8(f:G8 ws P 8)(c:À L2.Key)(DV tk)(h:∀p,Prt.pt p∈P->Z5 c DV (Sum.inr p.k)=aA (.str<|tk p.k)/\(tk p.k).length<=1000):Gen.Bt [.lst (P.map Prt.pd),.dK c DV]=aA (.fz<|.str<|Ux<|U9 tk aB P):=by have r:=Cy f;obtain⟨q,o,e⟩:=Hy (aA<|.fz<|.lst<|P.map Prt.pd) c DV tk P [] aB aB h Ψ;have l:=US (sep:=aa "") (Hz (a:=aB) (U_ f) λp n=>(h p n).2) (by rw[Iw,show(aa "").length=0 from rfl];lia);have m:=UT<|U9 tk aB P;have j:=Aw<|U9 tk aB P;rw[f8]at e;have e:Yq (Zj 4) Gen.Q7 (P.map Prt.pd) [aA (.fz<|.lst<|P.map Prt.pd),aA<|.fz<|.dK c DV,aA<|.ol [],aA<|.fz .non,aB]=_:=e;generalize Ux (U9 tk aB P)=C at*;generalize s:(U9 tk aB P).map D.str=w at*;generalize U9 tk aB P=v at*;generalize P.map Prt.pd=u at*;unfold Gen.Bt Gen.R9;simp[-Yq,e,j,l,m]
theorem wT(h:t δ=aA (aE,δ')):Wo t a b δ=b δ':=by unfold Wo;rw[h];rfl
theorem Da (a0:Á SV) (O:À Str) (T:À (Str × Str)) (tk:Str->Str) (hO:O.length<=20):∀ (L:À Prt) (acc:Str) (a:Á Str) (x5 x6:Á SV),
    (∀ p,Prt.pt p ∈ L->p.k ∈ O/\∃ q:Str × Str,L2.atI (T.map Gz) ((O.findIdx λx=>decide (x=p.k):Nat):Int)=aA (Gz q)/\q.1.length<=400/\q.2.length<=400/\tk p.k=q.1 ++ q.2)->(∀ x ∈ L,x.t.length<=1000)->acc.length + L.length * 1200<=1000000 ->
    ∃ G i g,Yq (Zj 5) Gen.U8 (L.map Prt.ld) [a0,aA<|.fz<|.lst<|O.map D.str,aA<|.fz<|.lst<|T.map Gz,aA<|.fz<|.str acc,aA<|.fz<|Pl a,x5,x6]=aA (.nx [a0,aA<|.fz<|.lst<|O.map D.str,aA<|.fz<|.lst<|T.map Gz,aA<|.fz<|.str<|acc ++ Ux (U9 tk a L),G,i,g])
  | [],acc,a,x5,x6,_,_,_=>⟨aA<|.fz<|Pl a,x5,x6,by rw [show Ux (U9 tk a [])=dy from rfl,ju]; rfl⟩
  | x :: L,acc,a,x5,x6,h,ht,hl=>by
    rw [ca] at hl;have Z:=λp (j:Prt.pt p ∈ L)=>h p<|ag _ j;have f:=λy (hy:y ∈ L)=>ht y<|ag _ hy;cases x with
    | sg s =>have hs:s.length<=1000:=ht (.sg s) ac;have m:(acc ++ s).length=acc.length + s.length:=Z2 _ _;obtain ⟨G,i,g,u⟩:=Da a0 O T tk hO L (acc ++ s) a (aA<|.fz<|.str s) x6 Z f Θ;refine ⟨G,i,g,?_⟩;show _=aA (Fl.nx [_,_,_,aA<|SV.fz<|.str<|acc ++ (s ++ Ux (U9 tk a L)),_,_,_]);rw [<- i4];refine (Yl (δ1:=[a0,aA<|.fz<|.lst<|O.map D.str,aA<|.fz<|.lst<|T.map Gz,aA<|.fz<|.str acc,aA<|.fz<|Pl a,aA<|.fz<|.str s,x6]) (by simp [Prt.ld]) ?_).trans u;have z:acc.length + s.length<=PySem.sizeLine:=Zz (by clear m; lia);generalize O.map D.str=OD,T.map Gz=TD at *;unfold Gen.U8;simp [z]
    | pt p =>
      obtain ⟨v, q, l, q1, q2, M⟩ := h p ac;have fl := S6 O;have I := S7 p.k O v;have Q : L2.atI [D.str p.k, p.e] 0 = aA (.str p.k) := rfl;have i1 : L2.atI [D.str p.k, p.e] 1 = aA p.e := rfl;have c1 : (aa "(").length = 1 := by decide +kernel
      have c2 : (aa ")").length = 1 := by decide +kernel
      have c3 : (aa ", ").length = 2 := by decide +kernel
      have W:(tk p.k).length<=1000:=by rw [M,Z2]; lia
      have U:(if aA p.k=a then THE else tk p.k).length<=1000:=by
        split
        · exact Hx
        · exact W
      have pl := OI p U;have m : (acc ++ pnS (if aA p.k = a then THE else tk p.k) p.p).length = acc.length + (pnS (if aA p.k = a then THE else tk p.k) p.p).length := Z2 _ _;obtain ⟨G, i, g, u⟩ := Da a0 O T tk hO L (acc ++ pnS (if aA p.k = a then THE else tk p.k) p.p) (aA p.k) (aA<|.fz<|.tup [.str p.k, p.e]) (aA<|.fz<|.str (match p.p with | none => (if aA p.k = a then THE else tk p.k) | some r => (if aA p.k = a then THE else tk p.k) ++ aa ", " ++ r)) Z f Θ;refine ⟨G, i, g, ?_⟩;show _ = aA (Fl.nx [_, _, _, aA (SV.fz<|.str<|acc ++ (pnS (if aA p.k = a then THE else tk p.k) p.p ++ Ux (U9 tk (aA p.k) L))), _, _, _]);rw [<- i4];refine (Yl (δ1 := [a0, aA (.fz<|.lst<|O.map D.str), aA (.fz<|.lst<|T.map Gz), aA (.fz<|.str acc), aA (.fz<|Pl a), aA (.fz<|.tup [.str p.k, p.e]), x6]) (by simp [Prt.ld]) ?_).trans u;have P : tf (aa "") [q.1, q.2] = tk p.k := by rw [UT, M]; show q.1 ++ (q.2 ++ dy) = _; rw [ju]
      have K : wb (aa "") [q.1, q.2] = aC := US (B := 400) (λs hs => by
        simp at hs;rcases hs with e | e <;> rw [e] <;> assumption) (by rw [show (aa "").length = 0 from rfl]; simp)
      have w : aa "there" = THE := rfl
      have E : ∀ R : FS, Zo (Z1 6<|Zb<|.str "there") (Zo (Wo (Zq<|Zf neY (Zf Yn (Za 5)<|Zb<|.int 0)<|Za 4) (Z1 6<|Md "str" Jo (Zb<|.str "")<|Zd (Zf Yn (Za 2)<|Md "list" E7 (Za 1)<|Zd (Zf Yn (Za 5)<|Zb<|.int 0) Zh) Zh)<|Yb) R) [a0, aA (.fz<|.lst<|O.map D.str), aA (.fz<|.lst<|T.map Gz), aA (.fz<|.str acc), aA (.fz<|Pl a), aA (.fz<|.tup [.str p.k, p.e]), x6] = R [a0, aA (.fz<|.lst<|O.map D.str), aA (.fz<|.lst<|T.map Gz), aA (.fz<|.str acc), aA (.fz<|Pl a), aA (.fz<|.tup [.str p.k, p.e]), aA (.fz<|.str (if aA p.k = a then THE else tk p.k))] := λR => by
        generalize (O.findIdx λx=>decide (x=p.k))=J,O.map D.str=OD,T.map Gz=TD at *;by_cases n:aA p.k=a
        · rw [dZ n]
          have Y:Pl a=.str p.k:=by rw [<- n]; rfl
          rw [Y];simp [w]
        · rw [dY n]
          cases a with
          | none=>simp [-ua,-ky,-gi,w,Pl,fl,I,l,P,K]
          | some k =>have v:¬ p.k=k:=λz=>n (by rw [z]);simp [-ua,-ky,-gi,w,Pl,v,fl,I,l,P,K]
      have o : Zq (Af (Mn "str")<|Za 5) [a0, aA (.fz<|.lst<|O.map D.str), aA (.fz<|.lst<|T.map Gz), aA (.fz<|.str acc), aA (.fz<|Pl a), aA (.fz<|.tup [.str p.k, p.e]), x6] = aA (aE, [a0, aA (.fz<|.lst<|O.map D.str), aA (.fz<|.lst<|T.map Gz), aA (.fz<|.str acc), aA (.fz<|Pl a), aA (.fz<|.tup [.str p.k, p.e]), x6]) := by generalize O.map D.str = OD at *;generalize T.map Gz = TD at *;simp
      unfold Gen.U8;generalize hX : (if aA p.k = a then THE else tk p.k) = X at *;have H : acc.length + (aa "(").length <= PySem.sizeLine := Zz (by clear m; lia);rw [wT o, E];generalize O.map D.str = OD at *;generalize T.map Gz = TD at *;cases j : p.p with
      | none =>
        have C:p.e=.non:=by unfold Pnt.e; rw [j]
        have A : acc ++ pnS X aB = acc ++ aa "(" ++ X ++ aa ")" := by unfold pnS;simp only [i4]
        have c : (acc ++ aa "(" ++ X).length + (aa ")").length <= PySem.sizeLine := Zz (by rw [Z2, Z2]; (clear m; lia));have z2 : (acc ++ aa "(").length + X.length <= PySem.sizeLine := pfx c;rw [A];rw [C] at Q i1 ⊢;simp [H, z2, c, Pl]
      | some r =>
        have qm:=(p.hp r j).most;have C:p.e=.str r:=by unfold Pnt.e; rw [j]
        have A : acc ++ pnS X (aA r) = acc ++ aa "(" ++ (X ++ aa ", " ++ r) ++ aa ")" := by unfold pnS;simp only [i4]
        have F : (X ++ aa ", ").length + r.length <= PySem.sizeLine := Zz (by rw [Z2]; lia);have N : X.length + (aa ", ").length <= PySem.sizeLine := pfx F;have c : (acc ++ aa "(" ++ (X ++ aa ", " ++ r)).length + (aa ")").length <= PySem.sizeLine := Zz (by rw [Z2, Z2, Z2, Z2]; (clear m; lia));have z2 : (acc ++ aa "(").length + (X ++ aa ", " ++ r).length <= PySem.sizeLine := pfx c;rw [A];rw [C] at Q i1 ⊢;simp [H, z2, c, N, F, Pl]
theorem wS(a:G8 ws P 8)(O:À Str)(T:À (Str×Str))(tk)(c:O.length<=20)(h:∀p,Prt.pt p∈P->p.k∈O/\∃q,L2.atI (T.map Gz) ((O.findIdx λx=>decide (x=p.k):Nat):Int)=aA (Gz q)/\q.1.length<=400/\q.2.length<=400/\tk p.k=q.1++q.2):
  Gen.Mj [.lst (P.map Prt.ld),.lst<|O.map D.str,.lst<|T.map Gz]=aA (.fz<|.str<|Ux<|U9 tk aB P):=by
 have m:=Cy a;have c0:(aa "").length=0:=rfl;obtain⟨l,j,f,e⟩:=Da (aA<|.fz<|.lst<|P.map Prt.ld) O T tk c P (aa "") aB aB aB h (U_ a) (by rw[c0];lia);rw[show aa ""++Ux (U9 tk aB P)=Ux (U9 tk aB P)from ww _]at e;have e:Yq (Zj 5) Gen.U8 (P.map Prt.ld) [aA (.fz<|.lst<|P.map Prt.ld),aA<|.fz<|.lst<|O.map D.str,aA<|.fz<|.lst<|T.map Gz,aA<|.fz<|.str<|aa "",aA<|.fz .non,aB,aB]=_:=e;generalize Ux (U9 tk aB P)=C,P.map Prt.ld=PL,O.map D.str=OD,T.map Gz=n at*;unfold Gen.Mj Gen.Im;simp[-Yq,e]
abbrev kyP(P:À Prt):À Str:=P.filterMap Prt.key
theorem gC(P)(c:P.length<=100):Gen.W9 [.lst (P.map Prt.pd)]=aA (.ol<|(kyP P).map D.str):=by
 have p:=V' (P.map Prt.pd) (λd hd=>by
  obtain⟨x,_,rfl⟩:=av.mp hd;cases x with
  |sg s=>exact .inl ⟨s,rfl⟩
  |pt q=>exact .inr ⟨q.k,q.e,Hu q⟩) Ω
 rw[p];congr 2;induction P with
 |nil=>rfl
 |cons x P a=>
  have a:=a (by simp at c;lia) (V' _ (λd hd=>by
   obtain⟨x,_,rfl⟩:=av.mp hd;cases x with
   |sg s=>exact .inl ⟨s,rfl⟩
   |pt q=>exact .inr ⟨q.k,q.e,Hu q⟩) (by rw[aj];simp at c;lia))
  cases x with
  |sg s=>exact a
  |pt q=>show(q.d::P.map Prt.pd).filterMap ptK=D.str q.k::(kyP P).map D.str;rw[jw,Hu];exact congrArg _ a
theorem Vx(h:G8 ws P n):∀p,Prt.pt p∈P->p.k∈ws:=λp a=>by
 obtain⟨f,xs,h1,h2,rfl,l⟩:=h;have c:∀r,Prt.pt p∉rnQ r:=λr z=>by
  unfold rnQ at z;split at z
  .exact nomatch z
  .exact nomatch (ao.mp z)
 rcases dm.mp a with a|a
 .exact dt a (c f)
 .obtain⟨y,j,a⟩:=uq.mp a;rcases az.mp a with e|a
  .injection e with e;rw[e];exact(h2 y j).2
  .exact dt a (c y.2)
theorem Db:k∈kyP P↔∃p,Prt.pt p∈P/\p.k=k:=by
 rw[m9];constructor
 .rintro⟨x,a,e⟩;cases x with
  |sg s=>cases e
  |pt p=>exact⟨p,a,h8.inj e⟩
 .rintro⟨p,c,rfl⟩;exact⟨_,c,rfl⟩
theorem rT(h:Run xs wks m F s fr t G s' t'):∀r∈F++fr,r∈G:=by
 induction h with
 |done F s t=>intro r f;simpa using f
 |step h r a=>intro x c;exact a x<|dr _ c
theorem JL:∀{ks xs:À Str},k∈ks\/k∈xs->k∈ks.foldl Q8 xs
 | [],xs,h=>by
  rcases h with h|h
  .exact nomatch h
  .exact h
 |a::ks,xs,h=>by
  rw[EW];refine JL ?_;have j:a∈Q8 xs a:=by unfold Q8;split;assumption;simp
  have f:∀y∈xs,y∈Q8 xs a:=λy c=>by unfold Q8;split;exact c;exact dr _ c
  rcases h with h|h
  .rcases az.mp h with e|h
   .exact .inr (e▸j)
   .exact .inl h
  .exact .inr (f k h)
theorem ME:∀{l U:À Str},l.Nodup->(∀x∈l,x∈U)->l.length<=U.length
 | [],_,_,_=>gr _
 |a::l,U,nd,h=>by obtain⟨m,j⟩:=fm.mp nd;have f:=h a ac;have n:=ME (U:=U.erase a) j λx c=>(List.mem_erase_of_ne<|show x≠a from λz=>m (by rw[<-z];exact c)).mpr<|h x<|ag _ c;have h1:=List.length_erase_of_mem f;have h2:=List.length_pos_of_mem f;rw[ca];lia
structure Chn(ws:À Str)(wks:À Wk)(m:Nat)(fs ks:À Str)(G:À Kj)(O:À Str):Prop where
 lst:Gen.Cv [Qp ws wks,.lst<|ks.map D.str,.int (m:Int)]=aA (.ol<|G.map Wf)
 ord:Gen.Ua [Qp ws wks,Yd T0,.lst ((G.map (·.1)).map D.str),.lst<|fs.map D.str]=aA (.ol<|O.map D.str)
 nd:O.Nodup
 mem:∀k∈O,k∈ws
 sub:∀k∈ks,k∈O
 len:O.length<=20
 glen:G.length<=20
theorem gm(Sh:Shf ws wks)(u:m<=3)(hf:fs.length<=3)(o:∀k∈ks,k∈ws)(v:ks.length<=17):∃G O,Chn ws wks m fs ks G O:=by
 have s:=Sh.most;obtain⟨G,s',t',run,c,f,e⟩:=la ws wks Θ Sh.nd Sh.len.symm (λw h=>by
  obtain⟨i,p⟩:=qk.mp h;exact(Sh.wk i w p).nt) m Θ ks Θ
 have j:∀k∈G.map (·.1),k∈ws:=λk h=>by obtain⟨r,n,rfl⟩:=av.mp h;exact f r n
 have q:=ME c j;rw[aj]at q;obtain⟨O,l,a⟩:=rf Sh.shelf fs (G.map (·.1)) Θ j c Ω;rw[<-OR]at l;refine⟨G,O,e,l,a.nodup_iff.mpr c,λk h=>j k<|a.mem_iff.mp h,λk h=>?_,by rw[a.length_eq,aj];lia,Θ⟩;refine a.mem_iff.mpr<|av.mpr ⟨(k,0,Why.text),rT run _ ?_,rfl⟩;exact av.mpr ⟨k,ri.mpr ⟨JL<|.inl h,d_<|o k h⟩,rfl⟩
structure TwOk(p:Str×Str):Prop where
 l1:p.1.length<=400
 l2:p.2.length<=400
 in':Gen.U7 [.str (p.1++p.2)]=aA (.fz<|.str p.2)
theorem Km(rows):∀g i G,(lgo rows i g G).length=g.length
 | [],_,_=>rfl
 |r::g,i,G=>by
  unfold lgo;cases Jx i rows 0 r with
  |some k=>simp[Km rows g]
  |none=>simp[Km rows g]
theorem nH(h1:s.length<=200)(h2:94∉s.cps.toList):TwOk (s,dy):=by
 refine⟨by show s.length<=400;lia,by show Str.empty.length<=400;decide,?_⟩;have c:aa "^"=S [94]:=Ξ
 have f:iu s (aa "^")=(s,dy,dy):=by rw[c];exact JE (Kf 94) s h2
 have z:s.length<=PySem.sizeLine:=Zz Θ;have a:¬(aa "^").length=0:=Ξ
 rw[ju];unfold Gen.U7 Gen.Bv;simp[L2.atI,L2.ixN,z,a,f]
theorem wR(h1:s.length<=200)(h2:94∉s.cps.toList)(hn:n<=20):TwOk (s++aa "^",X4 n):=by
 obtain⟨_,l1,j,h⟩:=Ir n hn;have l:(aa "^").length=1:=rfl;have c:aa "^"=S [94]:=Ξ
 have f:iu (s++aa "^"++X4 n) (aa "^")=(s,aa "^",X4 n):=by rw[c];exact Ti 94 s (X4 n) h2
 have z:(s++aa "^"++X4 n).length<=PySem.sizeLine:=Zz (by rw[Z2,Z2];lia);have a:¬(aa "^").length=0:=Ξ
 refine⟨by show(s++aa "^").length<=400;rw[Z2];lia,by show(X4 n).length<=400;lia,?_⟩;unfold Gen.U7 Gen.Bv;simp[L2.atI,L2.ixN,z,a,f]
theorem Dc(rows):∀g i G,(∀r∈g,r≠[]/\∀t∈r,t.length<=200/\94∉t.cps.toList)->G.length+g.length<=20->∀p∈lgo rows i g G,TwOk p
 | [],_,_,_,_,_,h=>nomatch h
 |r::g,i,G,hr,hl,p,c=>by
  rw[ca]at hl;obtain⟨m,j⟩:=hr r ac;unfold lgo at c;cases hs:Jx i rows 0 r with
  |some k=>
   rw[hs]at c;rcases az.mp c with e|c
   .obtain⟨_,⟨t,h2,_⟩,_⟩:=Tx hs;rw[AH]at h2;have:r.getD k ""=t:=by rw[du,h2];rfl
    rw[e,this];have:=j t<|gh h2;exact nH this.1 this.2
   .exact Dc rows g (i+1) G (λq f=>hr q<|ag _ f) Θ p c
  |none=>
   rw[hs]at c;rcases az.mp c with e|c
   .have n:lastT r∈r:=by
     rcases nr r with e|⟨q,x,e⟩
     .exact dt e m
     .have:lastT r=x:=by unfold lastT;rw[e,nu];simp
      rw[this,e];simp
    have:=j _ n;rw[e];exact wR this.1 this.2 (by have:=vk (a:=lastT r) (l:=G);lia)
   .exact Dc rows g (i+1) (lastT r::G) (λq f=>hr q<|ag _ f) (by rw[ca];lia) p c
theorem N5(te)(a:te=Zf Yn (Za 0) (Zb<|.int 0))(G:À Kj)(l:G.length<=100):Z7 [.own,.acc] 1 (Zj 0) Y1 te (G.map Wf) [aB,aA<|.ol []]=aA [aB,aA (.ol ((G.map (·.1)).map D.str))]:=by
 subst a;have c:=Ax (te:=Zf Yn (Za 0)<|Zb<|.int 0) (f:=λd=>match d with| .tup (x::_)=>x|_=>.non) (G.map Wf) [] (λx h zs=>by
  obtain⟨r,_,rfl⟩:=av.mp h;have j:L2.atI [D.str r.1,.int (r.2.1:Int),r.2.2.d] 0=aA (.str r.1):=Wh _ 0 _ rfl;simp[j]) (by rw[aj];simp;lia)
 rw[c];simp[Function.comp_def]
theorem JK(c:ws.length=wks.length)(a1 a2 a3 a4 a5)(z:Y5):∀(ks:À Str) x6,(∀k∈ks,k∈ws)->∃g,Yq (Zj 6) Gen.Gp (ks.map D.str) (aA (.fz<|Qp ws wks)::a1::a2::a3::a4::a5::x6::z)=aA (.nx (aA (.fz<|Qp ws wks)::a1::a2::a3::a4::a5::g::z))
 | [],x6,_=>⟨x6,rfl⟩
 |k::ks,x6,h=>by
  obtain⟨g,f⟩:=JK c a1 a2 a3 a4 a5 z ks (aA<|.fz<|.str k) λq l=>h q<|ag _ l;refine⟨g,?_⟩;obtain⟨w,j⟩:=Eo c<|h k ac;have a:Z5 (Zr ws) (wks.map Wk.d) (Sum.inr k)=aA w.d:=by rw[Gy Wk.d k ws wks,j];rfl
  refine(Yl (δ1:=aA (.fz<|Qp ws wks)::a1::a2::a3::a4::a5::aA (.fz<|.str k)::z) Δ ?_).trans f;unfold Gen.Gp Qp;generalize wks.map Wk.d=WD,Zr ws=IW,w.d=m at*;simp[-Z5,a]
noncomputable def mrk(a:Str)(p:Str×Str):Str:=if p.2=dy then a else a++aa " ^"++p.2
theorem told_row(h1:r.length<=1000)(h2:s.length<=1000):Gen.O4 [.str r,.str s]=aA (.fz<|.str (if s=dy then r else r++aa " ^"++s)):=by
 have f:(aa " ^").length=2:=Ξ
 have z2:(r++aa " ^").length+s.length<=PySem.sizeLine:=Zz (by rw[Z2];lia);have c:r.length+(aa " ^").length<=PySem.sizeLine:=pfx z2;have a:aa ""=Str.empty:=rfl;unfold Gen.O4 Gen.Tr;by_cases h:s=dy
 .simp[a,h]
 .simp[a,h,c,z2]
theorem Vy:∀(Q:À (Str×Str×Str)) zs,(∀q∈Q,q.1.length<=1000/\TwOk q.2)->zs.length+Q.length<=1000->
  Z7 [.own,.own,.acc] 2 (W1 2<|Yj (Zj 0)<|Yj (Zj 1)<|W0) Y1 Gen.Gr (Q.map λq=>.tup [.str q.1,.str<|q.2.1++q.2.2]) [aB,aB,aA<|.ol zs]=aA [aB,aB,aA<|.ol<|zs++Q.map λq=>.str<|mrk q.1 q.2]
 | [],zs,_,_=>Δ
 |q::Q,zs,h,hl=>by rw[ca]at hl;obtain⟨h1,h2⟩:=h q ac;have a:=Vy Q (zs++[.str (mrk q.1 q.2)]) (λy c=>h y<|ag _ c) Ψ;have l:=h2.in';have t:=told_row h1<|fg h2.l2 Γ;have t:Gen.O4 [.str q.1,.str q.2.2]=aA (.fz<|.str<|mrk q.1 q.2):=t;have z:zs.length<PySem.sizeLine:=Ya Θ;rw[f9]at a;refine Eq.trans ?_ a;rw[cg];generalize mrk q.1 q.2=M,q.2.1++q.2.2=J,(Q.map λq=>D.tup [.str q.1,.str<|q.2.1++q.2.2])=f at*;rw[Z7];unfold Gen.Gr;simp[-Z7,l,t,z]
section
variable{ws:À Str}{wks:À Wk}(Sh:Shf ws wks){L:À TQ}{x0:TQ}{fs:À Str}{m:Nat}(St:Sty L x0 fs m)
include Sh St in
theorem Vz:∀(O:À Str) (zs:À D),(∀k∈O,k∈ws)->zs.length+O.length<=1000->
  Z7 [.own,.cap 0,.cap 1,.cap 2,.acc] 4 (Zj 0) Y1 Gen.Gq (O.map D.str) [aB,aA<|.fz<|Qp ws wks,aA<|.fz<|Yd T0,aA<|.fz<|.dK stK<|Dk L x0 fs m,aA<|.ol zs]=
   aA [aB,aA<|.fz<|Qp ws wks,aA<|.fz<|Yd T0,aA<|.fz<|.dK stK<|Dk L x0 fs m,aA<|.ol<|zs++(O.map λk=>T3 ws wks k x0).map D.str]
 | [],zs,_,_=>Δ
 |k::O,zs,h,hl=>by
  rw[ca]at hl;obtain⟨i,j⟩:=mh<|h k ac;have f:=Vm Sh j St.x;have a:=Vz O (zs++[.str (T3 ws wks k x0)]) (λy c=>h y<|ag _ c) Ψ;have z:zs.length<PySem.sizeLine:=Ya Θ;have lk:Z5 stK (Dk L x0 fs m) (Sum.inr<|aa "row")=aA (dT x0):=by rw[W2];simp only[Z5,dY (show¬aa "ladder"=aa "row" by decide+kernel),if_true]
  rw[f9]at a;refine Eq.trans ?_ a;rw[cg];generalize Dk L x0 fs m=SVV,stK=SK,T3 ws wks k x0=FX,Qp ws wks=SD,Yd T0=TD,O.map D.str=OD,x0.2.1=l at*;rw[Z7];unfold Gen.Gq;simp[-Z7,-Z5,f,z,lk]
end
abbrev By(ws:À Str)(wks:À Wk)(L:À TQ)(O:À Str):À (À Str):=O.map<|YB ws wks L
abbrev G9(ws:À Str)(wks:À Wk)(L:À TQ)(O:À Str):À (Str×Str):=lgo (By ws wks L O) 0 (By ws wks L O) []
noncomputable abbrev jnT(T:List<|Str×Str):List Str:=T.map λp=>p.1++p.2
def Dd(O:À Str)(T:À (Str×Str))(k:Str):Str:=(lk O (jnT T) k).getD ""
def mkL(ws:À Str)(wks:À Wk)(x0:TQ)(O:À Str)(T:À (Str×Str)):À Str:=(O.zip T).map λq=>mrk (T3 ws wks q.1 x0) q.2
section
variable{ws:À Str}{wks:À Wk}(Sh:Shf ws wks){L:À TQ}{x0:TQ}{fs:À Str}{m:Nat}(St:Sty L x0 fs m)
theorem LG:Z5 stK (Dk L x0 fs m) (Sum.inr<|aa "ladder")=aA (.lst<|L.map dT)/\Z5 stK (Dk L x0 fs m) (Sum.inr<|aa "row")=aA (dT x0)/\Z5 stK (Dk L x0 fs m) (Sum.inr<|aa "order")=aA (.lst<|fs.map D.str)/\Z5 stK (Dk L x0 fs m) (Sum.inr<|aa "many")=aA (.int (m:Int)):=by
 have l:¬aa "ladder"=aa "row":=Ξ
 have j:¬aa "ladder"=aa "order":=Ξ
 have h:¬aa "ladder"=aa "many":=Ξ
 have f:¬aa "row"=aa "order":=Ξ
 have c:¬aa "row"=aa "many":=Ξ
 have a:¬aa "order"=aa "many":=Ξ
 unfold stK;rw[W2,W2,W2,W2];simp only[Z5,dY l,dY j,dY h,dY f,dY c,dY a,if_true,and_self]
include Sh St in
theorem LF{O:À Str}(n:∀k∈O,k∈ws):∀r∈By ws wks L O,r≠[]/\r.length<=6/\∀t∈r,t.length<=200/\94∉t.cps.toList:=λr h=>by
 obtain⟨k,j,rfl⟩:=av.mp h;obtain⟨i,m⟩:=mh<|n k j;have l1:=St.l1;have a:=St.l6;refine⟨λz=>?_,by rw[aj];exact a,λt f=>?_⟩
 .have:=congrArg p9 z;rw[aj]at this;simp at this;rw[this]at l1;simp at l1
 .obtain⟨x,c,rfl⟩:=av.mp f;exact(X1 Sh m<|St.l x c).2
theorem LB:∀(A:À Str) T,B4 (A.map D.str) ((jnT T).map D.str)=(A.zip T).map λq=>D.tup [.str q.1,.str<|q.2.1++q.2.2]
 | [],_=>rfl
 |_::_,[]=>rfl
 |a::A,t::T=>by have c:=LB A T;unfold B4 at c⊢;simp only[jnT,cg,m8]at c⊢;rw[c]
theorem LA:∀{xs:À Str} {vs:À α},lk xs vs k=aA v->v∈vs
 | [],vs,h=>by cases vs<;> cases h
 |x::xs,[],h=>nomatch h
 |x::xs,w::vs,h=>by
  have h:(if x=k then aA w else lk xs vs k)=aA v:=h;split at h
  .cases h;exact ac
  .exact ag _ (LA h)
include Sh St in
theorem wQ{P:À Prt}(s:G8 ws P 8){G:À Kj}{O:À Str}(C:Chn ws wks m fs (kyP P) G O):
  Gen.Gs [Qp ws wks,Yd T0,.dK stK<|Dk L x0 fs m,.str<|Ux<|P.map Prt.t]=aA (.fz<|.tup [.str (Ux<|U9 (Dd O<|G9 ws wks L O) aB P),.lst<|B4 (O.map D.str)<|(mkL ws wks x0 O<|G9 ws wks L O).map D.str]):=by
 have c:=LF Sh St C.mem;have Ol:=C.len;have f:(G9 ws wks L O).length=O.length:=by rw[Km,aj]
 have Q:=Dc (By ws wks L O) (By ws wks L O) 0 [] (λr j=>⟨(c r j).1,(c r j).2.2⟩) (by simp;omega);have pl:=Cy s;have rd:Gen.R3 [.str (Ux<|P.map Prt.t)]=aA (.ol<|P.map Prt.pd):=by unfold Gen.R3 YO;rw[rW s]
 have I:=gC P Θ;have J:∀k∈kyP P,k∈ws:=λk h=>by obtain⟨p,B,rfl⟩:=Db.mp h;exact Vx s p B
 have fc:=N5 Gen.El rfl G (by have:=C.glen;lia);have u:=C.ord;have lst:=C.lst;have sp:=Nz Sh St.l (by have:=St.l6;lia) C.mem (show O.length<=100 by clear f;lia);have er:(O.map<|rrD ws wks L)=(By ws wks L O).map Bx:=by rw[f7];rfl
 rw[er]at sp;have pt:=wY (By ws wks L O) (by rw[aj];exact Ol)<|λr j=>⟨(c r j).1,(c r j).2.1,λt M=>fg ((c r j).2.2 t M).1 Γ⟩;rw[Hw]at pt;have n:=Vz Sh St O [] C.mem (by simp;(clear f;lia));rw[f8]at n;obtain⟨k1,k2,k3,k4⟩:=LG (L:=L) (x0:=x0) (fs:=fs) (m:=m);have w:=Vy ((O.map λk=>T3 ws wks k x0).zip<|G9 ws wks L O) [] (λq o=>by
  obtain⟨a,b⟩:=ph o;obtain⟨k,E,e⟩:=av.mp a;obtain⟨i,N⟩:=mh<|C.mem k E;exact⟨by rw[<-e];exact fg (X1 Sh N St.x).2.1 Γ,Q _ b⟩) (by rw[l5,aj];simp;lia)
 rw[f8]at w;have ez:B4 ((O.map λk=>T3 ws wks k x0).map D.str) ((jnT<|G9 ws wks L O).map D.str)=((O.map λk=>T3 ws wks k x0).zip<|G9 ws wks L O).map λq=>D.tup [.str q.1,.str<|q.2.1++q.2.2]:=by exact LB _ _
 have em:((O.map λk=>T3 ws wks k x0).zip<|G9 ws wks L O).map (λq=>D.str<|mrk q.1 q.2)=(mkL ws wks x0 O<|G9 ws wks L O).map D.str:=by unfold mkL;rw[List.zip_map_left,f7,f7];rfl
 rw[em,<-ez]at w;have tt:=g8 s (Zr O) ((jnT<|G9 ws wks L O).map D.str) (Dd O<|G9 ws wks L O) (λp B=>by
  have E:=C.sub p.k<|Db.mpr ⟨p,B,rfl⟩;obtain⟨v,A⟩:=Eo (vs:=jnT<|G9 ws wks L O) (by rw[aj];exact f.symm) E;have e:Dd O (G9 ws wks L O) p.k=v:=by unfold Dd;rw[A];rfl
  rw[Gy D.str p.k O<|jnT<|G9 ws wks L O,A,e];refine⟨rfl,?_⟩;obtain⟨q,o,rfl⟩:=av.mp<|LA A;have:=Q q o;rw[Z2];have:=this.l1;have:=(Q q o).l2;lia)
 have g:XF [.lst (O.map D.str),.lst<|(jnT<|G9 ws wks L O).map D.str]=aA (.oK (Zr O)<|(jnT<|G9 ws wks L O).map D.str):=by show(xu<|O.map D.str).bind _=_;rw[Aw];show(if _ then _ else _)=_;rw[dZ ⟨by rw[aj,aj];exact f.symm,C.nd,Ya (by clear f;lia)⟩]
 have X:(mkL ws wks x0 O<|G9 ws wks L O).length=O.length:=by unfold mkL;rw[aj,l5];lia
 have Z:XG [.lst (O.map D.str),.lst<|(mkL ws wks x0 O<|G9 ws wks L O).map D.str]=aA (.ol<|B4 (O.map D.str)<|(mkL ws wks x0 O<|G9 ws wks L O).map D.str):=by show(if _ then _ else _)=_;rw[dZ ⟨by rw[aj,aj];exact X.symm,Zz (by rw[aj];(clear X f;lia))⟩]
 have H:((O.map λk=>T3 ws wks k x0).map D.str).length=((jnT<|G9 ws wks L O).map D.str).length:=by rw[aj,aj,aj,aj];exact f.symm
 have y:=λa1 a2 a3 a4 a5 z=>JK Sh.len.symm a1 a2 a3 a4 a5 z (kyP P) aB J;have z2:2<=PySem.sizeLine:=Zz Γ;generalize Ux (P.map Prt.t)=K at*;generalize Ux (U9 (Dd O<|G9 ws wks L O) aB P)=DUE at*;generalize U:(mkL ws wks x0 O<|G9 ws wks L O).map D.str=MK at*;generalize B4 (O.map D.str) MK=ZL at*;generalize W:(jnT<|G9 ws wks L O).map D.str=JN at*;generalize Y:(O.map λk=>T3 ws wks k x0).map D.str=FL at*;generalize Zr O=IO at*;generalize F:(By ws wks L O).map Bx=RW at*;generalize R:O.map D.str=OD at*;generalize (G.map (·.1)).map D.str=GK at*;generalize G.map Wf=GD at*;generalize P.map Prt.pd=PD at*;generalize (kyP P).map D.str=KD at*;generalize Qp ws wks=SD at*;generalize Yd T0=TD at*;generalize Dk L x0 fs m=T at*;generalize stK=SK at*;generalize L.map dT=LD at*;generalize fs.map D.str=FD at*;unfold dT at*;generalize x0.2.1=X0 at*;have pt:Gen.U2 [.lst RW]=aA (.ol JN):=by rw[<-F];exact pt
 obtain⟨y6,y⟩:=y (aA<|.fz TD) (aA<|.fz<|.dK SK T) (aA<|.fz<|.str K) (aA<|.fz<|.lst PD) (aA<|.fz<|.lst KD) [aB,aB,aB,aB,aB];unfold Gen.Gs Gen.Ts;simp[-Yq,-Z7,-Z5,rd,I,y,k1,k3,k4,lst,fc,u,sp,pt,n,w,tt,g,Z,H,z2]
end
theorem Et(f o):((Gx f o).map (·.1)).Sublist [f]:=by
 cases o with
 |none=>exact List.nil_sublist _
 |some t=>exact DR _
theorem wP(Sh:Shf ws wks):Tz 48 (Qp ws wks) (Qp ws wks)=aA aC:=by
 refine UQ 47 ⟨Sh.nd,by rw[aj];exact Sh.len.symm⟩ λv a=>?_;obtain⟨w,_,rfl⟩:=av.mp a;refine M_ (43+3) _ λd hd=>?_;rcases az.mp hd with h|h
 .rw[h];exact A6 (43+2) _
 .rw[ao.mp h];refine UQ (43+2) ⟨(by
   have h:w.ks.Sublist (PG::([TI]++([YR]++([HN]++([Nk]++[Vq]))))):=by unfold Wk.ks Wk.fl;rw[cg,cb,cb,cb,cb];exact List.Sublist.cons₂ _<|(Et TI w.tt).append<|(Et YR w.yr).append<|(Et HN w.hd).append<|(Et Nk w.inn).append<|Et Vq w.nt.text
   exact List.Nodup.sublist h Ξ),by unfold Wk.ks Wk.vs;rw[aj,aj]⟩ λu c=>?_
  obtain⟨p,_,rfl⟩:=av.mp c;exact A6 (43+1) _
theorem gA:(Mq.all λx=>decide (Tz 47 (dT x) (dT x)=aA aC))=aC:=Φ
theorem wO(St:Sty L x0 fs m):Tz 48 (.dK stK<|Dk L x0 fs m) (.dK stK<|Dk L x0 fs m)=aA aC:=by
 refine UQ 47 ⟨Ξ,rfl⟩ λv c=>?_;simp only[Dk,az,w5,or_false]at c;rcases c with e|e|e|e
 .rw[e];refine X8 46 _ λy f=>?_;obtain⟨x,a,rfl⟩:=av.mp f;exact(Iq x<|St.l x a).eq
 .rw[e];exact da<|gi.mp gA x0 St.x
 .rw[e];exact X8 _ _ λx a=>by obtain⟨t,_,rfl⟩:=av.mp a;exact A6 45 t
 .rw[e];exact by simp
noncomputable def lpK:D->Option D
 | .tup [d,_]=>aA d
 |_=>aB
theorem nW(P)(j:P.length<=100):Z7 [.own,.acc] 1 (Zj 0) Gen.Em Gen.En (P.map Prt.ld) [aB,aA<|.ol []]=aA [aB,aA<|.ol<|(kyP P).map D.str]:=by
 have c:=Mf (src:=[.own,.acc]) (k:=1) (g:=Zj 0) (tt:=Gen.Em) (te:=Gen.En) (st:=λzs=>[aB,aA<|.ol zs]) (f:=lpK) (P.map Prt.ld) [] (λd hd zs a hz=>by
  obtain⟨x,_,rfl⟩:=av.mp hd;cases x with
  |sg s=>
   have f:lpK (Prt.ld<|.sg s)=aB:=rfl;rw[f];show Z7 _ _ _ _ _ (.str s::a) _=_
   conv=>lhs;rw[Z7]
   unfold Gen.Em Gen.En;simp[-Z7]
  |pt p=>
   have f:lpK (Prt.ld<|.pt p)=aA (.str p.k):=rfl;rw[f];show Z7 _ _ _ _ _ (.tup [.str p.k,p.e]::a) _=_
   conv=>lhs;rw[Z7]
   unfold Gen.Em Gen.En;simp[-Z7,hz]) (by rw[aj];simp;lia)
 rw[f8]at c;rw[c];have:(P.map Prt.ld).filterMap lpK=(kyP P).map D.str:=by
  clear c j;induction P with
  |nil=>rfl
  |cons x P h=>
   cases x with
   |sg s=>exact h
   |pt p=>exact congrArg (D.str p.k:: ·) h
 rw[this]
theorem JJ(b0 b1 b2 b3 b4 b5 b6 b7 b8 b9 TD PD ws wks)(x0:TQ):∀(Q:À (Str×Str×Str)) i zs x13 x14 x15,
  (∀j q,Q[j]? =aA q->L2.atI PD ((i+j:Nat):Int)=aA (.lst [.str (T3 ws wks q.1 x0)])/\L2.atI TD ((i+j:Nat):Int)=aA (Gz q.2)/\(T3 ws wks q.1 x0).length<=1000/\q.2.2.length<=1000)->zs.length+Q.length<=1000->
  ∃I G g,Yq (W1 2<|Yj (Zj 13)<|Yj (Zj 14)<|W0) Gen.Hg (Uy i<|Q.map λq=>.str q.1) ([b0,b1,b2,b3,b4,b5,b6,b7,b8,b9,aA<|.ol TD,aA<|.ol PD,aA<|.ol zs,x13,x14,x15])=
   aA (.nx<|[b0,b1,b2,b3,b4,b5,b6,b7,b8,b9,aA<|.ol TD,aA<|.ol PD,aA<|.ol<|zs++Q.map λq=>.tup [.str q.1,.str<|mrk (T3 ws wks q.1 x0) q.2],I,G,g])
 | [],i,zs,x13,x14,x15,_,_=>⟨x13,x14,x15,by simp[Uy]⟩
 |q::Q,i,zs,x13,x14,x15,h,hl=>by
  rw[ca]at hl;refine L2.Wv λ_ m=>?_;obtain⟨h1,h2,s,p⟩:=h 0 q rfl;obtain⟨I,G,g,f⟩:=JJ b0 b1 b2 b3 b4 b5 b6 b7 b8 b9 TD PD ws wks x0 Q (i+1) (zs++[.tup [.str q.1,.str<|mrk (T3 ws wks q.1 x0) q.2]]) (aA<|.fz<|.int (i:Int)) (aA<|.fz<|.str q.1) (aA<|.fz<|.str<|mrk (T3 ws wks q.1 x0) q.2) (λj r o=>by
   have:=h (j+1) r o;rw[show i+(j+1)=i+1+j by lia]at this;exact this) Ψ
  apply m;refine⟨I,G,g,?_⟩;rw[f9]at f;have a:zs.length<PySem.sizeLine:=Ya Θ;have h1:L2.atI PD (i:Int)=aA (.lst [.str (T3 ws wks q.1 x0)]):=h1;have h2:L2.atI TD (i:Int)=aA (Gz q.2):=h2;have u:(aa " ^").length=2:=Ξ
  have l:aa ""=Str.empty:=rfl;have i1:L2.atI [D.str q.2.1,D.str q.2.2] 1=aA (.str q.2.2):=rfl;have c:(T3 ws wks q.1 x0++aa " ^").length+q.2.2.length<=PySem.sizeLine:=Zz (by rw[Z2];lia);have n:(T3 ws wks q.1 x0).length+(aa " ^").length<=PySem.sizeLine:=pfx c;refine(Yl (δ1:=[b0,b1,b2,b3,b4,b5,b6,b7,b8,b9,aA<|.ol TD,aA<|.ol PD,aA<|.ol zs,aA<|.fz<|.int (i:Int),aA<|.fz<|.str q.1,x15]) ?_ ?_).trans f
  .skip
   simp
  .unfold mrk;generalize T3 ws wks q.1 x0=FX at*;unfold Gen.Hg;by_cases hs:q.2.2=dy
   .rw[dZ hs];unfold Gz at h2;rw[hs]at i1 h2;simp[h1,h2,l,a,z2]
   .rw[dY hs];simp[h1,h2,hs,l,a,z2,n,c]
theorem kP(ns:À Int):∃g:À Int,Ai (ns.map D.int) (aA 4) (aA 14)=g.map D.int/\g.length<=10:=by
 obtain⟨g,e,_⟩:=qG ns (aA 4)<|aA 14;refine⟨g,e,?_⟩;have h:(Ai (ns.map D.int) (aA 4)<|aA 14).length<=10:=by unfold Ai;rw[om];have c:HT.sIx (ns.map D.int).length (ns.map D.int).length (aA 14)=min 14 (ns.map D.int).length:=HT.sIx_nat _ _ 14;have a:HT.sIx (ns.map D.int).length 0 (aA 4)=min 4 (ns.map D.int).length:=HT.sIx_nat _ _ 4;refine fg (xk _ _) ?_;rw[c,a];lia
 rw[e,aj]at h;exact h
theorem nV(ns:À Int):∃cs:À Int,L2.A3 (1<=cs.length) (cs.length<=10) (∀R,Zo (Z1 1<|Yh D3<|Zd (slF Dh (Za 0) (Q4<|Zb<|.int 4)<|Q4<|Zb<|.int 14) Zh) (Zo (Wo (Zq<|Zf Cz (Yh Qk<|Zd (Za 1) Zh)<|Zb<|.int 0) (Z1 1<|Qa<|Zl (Zb<|.int 1)<|Zp)<|Yb) R) (aA (.fz<|.lst<|ns.map D.int)::aB::ir 14 aB)=R (aA (.fz<|.lst<|ns.map D.int)::aA (.ol<|cs.map D.int)::ir 14 aB)):=by
 obtain⟨a,e,c⟩:=kP ns;have f:1<=PySem.sizeLine:=Zz Γ;by_cases h:a.length=0
 .refine⟨[1],Γ,Γ,λR=>?_⟩;have l:a=[]:=xf h;subst l;generalize ns.map D.int=m at*;simp[e,f]
 .refine⟨a,by clear c;lia,c,λR=>?_⟩;have j:(a.map D.int).length=a.length:=aj ..;generalize ns.map D.int=m,a.map D.int=n at*;simp[e,j,h]
theorem Ba(h1:a δ=aA (.nx δ1))(h2:b δ1=r):Zo a b δ=r:=by simp[h1,h2]
theorem wN(h:f (Qu n ds)=aA (.rt sv)):Yf f n ds=aA sv:=by unfold Yf;rw[h]
theorem De(ns:À Int)(k:Nat)(i)(h:(k:Int)=i):∃c,Gen.Y6 [.lst (ns.map D.int),.int i]=aA (.fz<|.int c):=by
 subst h;exact by
  by_cases h:k<ns.length
  .have a:L2.atI (ns.map D.int) (k:Int)=aA (.int ns[k]):=Wh _ _ _ (by rw[c8,cf h];rfl);refine⟨ns[k],?_⟩;have h':(k:Int)<(ns.length:Int):=Θ
   unfold Gen.Y6 Gen.Uq;simp[h',a]
  .refine⟨0,?_⟩;have h':¬(k:Int)<(ns.length:Int):=Θ
   unfold Gen.Y6 Gen.Uq;simp[h']
theorem M'(ws wks x0):∀O T,B4 (O.map D.str) ((mkL ws wks x0 O T).map D.str)=(O.zip T).map λq=>D.tup [.str q.1,.str<|mrk (T3 ws wks q.1 x0) q.2]
 | [],_=>rfl
 |_::_,[]=>rfl
 |k::O,t::T=>by have a:=M' ws wks x0 O T;unfold B4 mkL at a⊢;simp only[cg,m8]at a⊢;rw[a]
theorem PC:∀{O:À Str} {T:À (Str×Str)},k∈O->T.length=O.length->∃q,L2.A3 (q∈T) ((T.map Gz)[O.findIdx λx=>decide (x=k)]? =aA (Gz q)) (lk O (jnT T) k=aA (q.1++q.2))
 | [],_,h,_=>nomatch h
 |x::O,[],_,h=>nomatch h
 |x::O,t::T,hk,hl=>by
  by_cases e:x=k
  .refine⟨t,ac,?_,?_⟩
   .rw[t9,d_ e];rfl
   .show(if x=k then _ else _)=_;rw[dZ e]
  .obtain⟨q,h1,h2,a⟩:=PC (O:=O) (T:=T) (by
    rcases az.mp hk with z|z
    .exact dt z.symm e
    .exact z)<|xy.inj hl
   refine⟨q,ag _ h1,?_,?_⟩
   .rw[t9,d0 e];exact h2
   .show(if x=k then _ else _)=_;rw[dY e];exact a
theorem rS(n):∀A B,(∀x∈A,Tz n x x=aA aC)->(∀x∈B,Tz n x x=aA aC)->Tz (n+2) (.lst<|B4 A B) (.lst<|B4 A B)=aA aC:=λA B l j=>X8 _ _ λx f=>by
 obtain⟨⟨a,b⟩,h,rfl⟩:=av.mp f;obtain⟨h1,h2⟩:=ph h;refine M_ n _ λy c=>?_;rcases az.mp c with e|c
 .rw[e];exact l _ h1
 .rw[ao.mp c];exact j _ h2
theorem law_true(ns:À Int)(X:ns.length<=63):Gen.VU [.lst (ns.map D.int)]=aA (.fz<|.bl aC):=by
 obtain⟨c0,e0⟩:=De ns 0 0 rfl;obtain⟨c1,W⟩:=De ns 1 1 rfl;obtain⟨c2,U⟩:=De ns 2 2 rfl;obtain⟨c3,e3⟩:=De ns 3 3 rfl;obtain⟨cs,fY,I,Y⟩:=nV ns;obtain⟨ws,n0,M,nd,H⟩:=Ap c0 cs.length Θ;obtain⟨wks,Sh,es⟩:=nM nd Θ H cs M.symm;obtain⟨L,x0,fs,m,St,R⟩:=nL c1 c2;obtain⟨P,K,ep⟩:=nK H Θ (by clear I;lia) c3;have et:=rX K;have kw:∀k∈kyP P,k∈ws:=λk h=>by obtain⟨p,T,rfl⟩:=Db.mp h;exact Vx K p T
 have pl:=Cy K;have kl:(kyP P).length<=17:=fg (List.length_filterMap_le ..) π;obtain⟨G,O,C⟩:=gm Sh St.m3 St.f3 kw kl;have N:=wQ Sh St K C;have Ol:=C.len;have v:=LF Sh St C.mem;have J:(G9 ws wks L O).length=O.length:=by rw[Km,aj]
 have T2:=Dc (By ws wks L O) (By ws wks L O) 0 [] (λr y=>⟨(v r y).1,(v r y).2.2⟩) (by simp;omega);have q1:=wP Sh;have q2:=wO St;have pc:=nW P Θ;have fc:=N5 Gen.MW rfl G (by have:=C.glen;lia);have E:=C.ord;have lst:=C.lst;have sp:=Nz Sh St.l (by have:=St.l6;lia) C.mem (show O.length<=100 by clear J;lia);have er:(O.map<|rrD ws wks L)=(By ws wks L O).map Bx:=by rw[f7];rfl
 rw[er]at sp;have to:Gen.O7 [.lst ((By ws wks L O).map Bx)]=aA (.ol<|(G9 ws wks L O).map Gz):=rV (By ws wks L O) (by rw[aj];exact Ol)<|λr y=>⟨(v r y).1,(v r y).2.1,λt ht=>fg ((v r y).2.2 t ht).1 Γ⟩;have Q:=Nz Sh (L:=[x0]) (λx F=>by rw[ao.mp F];exact St.x) Δ C.mem (show O.length<=100 by clear J;lia);obtain⟨k1,k2,k3,k4⟩:=LG (L:=L) (x0:=x0) (fs:=fs) (m:=m);have dk:=wS K O (G9 ws wks L O) (Dd O<|G9 ws wks L O) Ol (λp T=>by
  have H:=C.sub p.k<|Db.mpr ⟨p,T,rfl⟩;obtain⟨q,h1,h2,h3⟩:=PC H J;have:=T2 q h1;exact⟨H,q,Wh _ _ _ h2,this.l1,this.l2,by unfold Dd;rw[h3];rfl⟩)
 have ze:=M' ws wks x0 O<|G9 ws wks L O;have qz:Tz 48 (.lst<|B4 (O.map D.str)<|(mkL ws wks x0 O<|G9 ws wks L O).map D.str) (.lst<|B4 (O.map D.str)<|(mkL ws wks x0 O<|G9 ws wks L O).map D.str)=aA aC:=rS 46 _ _ (λx F=>by
  obtain⟨s,_,rfl⟩:=av.mp F;exact A6 45 s) (λx F=>by
  obtain⟨s,_,rfl⟩:=av.mp F;exact A6 45 s)
 have zk:(O.zip<|G9 ws wks L O).map (λq=>D.str q.1)=O.map D.str:=by rw[show(λq:Str×Str×Str=>D.str q.1)=D.str∘Prod.fst from rfl,<-f7,ut Θ]
 obtain⟨B,A,z,lo⟩:=JJ (aA<|.fz<|.lst<|ns.map D.int) (aA<|.fz<|.lst<|cs.map D.int) (aA<|.fz<|.lst<|ws.map D.str) (aA<|.fz<|Qp ws wks) (aA<|.fz<|Yd T0) (aA<|.fz<|.dK stK<|Dk L x0 fs m) (aA<|.fz<|.lst<|P.map Prt.ld) (aA<|.fz<|.tup [.str (Ux<|U9 (Dd O<|G9 ws wks L O) aB P),.lst<|B4 (O.map D.str)<|(mkL ws wks x0 O<|G9 ws wks L O).map D.str]) (aA<|.fz<|.lst<|(kyP P).map D.str) (aA<|.fz<|.lst<|O.map D.str) ((G9 ws wks L O).map Gz) (O.map<|rrD ws wks [x0]) ws wks x0 (O.zip<|G9 ws wks L O) 0 [] aB aB aB (λj q hj=>by
  rw[oi];obtain⟨h1,h2⟩:=jz.mp hj;have hq:=T2 q.2<|gh h2;obtain⟨i,hi⟩:=mh<|C.mem q.1<|gh h1;exact⟨Wh _ _ _ (by rw[c8,h1];rfl),Wh _ _ _ (by rw[c8,h2];rfl),fg (X1 Sh hi St.x).2.1 Γ,fg hq.l2 Γ⟩) (by rw[l5];simp;lia)
 rw[f8,zk,<-ze]at lo;obtain⟨n,c,g,Z,tD⟩:∃n c,n=[Sum.inr (aa "part")]/\c=[D.lst [.tup [.str (aa "title"),.str<|aa "title"],.tup [.str (aa "year"),.str<|aa "year"],.tup [.str (aa "book"),.str<|aa "title"]]]/\Yd T0= .dK n c:=⟨_,_,rfl,rfl,rfl⟩
 have i0:∀a b:D,L2.atI [a,b] 0=aA a:=λ_ _=>rfl;have i1:∀a b:D,L2.atI [a,b] 1=aA b:=λ_ _=>rfl;have z1:1<=PySem.sizeLine:=Zz Γ;have z3:3<=PySem.sizeLine:=Zz Γ;have z2:2<=PySem.sizeLine:=Zz Γ;have zc:(cs.map D.int).length<=PySem.sizeLine:=Zz (by rw[aj];(clear M;lia));rw[<-aj (as:=cs) (f:=D.int)]at n0;refine wN ?_;unfold Gen.VW;refine Eq.trans (Y _) ?_;clear Y X;generalize Ux (P.map Prt.t)=TXT,Ux (U9 (Dd O<|G9 ws wks L O) aB P)=DUE,(mkL ws wks x0 O<|G9 ws wks L O).map D.str=MK at*;generalize B4 (O.map D.str) MK=u at*;rw[tD]at N E sp Q lo;generalize (G9 ws wks L O).map Gz=TW,O.map (rrD ws wks [x0])=PW,(By ws wks L O).map Bx=RW,O.map D.str=OD,(G.map (·.1)).map D.str=GK,G.map Wf=GD,P.map Prt.ld=PL,(kyP P).map D.str=w at*;unfold Qp at*;generalize Zr ws=IW,wks.map Wk.d=WD,Dk L x0 fs m=SVV,stK=SK,L.map dT=LD,fs.map D.str=FD at*;rw[show[x0].map dT=[dT x0]from rfl]at Q;generalize dT x0=X0,cs.map D.int=CD,ws.map D.str=KD,ns.map D.int=o at*;refine Ba (δ1:=[aA (.fz<|.lst o),aA<|.ol CD,aA<|.ol KD,aB,aB,aB,aB,aB,aB,aB,aB,aB,aB,aB,aB,aB]) ?_ ?_
 .simp[e0,n0]
 refine Ba (δ1:=[aA (.fz<|.lst o),aA<|.fz<|.lst CD,aA<|.fz<|.lst KD,aA<|.oK IW WD,aB,aB,aB,aB,aB,aB,aB,aB,aB,aB,aB,aB]) ?_ ?_
 .simp[es]
 refine Ba (δ1:=[aA (.fz<|.lst o),aA<|.fz<|.lst CD,aA<|.fz<|.lst KD,aA<|.oK IW WD,aA<|.oK n c,aB,aB,aB,aB,aB,aB,aB,aB,aB,aB,aB]) ?_ ?_
 .rw[g,Z];simp[z2,z3]
 refine Ba (δ1:=[aA (.fz<|.lst o),aA<|.fz<|.lst CD,aA<|.fz<|.lst KD,aA<|.oK IW WD,aA<|.oK n c,aA<|.oK SK SVV,aB,aB,aB,aB,aB,aB,aB,aB,aB,aB]) ?_ ?_
 .simp[W,U,R]
 refine Ba (δ1:=[aA (.fz<|.lst o),aA<|.fz<|.lst CD,aA<|.fz<|.lst KD,aA<|.oK IW WD,aA<|.oK n c,aA<|.oK SK SVV,aA<|.ol PL,aB,aB,aB,aB,aB,aB,aB,aB,aB]) ?_ ?_
 .simp[e3,ep]
 refine Ba (δ1:=[aA (.fz<|.lst o),aA<|.fz<|.lst CD,aA<|.fz<|.lst KD,aA<|.fz<|.dK IW WD,aA<|.fz<|.dK n c,aA<|.fz<|.dK SK SVV,aA<|.ol PL,aA<|.fz<|.tup [.str DUE,.lst u],aB,aB,aB,aB,aB,aB,aB,aB]) ?_ ?_
 .simp[et,N]
 refine Ba (δ1:=[aA (.fz<|.lst o),aA<|.fz<|.lst CD,aA<|.fz<|.lst KD,aA<|.fz<|.dK IW WD,aA<|.fz<|.dK n c,aA<|.fz<|.dK SK SVV,aA<|.ol PL,aA<|.fz<|.tup [.str DUE,.lst u],aB,aB,aB,aB,aB,aB,aB,aB]) ?_ ?_
 .simp[-Tz,es,W,U,R,q1,q2]
 refine Ba (δ1:=[aA (.fz<|.lst o),aA<|.fz<|.lst CD,aA<|.fz<|.lst KD,aA<|.fz<|.dK IW WD,aA<|.fz<|.dK n c,aA<|.fz<|.dK SK SVV,aA<|.fz<|.lst PL,aA<|.fz<|.tup [.str DUE,.lst u],aA<|.ol w,aB,aB,aB,aB,aB,aB,aB]) ?_ ?_
 .simp[-Z7,pc]
 refine Ba (δ1:=[aA (.fz<|.lst o),aA<|.fz<|.lst CD,aA<|.fz<|.lst KD,aA<|.fz<|.dK IW WD,aA<|.fz<|.dK n c,aA<|.fz<|.dK SK SVV,aA<|.fz<|.lst PL,aA<|.fz<|.tup [.str DUE,.lst u],aA<|.fz<|.lst w,aA<|.ol GK,aB,aB,aB,aB,aB,aB]) ?_ ?_
 .simp[-Z7,-Z5,lst,k4,fc]
 refine Ba (δ1:=[aA (.fz<|.lst o),aA<|.fz<|.lst CD,aA<|.fz<|.lst KD,aA<|.fz<|.dK IW WD,aA<|.fz<|.dK n c,aA<|.fz<|.dK SK SVV,aA<|.fz<|.lst PL,aA<|.fz<|.tup [.str DUE,.lst u],aA<|.fz<|.lst w,aA<|.ol OD,aB,aB,aB,aB,aB,aB]) ?_ ?_
 .simp[-Z5,k3,E]
 refine Ba (δ1:=[aA (.fz<|.lst o),aA<|.fz<|.lst CD,aA<|.fz<|.lst KD,aA<|.fz<|.dK IW WD,aA<|.fz<|.dK n c,aA<|.fz<|.dK SK SVV,aA<|.fz<|.lst PL,aA<|.fz<|.tup [.str DUE,.lst u],aA<|.fz<|.lst w,aA<|.fz<|.lst OD,aA<|.ol TW,aB,aB,aB,aB,aB]) ?_ ?_
 .simp[-Z5,k1,sp,to]
 refine Ba (δ1:=[aA (.fz<|.lst o),aA<|.fz<|.lst CD,aA<|.fz<|.lst KD,aA<|.fz<|.dK IW WD,aA<|.fz<|.dK n c,aA<|.fz<|.dK SK SVV,aA<|.fz<|.lst PL,aA<|.fz<|.tup [.str DUE,.lst u],aA<|.fz<|.lst w,aA<|.fz<|.lst OD,aA<|.ol TW,aA<|.ol PW,aB,aB,aB,aB]) ?_ ?_
 .simp[-Z5,k2,Q,z1]
 refine Ba (δ1:=[aA (.fz<|.lst o),aA<|.fz<|.lst CD,aA<|.fz<|.lst KD,aA<|.fz<|.dK IW WD,aA<|.fz<|.dK n c,aA<|.fz<|.dK SK SVV,aA<|.fz<|.lst PL,aA<|.fz<|.tup [.str DUE,.lst u],aA<|.fz<|.lst w,aA<|.fz<|.lst OD,aA<|.ol TW,aA<|.ol PW,aA<|.ol [],aB,aB,aB]) ?_ ?_
 .simp
 refine Ba (δ1:=[aA (.fz<|.lst o),aA<|.fz<|.lst CD,aA<|.fz<|.lst KD,aA<|.fz<|.dK IW WD,aA<|.fz<|.dK n c,aA<|.fz<|.dK SK SVV,aA<|.fz<|.lst PL,aA<|.fz<|.tup [.str DUE,.lst u],aA<|.fz<|.lst w,aA<|.fz<|.lst OD,aA<|.ol TW,aA<|.ol PW,aA<|.ol u,B,A,z]) ?_ ?_
 .simp[-Yq,C7,lo]
 refine Ba (δ1:=[aA (.fz<|.lst o),aA<|.fz<|.lst CD,aA<|.fz<|.lst KD,aA<|.fz<|.dK IW WD,aA<|.fz<|.dK n c,aA<|.fz<|.dK SK SVV,aA<|.fz<|.lst PL,aA<|.fz<|.tup [.str DUE,.lst u],aA<|.fz<|.lst w,aA<|.fz<|.lst OD,aA<|.ol TW,aA<|.ol PW,aA<|.ol u,B,A,z]) ?_ ?_
 .simp
 simp[-Tz,dk,qz]
end My
end
end Lake
open Lake
inductive PySem.W.Fast:Prop|tw4715887147172354033|tw11542837055402291258|tw7768845317288141376|tw7239527255241566215|tw14687401277652914111|tw2466994900190024073|tw353557880830527000|tw942778206559995311|tw11333126990831766915|tw3021113941613410106|tw12467547885614433186|tw12583889010936547981|tw4390850295684951317|tw16146011210195272651|tw7008856536403790268|tw17517872520941574119|tw16640426180676726959|tw748202290351135024|tw12599062821105300290|tw4089475279054020692|tw1532562551875266143|tw2913607501195137126|tw9456673606748844711|tw11454390562653892043|tw3044343957326681202|tw15218042538549809831|tw5547574409997412713|tw14030581220756646080|tw821852572369348903|tw11006845559987720335|tw9426433429554971927|tw11156354701520248947|tw10881507452474485487|tw17091704431605727083|tw14488452714187092618|tw13243013490887003895|tw7748495275704138173|tw4419869162464539779|tw2033746834262764423|tw12633688627144401625|tw12439512366843355210|tw16234969748557146819|tw11330115602581795053|tw6032264821376555454|tw9379224438583709032|tw2326487878372388860|tw7722398287384993652|tw11891614849126483253|tw4038520862789713852|tw17938088705015404283|tw16482500404089323867|tw10143630750882914541|tw824130759718117914|tw4899222933970472894|tw5622377417845550143|tw1913974740973255806|tw12021755334946931241|tw6417166543351693644|tw2200267989740391304|tw14467727328129422082|tw10234857239956588571|tw13380631678383289546|tw14720159708224781426|tw4184254215571498658|tw2519743924032358932|tw6422245470679819476|tw9498397397647079606|tw2614977488242156028|tw4807197366926804106|tw10192119994893817351|tw9918377926000018871|tw1879197487792199495|tw8199091677501757882|tw15039522376140385107|tw6384857414520483791|tw5583912181058735730|tw16348952466115931624|tw5288046673304690707|tw1563378486437503452|tw9867004198469135874|tw13653138856643482442|tw16581422590949151814|tw9275354098041704600|tw2745051890220093406|tw645332872069946960|tw6965013287259654668|tw16185101803494118886|tw16865236677818416217|tw11571314298543034949|tw9818383993976420267|tw11807960569596372478|tw3169588214471441230|tw3402670944436679347|tw958690572580343338|tw7908445244388928928|tw5442412787273720396|tw17814394868464948439|tw4158837144756500343|tw12675796871472347871|tw11640878542878148103|tw14570013417531735673|tw1287838257849576769|tw566339875108120052|tw11426540081746581606|tw2255370919745935697|tw16842550155140183695|tw14298507236674156437|tw10738481381396112050|tw16222174325115702640|tw4415005291614709132|tw4110439648427061765|tw3105530311833651890|tw10306310198003379064|tw15835848727394903625|tw1027680376297481339|tw15707817895807774185|tw1321137408340477808|tw14928508225832871204|tw1046348377224868101|tw9860331481189742790|tw431037070786097210|tw3153039233166129243|tw4481555986977490103|tw6434530815276340726|tw687749974120047576|tw6101031240222006034|tw1085681823974617350|tw16908473173292865809|tw12941859082234705861|tw13872704448153071184|tw12078756450050910842|tw10422175702487596237|tw12509431959808283234|tw17484454351163491254|tw12559455496203917432|tw13295229504080702492|tw10276665800970652227|tw14870060977093721285|tw12476188608118777460|tw10057577792683951244|tw7147097307029924239|tw6344046295355575371|tw6202683555258328951|tw13024487781264578746|tw12199972020868644174|tw15794788136199926868|tw3120357821806514401|tw2514109612797347213|tw14885537830478513699|tw11786714668370796256|tw454536972863499983|tw12794265528959364809|tw10771518816386427205|tw13027507464965391120|tw3689083112205035296|tw7415181752490334575|tw7033480153610308679|tw5242479974381977314|tw15276471044185811539|tw16037358102078434568|tw16402156926189150839|tw4179376749553460931|tw9998378163283991002|tw702865600095530051|tw133579852705200828|tw14677371068477918608|tw8742033296202871967|tw7613033345419274354|tw39756072137844232|tw16318954353020055530|tw8612849454849247293|tw16559423511139578983|tw8915625048620303835|tw15833237030794338841|tw6191416999623455861|tw6064570560354332686|tw14473725951407944722|tw9765564778299359152|tw15271759696284989383|tw17756762520930399327|tw12894453596197657384|tw14987029500487811299|tw14458524772153200682|tw9299602624474623546|tw10206177047314528294|tw16347544642816180397|tw13245106003442113463|tw10478251232598765476|tw14898995497557525456|tw13522084795244136845|tw3140961105875527372|tw11722760229114990771|tw17203689967322144739|tw12205167757402984877|tw2911308673587783590|tw1158320100847432622|tw4245308765802056743|tw1813289372388776594|tw162214785684231338|tw15013362971665874489|tw11405004480505041115|tw1831086472967218382|tw15174491353472992260|tw16152519750239147353|tw6491401988760113356|tw4245020404195522464|tw12783852511699632395|tw729295441975602890|tw4221825069936125959|tw13586157980145950117|tw3183848292286954421|tw1847049561557474228|tw3657690183038538244|tw11262350435867146894|tw16949533070152346455|tw4416498390417360973|tw16682306692645168422|tw7125537776588650449|tw12925096807637626317|tw10991372481616310172|tw4240887387827352204|tw8038411078692813729|tw8614146592895974707|tw12749353968506735506|tw2248588719371462083|tw11728660128852663046|tw2658139173478618200|tw5954286095900491444|tw15029925895719615461|tw12870801607880377778|tw2982135501662973300|tw16736527859921979789|tw2112098895127881280|tw8047844441664812655|tw7577559914340764831|tw9402846308074650880|tw18403677126477685173|tw11073107601216169013|tw16110371648748412690|tw16061409071922009170|tw2061158828512477232|tw3915442901039310817|tw11784959243729352776|tw5769329118400358463|tw8785164123960447162|tw551435054701340082|tw9890879404380348469|tw9895942209916302386|tw4254758351311390668|tw8694649673504952410|tw2977365882038601317|tw10821290971238028750|tw15279565051823455884|tw5722198799746123261|tw11252207611158978713|tw16348023764682107745|tw1709652852658791193|tw6178691012984937809|tw11772197467159339494|tw18187187162766433581|tw2488243035638483457|tw4451605125990057595|tw9701153093490814322|tw9118345099062147772|tw16693774279806128361|tw1398318693345916416|tw2047864769090076981|tw9601984603926901030|tw1027434954738833394|tw3437330254712552489|tw9654129099279502032|tw10737642531240963878|tw8930064510174754043|tw12845840606849919454|tw10151906579706751479|tw6448287894864986852|tw10126353007206326274|tw11533276473621277316|tw15254995556878978854|tw9821521759099798034|tw16302062971728545437|tw2974937292467897539|tw17920793036807653570|tw15946702219985310640|tw13414303517316122165|tw9442871085348617172|tw9958497240378662070|tw15309258447852788443
open PySem.W
set_option maxRecDepth 100000 in
set_option maxHeartbeats 0 in
theorem PySem.Challenge.cw_citeward_k33_whole_texts_set_holds : PySem.Challenge.rw_citeward_k33_whole_texts_set.Holds := by
  w_on; o_law; k_head; (case hw => w_witness2)
  k_fill
  refine' L2.fu (l := PySem.Challenge.rw_citeward_k33_whole_texts_set) (c0 := 392) (tq := 388) rfl rfl (fun w h Y => ⟨PySem.W.km_in_of Y, PySem.W.km_tabs_of Y 388 (by simp)⟩) (fun _ => by kernel_rfl) (fun _ => by kernel_rfl) ⟨rfl, by decide, by decide⟩ My.law_true fun w mg fa h X G m => Gen.eG (c0 := 392) ?E m (by kernel_rfl)
  case E => constructor <;> first | exact PySem.W.mg_of X G | k_is | k_exc | exact PySem.W.mg_none_of X G (by k_is) | exact ⟨_, _, by k_is, L2.eI (by k_is) (by k_is) (by k_is)⟩ | exact ⟨_, _, by k_is, L2.eL (by k_is) (by k_is) (by k_is)⟩ | exact ⟨_, by k_is⟩ | kernel_rfl | exact .mk _ _ _ _ _ _ _ _ _ _ _ _ _ _ _ _ (by k_is) (by first | kernel_rfl | k_exc) (by kernel_rfl) (by k_is)
