import PyProof.Rows.All
import Wide.All
import OpenK.AllK
import Wide.FinOn
import Lean
import PyProof.EqAt
import PyProof.EqKinds
import PyProof.TupleCall
import PySem.SetTable
import PyProof.SetKind
import PyProof.TupleKey
import PyProof.DictKinds
import PyProof.Rows.SetFrom
import PyProof.ZipIter
import KE.KIntText
import PyProof.EnumIter
import PyProof.Rows.SortStr
import PyProof.Rows.SortWalk
import PyProof.Rows.MinMaxN
import PyProof.ConsumeWalk
import PyProof.CollectWalk
import PyProof.WalksMore
import PyProof.CollectStr
import PyProof.Rows.SortShellK
import PyProof.Rows.SortRunsK
import PyProof.SeqI3
import KE.KSortKey
import PyProof.Rows.CallKwBuiltin
import PyProof.SumAny
import KE.KDictSum
import KE.KLam
import PyProof.StrLawsTight
import PyProof.Rows.StrDigits
import PySem.Challenge.RW_notejar_k73_whole_desks
open Option renaming some->Z,none->U,map_eq_some_iff->UX,map_some->VW,isSome_iff_exists->WE,all_some->W1,bind_eq_some_iff->XV,isSome_some->abl,getD_some->abY,getD_none->abZ
open PySem.Str renaming ofString->b_,length->Y2
open PySem renaming wpAny_bind->ck,Value->R,Shared->ge,wpAny_pure->h_,Addr->O,starEach->k_,Program->n_,wpAny->q_,Expr->u_,model->w_,Around->x_,World->y_,Heap->O_,behindInMarks->Q_,mainGlobals->R_,backTo->TF,wpAny_newObj_type->TJ,foldedSetIterable->TU,compareOp->TZ,assignEach->T_,wpAny_call_entry->Ub,wpAny_callSpecial?_slot->Uc,wpAny_mono->Ur,keywordEach->Us,wpAny_holding->Uu,strKind->Uy,wpAny_setState_of->UB,swapsWith->UD,Stmt->UH,wpAny_setField_rec->UJ,cellsFrom->UL,FuncData->UP,attributeBase->UQ,wpAny_Call_Name_kw->UV,codeAny_builtin->UY,Builtin->U9,wpAny_field->U_,backToKw->Va,rawInt->Vd,wpAny_seqItems->Vk,bootBuiltins->Vn,wpAny_truthy_bool->Vx,Scope->VD,wpAny_attempt->VH,codeAny_mono->VI,wpAny_typeNameOfWhole_valiter->VO,Keyword->V0,wpAny_of_eq->V3,wpAny_fieldsOf->V7,firstArgMember->V8,pyNext->Wf,wpAny_typeOf->Wm,binaryOp->Wn,wpAny_typeNameOf_valiter->Ww,wpAny_rule->Wx,sysModules->Wy,wpAny_setEntries_of->WF,mem_of_lookup->WG,codeAny->WH,wpAny_getItem_str_slice->WI,wpAny_askSetting->WJ,assign->WK,NameKind->WM,wpAny_pyIter_tuple->WS,Model->WX,PassesOwn->W5,wpAny_isOneOf_valiter->W6,wpAny_pyIter_list->W9,sizeLine_eq->Xd,wpAny_isInstance->Xi,wpAny_forIn_list->Xj,holding->Xk,wpAny_newList->Xx,wpAny_passesOwn->XB,typeIs_str->XE,sliceBounds->XR,wpAny_storeSet_of->X2,wpAny_runValue->X3,newFunctionEnv->X4,IsPair->X9,weight_type_call_type->Yr,closureFor->Yv,call_meets->Yw,plainId_quiet->Yy,codeAny_call_builtin->YB,wpAny_loadPart'->YF,post_val_or_str->YG,letOwnedTupleGo->YH,codeAny_of_tree->YI,pickOrder->YV,wpAny_setField->YW,wpAny_call->YX,isSubtype_stop->YY,wpAny_pyIter_slot->Zc,wpAny_dictEntries->Zd,wpAny_handled->Zp,wpAny_comprehension_free->Zq,setSearchFrom->Zr,Result->Zs,tupleKind->ZA,relayAll->ZB,putSet_of->ZC,noFill_tuple_add->ZD,check_set_init_1->ZE,setNext->ZU,setAddHashed->ZV,richCompare_meets_room->ZW,getItem->ZX,IsPart->Z3,wpAny_execs_nil->aac,wpAny_dictEpoch->aad,importedModules->aae,wpAny_eqIsQuiet_tuple->aan,builtinLookup_eq_fast->aao,wpAny_updateSeq_pair->aau,wpAny_throw->aav,wpAny_newTuple->aaw,unsupported->aax,setAddHashedIn->aay,pyIter->ž,lookup_relabel_local->aaA,isSubtype_type->aaB,Params->ŵ,IsZip->ř,GenState->aaH,treeTable->aaU,standAt->aaV,getMethod->aaW,callerA->aaX,Fin->aaY,wpAny_standAt->aa9,wpAny_onRaise->aa_,swapsWithSole->aba,swappedStores->abb,seq_tuple_add->abc,setsByText->abg,builtinsNs->abh,valueAt->abp,notedBy->abr,newTuple->abt,newList->abu,list_append->abv,concat_meets->abw,collect->abx,bindArgs->aby,Within->abz,BindsTo->abH,Thread->abT,wpAny_letGo->ab4,subscripted->ab5,strIterType->ab6,seqIndex_of->ab7,CmpOp->ź,relabel->acf,typeOf->aci,storeSet->acj,slotArgs->ack,raiseNew->acl,newExc->acm,intText?->acn,field->ſ,call->acp,boot_len->acq,bindL->K',bindC->P',atKey->J',again->T',ZipApart->acv,Paired->acz,ItemsAre->acA
open PySem.W renaming Frag->d_,findIn->UZ,kia_one->Vb,nsIn->Vc,emptyDict->Vg,keepIn->Vl,fnOf->VJ,instObj->VV,kitOne->WL,plainGet->Xl,hasDictIn->X5,codeIn->X6,mg_of->Yz,plainGet_of->YN,lookIn->YZ,callWith_K->Y0,plainOver->Ze,methodObj->Zf,isFn->ZY,cellsFrom_some->ZZ,absHeap->Z0,takerIn->aaf,OpenLaw->aag,methodCall_KW->aap,kitx_list->abA,kitx_dict->abB,handedIn->abR,makesIn->acb,through->acg,openEnds->acw,WalkO->acG,kHook->Z'
open Bool renaming true->L,false->D,and_eq_true->pi,false_eq_true->xy,false_ne_true->D_,eq_iff_iff->U4,and_eq_true_iff->Vs,not_true->XA,not_false->Ym,not_eq_true'->Yn,or_false->Zz,not_not->aaa
open PySem.Heap renaming get?_push_of_some->i_,get?_push_size->m_,lt_size->s_,size_push->L_,get?_update_ne->U7,get?_update_self->U8,get?_push_ne->Vh,SameBut->VA,get?_update_other->V1,size_update->V6,get?_none_of_le->YC,ExtBut->aaG
open PySem.Value renaming type->l_,ref->z_,none->C_,bool->H_,str->U5,builtin->Vt,isStrOf->Wz,int->ZF,notImplemented->aaC,isStrOf_shape->aa2,float->ab8
open List renaming mem_cons_self->on,mem_append_right->p_,range->rl,mem_cons_of_mem->r_,getElem?_eq_getElem->t_,mem_cons->v_,getElem?_eq_some_iff->B_,getElem?_set_ne->E_,map_cons->F_,mem_map->G_,size_toArray->I_,getElem?_map->J_,getElem?_set_self->K_,getElem?_append_left->M_,length_map->N_,getElem?_append_right->P_,mem_of_getElem?->S_,prefix_refl->Tx,pairwise_cons->TC,not_mem_nil->TD,mem_append_left->TH,length_cons->TW,mem_filter->TY,mem_singleton->Ua,replicate->Ud,mem_append->Ue,length_set->Uf,lookup_cons->Uj,getElem?_eq_none->Uo,map_map->Uq,length_append->Uw,mem_range->Ux,all_eq_true->Uz,nodup_cons->U0,map_append->U1,map_congr_left->Vf,length_filter_le->Vj,length_eq_zero_iff->Vr,any_cons->Vw,length_replicate->VE,all_cons->VN,filter_cons_of_neg->VS,append_assoc->VT,find?_cons->VX,getElem?_range->VZ,set_cons_zero->Wb,set_cons_succ->Wc,getD->Wj,filter_cons_of_pos->WP,any_eq_true->WQ,lookup_append->WW,append_nil->W3,pairwise_map->W_,nodup_append->Xa,length_range->Xb,perm_append_singleton->Xg,getD_eq_getElem?_getD->Xh,getElem_mem->Xo,getElem_map->Xp,drop_length->Xq,pairwise_iff_getElem->Xs,filterMap_cons->Xw,zip_cons_cons->XM,prefix_append->XN,lookup->XX,getElem?_replicate->XY,getElem?_cons_succ->XZ,take_of_length_le->Yi,forIn_nil->Yj,filter_eq_nil_iff->Yk,ext_getElem?->Yl,length_drop->Yx,length->YE,forIn_cons->YL,foldl_cons->YM,filter_sublist->YO,map_nil->YU,length_eraseIdx_of_lt->Y8,getElem?_drop->Y9,find?_eq_none->Y_,filterMap_map->Za,getElem?_take_of_lt->Zy,zipIdx_cons->ZP,pairwise_singleton->ZQ,length_take->ZR,ext_getElem->ZS,range_succ_eq_map->Z9,pairwise_lt_range->Z_,zipIdx_nil->aai,range_succ->aaj,of_mem_zip->aak,length_singleton->aat,not_lt->aaN,nodup_nil->aaO,mem_iff_getElem->aaP,lt_irrefl->aaQ,drop_zero->aaR,toList_toArray->aa6,reverse_append->aa7,getElem_of_mem->aa8,lt_trans->abf,mem_filterMap->abm,filter_filter->abn,mapM_toArray->abN,filter_congr->abO,any_eq_false->abP,le_antisymm->ab1,getElem_zip->ab2,getElem_inj->ab3,length_nil->acd,find?_some->ace
open Nat renaming le_refl->o_,ne_of_lt->A_,lt_of_lt_of_le->TB,zero_le->TN,lt_succ_of_lt->TV,le_trans->TX,lt_irrefl->UR,lt_succ_self->U6,le_of_ble_eq_true->Vi,le_add_right->VF,le_succ->VR,eq_of_beq_eq_true->We,ne_of_gt->Wr,le_of_lt_succ->Ws,zero_add->WU,le_of_lt->WV,sub_self->Xn,not_lt_zero->XD,mod_lt->XJ,succ_pos->Ye,ne_of_beq_eq_false->Yg,le_of_eq->Yh,lt_trans->YT,lt_trichotomy->Zl,add_sub_cancel_left->ZO,beq->Z8,ble->aa1,add_left_cancel->aa5,succ_add->abM,min_le_right->ab0
open Decidable renaming decide->uk
open Eq renaming trans->Tz
open PySem.SetTable renaming insertAt->TM,grown->Vy,insertAt_perm->Z2,leap->abd,turns->Ū,tooFull->abU,advance->abV,runEnd->acx,layClean->acy,fits->acH,fill->acI
open PySem.Obj renaming mapSeq->TQ,mk->UF,putSet->WB,data_mapFields->XF,isFreed_of_fields->aar,mapFields->abe,cls_mapFields->abE
open PySem.Txt renaming startswith->Ug,stripChars->VP,partition->V4,split->Wh,join->Xe,endswith->X7,slice_le->Z1,slice->abS,rfind->acL
open PySem.PyData renaming canLay0->Uh,eqv->UC,canLayAll0->Vz,eqvAll->V5,depthAll->XC,depth->X8
open PySem.F renaming called_set->Ui,slot_dict_valueiterator_next->UO,slot_tuple_iterator_next->V9,slot_list_append->W7,args_dict_valueiterator_next_1->Xf,entry_dict_valueiterator_next->Xm,args_tuple_add_2->Xy,plainAttrs_list->XS,entry_tuple_add->XT,slot_str_split->X1,slot_tuple_add->X_,slot_dict_get->Ys,slot_dict_values_iter->YD,slot_zip_next->YJ,args_tuple_iterator_next_1->YK,entry_tuple_iterator_next->YS,args_str_split_2->Y3,entry_type_call->Zg,entry_str_split->Zh,type_list_append->Zu,slot_dict_values->Zv,typeCall_set_1->ZH,slot_str_partition->ZI,slot_list_index->ZJ,plainAttrs_dict->ZK,entry_set_init->ZL,args_dict_get_3->ZM,entry_dict_get->Z4,sub_list_frozenset->aaI,args_list_append_2->aaJ,entry_list_append->aa3
open Option.some renaming inj->Uk,injEq->Wq
open PyProof.Rows renaming seqObj->Ul,callWith_type1->UM,slot_tuple_getitem->UN,SortSt->Wa,SortKind->Wp,listUpdate_at->WD,callWith_builtin1->WN,listItems_at->WT,get?_update_seq->W0,envOfC->Xv,size_push'->XH,arrOf->Yt,Keyed->Yu,seqEpoch_at->Zi,pairsOf->Zj,AllBare->Zk,pendingOf->ZN,subscriptTail_builtinR->Z6,pairsOf_size->Z7,entry_list_sort->aah,slot_list_sort->aaL,failedOf->aaM,oneLt'_eq->aaZ,IntsAre->aa0,lt_str->aa4,typeIs_bool'->abI,plain_sorted->abJ,entry_sorted->abK,StrsAre->abL,strOf->ű,kind_sorted->aca,tuples'->ach,IsTup->L'
open PySem.Builtin.Str renaming occurrences->Um,strKind->VY,glued->abG
open PySem.Data renaming fields->Ut,dict->Wi,cls->Yb
open Array renaming length_toList->UG,getElem?_eq_some_iff->VC,size_map->Wd,mem_toList_iff->Wu,getElem?_toList->W8,getD_eq_getD_getElem?->Xc,getElem?_map->XO,forIn_toList->XQ,toList_push->Yo,toList->Yp,size_append->Zo,replicate->aam,toArray_toList->aaT,append_assoc->abo
open False renaming elim->UK
open PySem.Builtin.SmallTypes renaming nextOf->UU,ownedTupleIsFree->Vm,ownedTupleHandOut->Xu
open PySem.ClassData renaming mk->UW
open PySem.Heap.SameBut renaming update->Ve
open PySem.Around renaming under_plainId->Vo,under_plain->Y7,under->Z5
open PyProof.Rows.F renaming plain_set_update_loop->Vq,entry_set_update_loop->WO
open PySem.NameKind renaming free->Vu,cell->VM
open Ne renaming symm->VB
open Int renaming emod_lt_of_pos->VG,toNat_natCast->VU,emod_nonneg->Wl,le_refl->Zn
open PySem.Builtin.List renaming listExtendWith->V2,listItems->Yd,listSameRef->Zw
open PySem.Calls renaming spliced_cons->V_,spliced_nil->Wo,callWith_builtin->Yc,Name_function_global->Y4,call_function_entry->Zb,evalArgs_plain->aaK
open PySem.Builtin.Slice renaming slicePlaces->Wg,sliceAdjust->Xr,sliceApplied->Y6
open True renaming intro->Wv
open PySem.Shared renaming TypeIs->WA
open PySem.Builtin.Tuple renaming tupleExact->WC,tupleCompareSizes->Yq,tupleItemsOf->Y5
open Sum renaming inl->WR,inr->ZT
open PySem.Builtin.Frozenset renaming updateFrom->WY,newClass->acB,sizeOf->acJ,slot0->acM
open PySem.Builtin.Dict_items renaming ownsTuple->WZ,newIterator->abX,dictOf->acF
open ForInStep renaming yield->W4
open Function renaming comp->Xz
open PySem.Code renaming quiet_builtin->XG,isFrame->abF
open LawfulBEq renaming eq_of_beq->X0
open PySem.SetTable.layClean renaming free->YA
open PySem.W.Fast renaming tw11892475500146522536->YQ,tw10156331382660048174->YR,tw6613529449190102663->Y1
open List.Pairwise renaming nil->Zm
open PySem.Paired renaming length->Zt
open PySem.AutoSeq1 renaming sub_tuple_tuple->Zx
open PySem.SetTable.probe renaming go->ZG
open StateT renaming run_pure->aab
open List.cons renaming injEq->aal
open PySem.StrLaws renaming glued_eq_join->aaq
open PySem.Builtin.Dict renaming showsAll->aas
open PySem.SeqAt.EqAt renaming bool_bool->aaD,str_int->abj,int_str->abk
open List.Perm renaming swap->aaS
open PySem.Walks renaming list->abi
open PySem.pickOrder renaming go->abq
open PySem.SetTable.below renaming go->abD
open Std.Legacy renaming Range->abQ
open PySem.IsL renaming update->abW
open PyProof.Rows.SortSt renaming mk'->acC
open ForIn renaming forIn->G'
open PyProof.Rows.IsTup renaming new->acN
set_option compiler.extract_closed false
set_option bootstrap.genMatcherCode false
set_option maxHeartbeats 4000000
set_option Elab.async false
open PySem.Challenge renaming pw_notejar_k73_whole_desks->p9_,rw_notejar_k73_whole_desks->r9_
local macro_rules|`(def $i $s:optDeclSig $v)=>`(noncomputable def $i $s:optDeclSig $v)
local macro_rules|`(tactic|lk)=>`(tactic|kernel_rfl)
local macro_rules|`(tactic|room)=>`(tactic|with_unfolding_all assumption)
namespace TR
open PySem PySem.W
def kH(c:String->Option U9)(p:n_)(w:y_)(a:Nat)(b:Option R):Nat->SharedT->abT->Option SharedT|0,_,_=>U|n+1,s,t=>match acg t with|true=>Z s|false=>match stepOk a b t with|false=>U|true=>match stepT (denote c) p w s t with|some (e,d)=>kH c p w a b n e d|none=>U
def mf:List Obj->BT->Nat->Option (BT×Nat)|[],t,n=>Z (t,n)|o::os,t,n=>match((t.ins n o).get n).isSome with|true=>mf os (t.ins n o) (n+1)|false=>U
def BJ(c:String->Option U9)(p:n_)(w:y_)(N:Nat):Option ge:=(fencedOpening c p w N).bind λa=>match a.heap.isNs R_&&a.gens.size==0 with
 |true=>(mf a.heap.objs.toList .nil 0).bind λx=>(kH c p w a.heap.objs.size (a.heap.nsMap R_ "__annotations__") N ⟨x.1,x.2,a.heap.life,a.gens,a.drawn,a.toks,a.os⟩ (topStub p)).bind λb=>match staticsOk (aae p.main.body) a.heap b.abs.heap&&namesBound p b.abs.heap&&gensDone b.abs&&laidKept a.heap b.abs.heap with|true=>Z b.abs|false=>U
 |false=>U
def lr{d:String->Option U9}{p:n_}{w:y_}{a:Nat}{b:Option R}:∀(n:Nat)(s:SharedT)(t:abT)(c:SharedT),kH d p w a b n s t=Z c->topRun d p w a b n s.abs t=Z c.abs|0,_,_,_,h=>by cases h|n+1,s,t,c,h=>by unfold kH at h;unfold topRun;cases f:acg t with|true=>rw[f]at h;cases h;rfl|false=>rw[f]at h;cases g:stepOk a b t with|false=>rw[g]at h;cases h|true=>rw[g]at h;cases e:stepT (denote d) p w s t with|none=>rw[e]at h;cases h|some x=>obtain⟨j,i⟩:=x;rw[e]at h;dsimp only at h⊢;rw[stepT_spec e];exact lr n j i c h
def mh{a:Life}:∀(os:List Obj)(t:BT)(n:Nat)(b:BT)(c:Nat),mf os t n=Z (b,c)->(Z0 b c a).objs=(Z0 t n a).objs++os.toArray|[],t,n,b,c,h=>by cases h;simp|o::os,t,n,b,c,h=>by unfold mf at h;cases e:((t.ins n o).get n).isSome with|false=>rw[e]at h;cases h|true=>rw[e]at h;rw[mh os _ _ _ _ h,absHeap_ins e];show(Z0 t n a).objs.push o++os.toArray=_;simp
variable{n:n_}{j:y_}{b:Nat}{d:ge}
def wz{p:String->Option U9}(h:BJ p n j b=Z d):acw p n j b=Z d:=by unfold BJ at h;unfold acw;obtain⟨c,z,f⟩:=XV.mp h;rw[z];show topFrom p n j b c=Z d;unfold topFrom;cases q:(c.heap.isNs R_&&c.gens.size==0)with|false=>rw[q]at f;cases f|true=>
 rw[q]at f;dsimp only at f⊢;obtain⟨⟨m,o⟩,y,w⟩:=XV.mp f;obtain⟨H,v,u⟩:=XV.mp w;have e:=mh (a:=c.heap.life) _ _ _ _ _ y;have E:Z0 m o c.heap.life=c.heap:=by
  have B:(Z0 m o c.heap.life).objs=c.heap.objs:=by rw[e];show(Z0 BT.nil 0 c.heap.life).objs++c.heap.objs.toList.toArray=_;simp[Z0,BT.list]
  obtain⟨⟨s,i⟩,g,a,k,os⟩:=c;show Heap.mk _ _=Heap.mk _ _;exact congrArg (Heap.mk · i) B
 have r:=lr _ _ _ _ v;have A:(SharedT.abs ⟨m,o,c.heap.life,c.gens,c.drawn,c.toks,c.os⟩)=c:=by show Shared.mk (Z0 m o c.heap.life) _ _ _ _=c;rw[E]
 rw[A]at r;rw[r];exact u
variable{P:Type}{È:P}
def xF{a:String->Option U9}{f:ge->P}(h:(BJ a n j b).map f=Z È):(acw a n j b).map f=Z È:=by obtain⟨s,d,c⟩:=UX.mp h;rw[wz d];exact congrArg Z c
def O1(c:String->Option U9)(p:n_)(w:y_)(a:Nat)(b:Option R)(n:Nat):SharedT->abT->Option SharedT:=@Nat.rec (λ_=>SharedT->abT->Option SharedT) (λ_ _=>U) (λ_ d s t=>@Bool.rec (λ_=>Option SharedT) (@Bool.rec (λ_=>Option SharedT) U (@Option.rec (SharedT×abT) (λ_=>Option SharedT) U (λx=>d x.1 x.2) (YR (YQ c) p w s t)) (Y1 a b t)) (Z s) (acg t)) n
def xG{c:String->Option U9}{p:n_}{w:y_}{a:Nat}{b:Option R}:∀(n:Nat)(s:SharedT)(t:abT),O1 c p w a b n s t=kH c p w a b n s t|0,_,_=>rfl|n+1,s,t=>by show@Bool.rec (λ_=>Option SharedT) (@Bool.rec (λ_=>Option SharedT) U (@Option.rec (SharedT×abT) (λ_=>Option SharedT) U (λx=>O1 c p w a b n x.1 x.2) (YR (YQ c) p w s t)) (Y1 a b t)) (Z s) (acg t)=_;unfold kH;rw[<-Fast.te10156331382660048174,<-Fast.te11892475500146522536,<-Fast.te6613529449190102663];cases acg t with|true=>rfl|false=>cases stepOk a b t with|false=>rfl|true=>cases stepT (denote c) p w s t with|none=>rfl|some x=>exact xG n x.1 x.2
def openQ(c:String->Option U9)(p:n_)(w:y_)(N:Nat):Option ge:=(fencedOpening c p w N).bind λa=>match a.heap.isNs R_&&a.gens.size==0 with
 |true=>(mf a.heap.objs.toList .nil 0).bind λx=>(O1 c p w a.heap.objs.size (a.heap.nsMap R_ "__annotations__") N ⟨x.1,x.2,a.heap.life,a.gens,a.drawn,a.toks,a.os⟩ (topStub p)).bind λb=>match staticsOk (aae p.main.body) a.heap b.abs.heap&&namesBound p b.abs.heap&&gensDone b.abs&&laidKept a.heap b.abs.heap with|true=>Z b.abs|false=>U
 |false=>U
def openQ_map{a:String->Option U9}{f:ge->P}(h:(openQ a n j b).map f=Z È):(acw a n j b).map f=Z È:=by refine xF ?_;unfold openQ at h;unfold BJ;simp only[xG]at h;exact h
end TR
variable{n:n_}{j:y_}{b:Nat}{d:ge}{P:Type}{È:P}
namespace G
open PySem PySem.W PyProof.Rows
def hT(i:Nat):UH:=p9_.main.body.getD i (.Pass ⟨0,0,0,0⟩)
def hA(s:UH):Arguments:=match s with|.FunctionDef _ a _ _ _ _ _ _ _ _=>a|_=>{posonlyargs:=[],args:=[],vararg:=U,kwonlyargs:=[],kw_defaults:=[],kwarg:=U,defaults:=[]}
def hB(s:UH):List UH:=match s with|.FunctionDef _ _ b _ _ _ _ _ _ _=>b|_=>[]
def hS(s:UH):VD:=match s with|.FunctionDef _ _ _ _ _ _ a _ _ _=>a|_=>{kind:=.function,names:=[],isGenerator:=D,isCoroutine:=D}
noncomputable abbrev kS(s:String)(t:Nat):R:=.str (b_ s) t
noncomputable abbrev kR(a:Nat):R:=.ref a
noncomputable abbrev kI(i:Int)(t:Nat):R:=.int i t
noncomputable abbrev kE(P:ŵ)(s:String)(t:Nat)(v:R):DictEntry:=⟨PySem.PyData.keyHash P (b_ s),.str (b_ s) t,v⟩
def kF(x:String)(i:Nat)(m:String)(t c:Nat):Obj:=UF (l_ "function") U (Data.func (fnOf (b_ x) (b_ x) (hA (hT i)) (hB (hT i)) (hS (hT i)) .none C_ C_ (kS m t) U (kR c) C_)) #[]
def š(x:String)(i c:Nat):=kF x i "law_notejar_k73_whole_desks" 1238 c
def hC(s:UH)(j:Nat):UH:=match s with|.ClassDef _ _ _ b _ _ _ _ _ _ _=>b.getD j (.Pass ⟨0,0,0,0⟩)|_=>.Pass ⟨0,0,0,0⟩
def kM(x q:String)(i j:Nat)(m:String)(t c:Nat):Obj:=UF (l_ "function") U (Data.func (fnOf (b_ x) (b_ q) (hA (hC (hT i) j)) (hB (hC (hT i) j)) (hS (hC (hT i) j)) .none C_ C_ (kS m t) U (kR c) C_)) #[]
def kC(x:String)(a b c:Nat)(d e f:Int)(g:Nat)(h:Int)(i j:Nat)(k l:Int)(m:Nat):Obj:=UF (l_ "code") U (Ut #[kS x a,kS x b,kS "/claim/cut.py" c,kI d 0,kI e 0,kI 0 0,kI 0 0,kI f 0,kR g,H_ L,kI h 0,kR i,C_,C_,C_,kR j,kI k 0,kI l 0,kS "/claim/cut.py" m]) #[]
def kD(x:String)(a b c:Nat)(d e f:Int)(g:Nat)(h:Int)(i u v j:Nat)(k l:Int)(m:Nat):Obj:=UF (l_ "code") U (Ut #[kS x a,kS x b,kS "/claim/cut.py" c,kI d 0,kI e 0,kI 0 0,kI 0 0,kI f 0,kR g,H_ L,kI h 0,kR i,C_,kR u,kR v,kR j,kI k 0,kI l 0,kS "/claim/cut.py" m]) #[]
def KKa(P:ŵ):Frag:=[(2,UF C_ U (Wi #[]) #[]),(3,UF (l_ "dict") U (Wi #[kE P "__name__" 165 (kS "law_notejar_k73_whole_desks" 1238),kE P "__doc__" 166 C_,kE P "__package__" 167 C_,kE P "__loader__" 168 (Vt "__main__.__loader__#opaque"),kE P "__spec__" 169 C_,kE P "__annotations__" 170 (kR 6),kE P "__builtins__" 171 (kR 4),kE P "__file__" 173 (kS "/claim/cut.py" 172),kE P "__cached__" 174 C_,kE P "_wall" 193 (kR 21),kE P "JarError" 213 (kR 31),kE P "NoName" 229 (kR 44),kE P "NoTable" 245 (kR 56),kE P "NoPath" 261 (kR 68),kE P "NoAsk" 277 (kR 80),kE P "NoNote" 293 (kR 92),kE P "NoJar" 309 (kR 104),kE P "NoNumber" 325 (kR 116),kE P "is_text_of" 333 (kR 123),kE P "is_whole_number" 342 (kR 130),kE P "is_tuple_of" 350 (kR 137),kE P "FIGURES" 354 (kS "0123456789" 353),kE P "LABEL_SIGNS" 356 (kS "abcdefghijklmnopqrstuvwxyz0123456789-" 355),kE P "LONGEST_LABEL" 358 (kI 8 357),kE P "MOST_LABELS" 360 (kI 5 359),kE P "MOST_RULES" 362 (kI 8 361),kE P "is_label" 369 (kR 144),kE P "is_name" 375 (kR 149),kE P "is_rule" 382 (kR 156),kE P "is_table" 388 (kR 161),kE P "need_name" 395 (kR 168),kE P "need_table" 402 (kR 175),kE P "lies_within" 410 (kR 182),kE P "ends_longest_first" 416 (kR 187),kE P "behind_first_dot" 423 (kR 194),kE P "is_told_open" 431 (kR 201),kE P "find_open_end" 441 (kR 208),kE P "find_own_end" 452 (kR 215),kE P "PATH_SIGNS" 456 (kS "abcdefghijklmnopqrstuvwxyz0123456789-_./" 455),kE P "LONGEST_PATH" 458 (kI 20 457),kE P "is_path" 465 (kR 222),kE P "need_path" 472 (kR 229),kE P "folder" 480 (kR 236),kE P "lies_under" 488 (kR 243),kE P "LAST_MOMENT" 492 (kI 9999 491),kE P "ASK_SAFE" 494 (kI 0 493),kE P "ASK_HOUSE" 496 (kI 1 495),kE P "ASK_PATH" 498 (kI 2 497),kE P "ASK_ORIGIN" 500 (kI 3 499),kE P "ASK_PARTS" 502 (kI 4 501),kE P "is_moment" 509 (kR 250),kE P "is_moment_or_none" 516 (kR 257),kE P "need_moment" 523 (kR 264),kE P "is_ask" 530 (kR 271),kE P "need_ask" 537 (kR 278),kE P "comes_from_near" 548 (kR 285),kE P "NOTE_NAME_SIGNS" 552 (kS "abcdefghijklmnopqrstuvwxyzABCDEFGHIJKLMNOPQRSTUVWXYZ0123456789-_" 551),kE P "LONGEST_NOTE_NAME" 554 (kI 10 553),kE P "NO_WORTH_SIGNS" 556 (kS ";,=" 555),kE P "LONGEST_WORTH" 558 (kI 12 557),kE P "MOST_FIGURES" 560 (kI 4 559),kE P "GIVEN_NAME" 562 (kI 0 561),kE P "GIVEN_WORTH" 564 (kI 1 563),kE P "GIVEN_HOUSE" 566 (kI 2 565),kE P "GIVEN_PATH" 568 (kI 3 567),kE P "GIVEN_UNTIL" 570 (kI 4 569),kE P "GIVEN_LASTS" 572 (kI 5 571),kE P "GIVEN_SAFE" 574 (kI 6 573),kE P "GIVEN_REACH" 576 (kI 7 575),kE P "GIVEN_PARTS" 578 (kI 8 577),kE P "is_note_name" 585 (kR 292),kE P "is_worth" 591 (kR 297),kE P "is_reach" 598 (kR 304),kE P "is_given" 605 (kR 311),kE P "need_given" 612 (kR 318),kE P "is_written_moment" 619 (kR 325),kE P "what_is_told" 629 (kR 332),kE P "read_given" 635 (kR 337),kE P "NOTE_NAME" 639 (kI 0 638),kE P "NOTE_WORTH" 641 (kI 1 640),kE P "NOTE_HOUSE" 643 (kI 2 642),kE P "NOTE_EXACT" 645 (kI 3 644),kE P "NOTE_PATH" 647 (kI 4 646),kE P "NOTE_ENDS" 649 (kI 5 648),kE P "NOTE_SAFE" 651 (kI 6 650),kE P "NOTE_REACH" 653 (kI 7 652),kE P "NOTE_MADE" 655 (kI 8 654),kE P "NOTE_USED" 657 (kI 9 656),kE P "NOTE_PARTS" 659 (kI 10 658),kE P "is_open" 667 (kR 344),kE P "is_exact" 677 (kR 351),kE P "keeps_its_mark" 687 (kR 358),kE P "why_refused" 697 (kR 365),kE P "is_note" 704 (kR 372),kE P "house_for" 712 (kR 379),kE P "path_for" 720 (kR 386),kE P "end_for" 728 (kR 393),kE P "made" 738 (kR 400),kE P "key" 745 (kR 407),kE P "has_ended" 753 (kR 414),kE P "is_for" 761 (kR 421),kE P "goes" 771 (kR 428),kE P "MOST_NOTES" 775 (kI 20 774),kE P "is_jar" 781 (kR 433),kE P "is_by_made" 787 (kR 438),kE P "has_no_key_twice" 793 (kR 443),kE P "need_jar" 800 (kR 450),kE P "need_no_more_than_a_jar_has" 807 (kR 457),kE P "swept" 815 (kR 464),kE P "without_ended" 821 (kR 469),kE P "forgotten" 827 (kR 474),kE P "put" 833 (kR 479),kE P "read_what_is_given" 845 (kR 486),kE P "verdict" 857 (kR 493),kE P "word_of" 863 (kR 498),kE P "shadows" 872 (kR 505),kE P "taken" 878 (kR 510),kE P "take_in" 884 (kR 515),kE P "need_sending" 894 (kR 522),kE P "sent" 900 (kR 527),kE P "sent_text" 906 (kR 532),kE P "used" 912 (kR 537),kE P "used_at" 920 (kR 544),kE P "merged" 933 (kR 551),kE P "place_of" 940 (kR 558),kE P "later_of" 948 (kR 565),kE P "when_last" 955 (kR 572),kE P "Desk" 1089 (kR 673),kE P "LARGEST_ROOM" 1093 (kI 20 1092),kE P "need_room" 1100 (kR 684),kE P "group_of" 1109 (kR 691),kE P "fit" 1115 (kR 696),kE P "too_many" 1124 (kR 703),kE P "rank" 1131 (kR 710),kE P "without" 1137 (kR 715),kE P "Keeper" 1237 (kR 781),kE P "_law_cell" 1247 (kR 792),kE P "_law_drawn" 1257 (kR 799),kE P "_law_name" 1266 (kR 806),kE P "_law_table" 1272 (kR 811),kE P "_law_path" 1281 (kR 818),kE P "_law_ask" 1290 (kR 825),kE P "_law_within" 1298 (kR 832),kE P "_law_given" 1315 (kR 839),kE P "_law_text" 1333 (kR 846),kE P "_law_key" 1340 (kR 853),kE P "law" 1346 (kR 858)] 147) #[]),(20,kD "_wall" 187 188 189 1 1 3 15 181 16 17 18 19 191 1 192),(30,UF (l_ "dict") U (Wi #[kE P "__module__" 203 (kS "notejar.errors" 194),kE P "__firstlineno__" 207 (kI 5 206),kE P "__static_attributes__" 208 (kR 29),kE P "__weakref__" 210 (kR 32),kE P "__doc__" 211 C_] 3) #[]),(31,UF (l_ "type") U (Yb (UW (b_ "JarError") [l_ "ValueError"] [kR 31,l_ "ValueError",l_ "Exception",l_ "BaseException",l_ "object"] 30 (b_ "JarError") L [] [kR 44,kR 56,kR 68,kR 80,kR 92,kR 104,kR 116] D U D)) #[Z (kR 22),U,Z (kS "JarError" 196),Z (kS "JarError" 204),Z (Vt "ValueError.__new__"),Z (H_ L)]),(43,UF (l_ "dict") U (Wi #[kE P "__module__" 221 (kS "notejar.errors" 194),kE P "__firstlineno__" 225 (kI 7 224),kE P "__static_attributes__" 226 (kR 42),kE P "__doc__" 227 C_] 2) #[]),(44,UF (l_ "type") U (Yb (UW (b_ "NoName") [kR 31] [kR 44,kR 31,l_ "ValueError",l_ "Exception",l_ "BaseException",l_ "object"] 43 (b_ "NoName") L [] [] D U D)) #[Z (kR 35),U,Z (kS "NoName" 214),Z (kS "NoName" 222),Z (Vt "ValueError.__new__"),Z (H_ L)]),(55,UF (l_ "dict") U (Wi #[kE P "__module__" 237 (kS "notejar.errors" 194),kE P "__firstlineno__" 241 (kI 9 240),kE P "__static_attributes__" 242 (kR 54),kE P "__doc__" 243 C_] 2) #[]),(56,UF (l_ "type") U (Yb (UW (b_ "NoTable") [kR 31] [kR 56,kR 31,l_ "ValueError",l_ "Exception",l_ "BaseException",l_ "object"] 55 (b_ "NoTable") L [] [] D U D)) #[Z (kR 47),U,Z (kS "NoTable" 230),Z (kS "NoTable" 238),Z (Vt "ValueError.__new__"),Z (H_ L)]),(67,UF (l_ "dict") U (Wi #[kE P "__module__" 253 (kS "notejar.errors" 194),kE P "__firstlineno__" 257 (kI 11 256),kE P "__static_attributes__" 258 (kR 66),kE P "__doc__" 259 C_] 2) #[]),(68,UF (l_ "type") U (Yb (UW (b_ "NoPath") [kR 31] [kR 68,kR 31,l_ "ValueError",l_ "Exception",l_ "BaseException",l_ "object"] 67 (b_ "NoPath") L [] [] D U D)) #[Z (kR 59),U,Z (kS "NoPath" 246),Z (kS "NoPath" 254),Z (Vt "ValueError.__new__"),Z (H_ L)]),(79,UF (l_ "dict") U (Wi #[kE P "__module__" 269 (kS "notejar.errors" 194),kE P "__firstlineno__" 273 (kI 13 272),kE P "__static_attributes__" 274 (kR 78),kE P "__doc__" 275 C_] 2) #[]),(80,UF (l_ "type") U (Yb (UW (b_ "NoAsk") [kR 31] [kR 80,kR 31,l_ "ValueError",l_ "Exception",l_ "BaseException",l_ "object"] 79 (b_ "NoAsk") L [] [] D U D)) #[Z (kR 71),U,Z (kS "NoAsk" 262),Z (kS "NoAsk" 270),Z (Vt "ValueError.__new__"),Z (H_ L)]),(91,UF (l_ "dict") U (Wi #[kE P "__module__" 285 (kS "notejar.errors" 194),kE P "__firstlineno__" 289 (kI 15 288),kE P "__static_attributes__" 290 (kR 90),kE P "__doc__" 291 C_] 2) #[]),(92,UF (l_ "type") U (Yb (UW (b_ "NoNote") [kR 31] [kR 92,kR 31,l_ "ValueError",l_ "Exception",l_ "BaseException",l_ "object"] 91 (b_ "NoNote") L [] [] D U D)) #[Z (kR 83),U,Z (kS "NoNote" 278),Z (kS "NoNote" 286),Z (Vt "ValueError.__new__"),Z (H_ L)]),(103,UF (l_ "dict") U (Wi #[kE P "__module__" 301 (kS "notejar.errors" 194),kE P "__firstlineno__" 305 (kI 17 304),kE P "__static_attributes__" 306 (kR 102),kE P "__doc__" 307 C_] 2) #[]),(104,UF (l_ "type") U (Yb (UW (b_ "NoJar") [kR 31] [kR 104,kR 31,l_ "ValueError",l_ "Exception",l_ "BaseException",l_ "object"] 103 (b_ "NoJar") L [] [] D U D)) #[Z (kR 95),U,Z (kS "NoJar" 294),Z (kS "NoJar" 302),Z (Vt "ValueError.__new__"),Z (H_ L)]),(115,UF (l_ "dict") U (Wi #[kE P "__module__" 317 (kS "notejar.errors" 194),kE P "__firstlineno__" 321 (kI 19 320),kE P "__static_attributes__" 322 (kR 114),kE P "__doc__" 323 C_] 2) #[]),(116,UF (l_ "type") U (Yb (UW (b_ "NoNumber") [kR 31] [kR 116,kR 31,l_ "ValueError",l_ "Exception",l_ "BaseException",l_ "object"] 115 (b_ "NoNumber") L [] [] D U D)) #[Z (kR 107),U,Z (kS "NoNumber" 310),Z (kS "NoNumber" 318),Z (Vt "ValueError.__new__"),Z (H_ L)]),(122,kC "is_text_of" 328 329 330 22 4 3 119 181 120 121 331 22 332),(123,kF "is_text_of" 11 "notejar.kinds" 326 122),(129,kD "is_whole_number" 334 335 336 28 3 3 124 181 125 126 127 128 340 28 341),(130,kF "is_whole_number" 12 "notejar.kinds" 326 129),(136,kD "is_tuple_of" 343 344 345 32 2 3 131 181 132 133 134 135 348 32 349),(137,kF "is_tuple_of" 13 "notejar.kinds" 326 136),(143,kD "is_label" 363 364 365 40 1 3 138 181 139 140 141 142 367 40 368),(144,kF "is_label" 20 "notejar.names" 351 143),(148,kC "is_name" 370 371 372 44 1 3 145 181 146 147 373 44 374),(149,kF "is_name" 21 "notejar.names" 351 148),(155,kD "is_rule" 376 377 378 51 1 3 150 181 151 152 153 154 380 51 381),(156,kF "is_rule" 22 "notejar.names" 351 155),(160,kC "is_table" 383 384 385 59 1 3 157 181 158 159 386 59 387),(161,kF "is_table" 23 "notejar.names" 351 160),(167,kD "need_name" 389 390 391 65 1 3 162 181 163 164 165 166 393 65 394),(168,kF "need_name" 24 "notejar.names" 351 167),(174,kD "need_table" 396 397 398 68 1 3 169 181 170 171 172 173 400 68 401),(175,kF "need_table" 25 "notejar.names" 351 174),(181,kD "lies_within" 403 404 405 71 2 3 176 181 177 178 179 180 408 71 409),(182,kF "lies_within" 26 "notejar.names" 351 181),(186,kC "ends_longest_first" 411 412 413 73 1 3 183 181 184 185 414 73 415),(187,kF "ends_longest_first" 27 "notejar.names" 351 186),(193,kD "behind_first_dot" 417 418 419 76 1 3 188 181 189 190 191 192 421 76 422),(194,kF "behind_first_dot" 28 "notejar.names" 351 193),(200,kD "is_told_open" 424 425 426 78 2 3 195 181 196 197 198 199 429 78 430),(201,kF "is_told_open" 29 "notejar.names" 351 200),(207,kD "find_open_end" 432 433 434 82 2 3 202 181 203 204 205 206 439 82 440),(208,kF "find_open_end" 30 "notejar.names" 351 207),(214,kD "find_own_end" 442 443 444 91 2 3 209 181 210 211 212 213 450 91 451),(215,kF "find_own_end" 31 "notejar.names" 351 214),(221,kD "is_path" 459 460 461 101 1 3 216 181 217 218 219 220 463 101 464),(222,kF "is_path" 35 "notejar.paths" 453 221),(228,kD "need_path" 466 467 468 103 1 3 223 181 224 225 226 227 470 103 471),(229,kF "need_path" 36 "notejar.paths" 453 228),(235,kD "folder" 473 474 475 106 1 3 230 181 231 232 233 234 478 106 479),(236,kF "folder" 37 "notejar.paths" 453 235),(242,kD "lies_under" 481 482 483 112 2 3 237 181 238 239 240 241 486 112 487),(243,kF "lies_under" 38 "notejar.paths" 453 242),(249,kD "is_moment" 503 504 505 125 1 3 244 181 245 246 247 248 507 125 508),(250,kF "is_moment" 46 "notejar.asks" 489 249),(256,kD "is_moment_or_none" 510 511 512 127 1 3 251 181 252 253 254 255 514 127 515),(257,kF "is_moment_or_none" 47 "notejar.asks" 489 256),(263,kD "need_moment" 517 518 519 129 1 3 258 181 259 260 261 262 521 129 522),(264,kF "need_moment" 48 "notejar.asks" 489 263),(270,kD "is_ask" 524 525 526 132 1 3 265 181 266 267 268 269 528 132 529),(271,kF "is_ask" 49 "notejar.asks" 489 270),(277,kD "need_ask" 531 532 533 136 1 3 272 181 273 274 275 276 535 136 536),(278,kF "need_ask" 50 "notejar.asks" 489 277),(284,kD "comes_from_near" 538 539 540 139 2 3 279 181 280 281 282 283 546 139 547),(285,kF "comes_from_near" 51 "notejar.asks" 489 284),(291,kD "is_note_name" 579 580 581 161 1 3 286 181 287 288 289 290 583 161 584),(292,kF "is_note_name" 67 "notejar.giving" 549 291),(296,kC "is_worth" 586 587 588 163 1 3 293 181 294 295 589 163 590),(297,kF "is_worth" 68 "notejar.giving" 549 296),(303,kD "is_reach" 592 593 594 167 1 3 298 181 299 300 301 302 596 167 597),(304,kF "is_reach" 69 "notejar.giving" 549 303),(310,kD "is_given" 599 600 601 169 1 3 305 181 306 307 308 309 603 169 604),(311,kF "is_given" 70 "notejar.giving" 549 310),(317,kD "need_given" 606 607 608 173 1 3 312 181 313 314 315 316 610 173 611),(318,kF "need_given" 71 "notejar.giving" 549 317),(324,kD "is_written_moment" 613 614 615 176 1 3 319 181 320 321 322 323 617 176 618),(325,kF "is_written_moment" 72 "notejar.giving" 549 324),(331,kD "what_is_told" 620 621 622 178 1 3 326 181 327 328 329 330 627 178 628),(332,kF "what_is_told" 73 "notejar.giving" 549 331),(336,kC "read_given" 630 631 632 195 1 3 333 181 334 335 633 195 634),(337,kF "read_given" 74 "notejar.giving" 549 336),(343,kD "is_open" 660 661 662 220 2 3 338 181 339 340 341 342 665 220 666),(344,kF "is_open" 87 "notejar.notes" 636 343),(350,kD "is_exact" 668 669 670 222 3 3 345 181 346 347 348 349 675 222 676),(351,kF "is_exact" 88 "notejar.notes" 636 350),(357,kD "keeps_its_mark" 678 679 680 227 3 3 352 181 353 354 355 356 685 227 686),(358,kF "keeps_its_mark" 89 "notejar.notes" 636 357),(364,kD "why_refused" 688 689 690 234 3 3 359 181 360 361 362 363 695 234 696),(365,kF "why_refused" 90 "notejar.notes" 636 364),(371,kD "is_note" 698 699 700 250 1 3 366 181 367 368 369 370 702 250 703),(372,kF "is_note" 91 "notejar.notes" 636 371),(378,kD "house_for" 705 706 707 256 2 3 373 181 374 375 376 377 710 256 711),(379,kF "house_for" 92 "notejar.notes" 636 378),(385,kD "path_for" 713 714 715 260 2 3 380 181 381 382 383 384 718 260 719),(386,kF "path_for" 93 "notejar.notes" 636 385),(392,kD "end_for" 721 722 723 264 2 3 387 181 388 389 390 391 726 264 727),(393,kF "end_for" 94 "notejar.notes" 636 392),(399,kD "made" 729 730 731 268 4 3 394 181 395 396 397 398 736 268 737),(400,kF "made" 95 "notejar.notes" 636 399),(406,kD "key" 739 740 741 276 1 3 401 181 402 403 404 405 743 276 744),(407,kF "key" 96 "notejar.notes" 636 406),(413,kD "has_ended" 746 747 748 278 2 3 408 181 409 410 411 412 751 278 752),(414,kF "has_ended" 97 "notejar.notes" 636 413),(420,kD "is_for" 754 755 756 280 2 3 415 181 416 417 418 419 759 280 760),(427,kD "goes" 762 763 764 284 4 3 422 181 423 424 425 426 769 284 770),(432,kC "is_jar" 776 777 778 294 1 3 429 181 430 431 779 294 780),(433,kF "is_jar" 102 "notejar.jars" 772 432),(437,kC "is_by_made" 782 783 784 300 1 3 434 181 435 436 785 300 786)]
def KKb(P:ŵ):Frag:=[(438,kF "is_by_made" 103 "notejar.jars" 772 437),(442,kC "has_no_key_twice" 788 789 790 302 1 3 439 181 440 441 791 302 792),(443,kF "has_no_key_twice" 104 "notejar.jars" 772 442),(449,kD "need_jar" 794 795 796 305 1 3 444 181 445 446 447 448 798 305 799),(450,kF "need_jar" 105 "notejar.jars" 772 449),(456,kD "need_no_more_than_a_jar_has" 801 802 803 308 1 3 451 181 452 453 454 455 805 308 806),(457,kF "need_no_more_than_a_jar_has" 106 "notejar.jars" 772 456),(463,kD "swept" 808 809 810 311 2 3 458 181 459 460 461 462 813 311 814),(464,kF "swept" 107 "notejar.jars" 772 463),(468,kC "without_ended" 816 817 818 315 2 3 465 181 466 467 819 315 820),(469,kF "without_ended" 108 "notejar.jars" 772 468),(473,kC "forgotten" 822 823 824 317 2 3 470 181 471 472 825 317 826),(474,kF "forgotten" 109 "notejar.jars" 772 473),(478,kC "put" 828 829 830 321 2 3 475 181 476 477 831 321 832),(479,kF "put" 110 "notejar.jars" 772 478),(485,kD "read_what_is_given" 834 835 836 327 5 3 480 181 481 482 483 484 843 327 844),(486,kF "read_what_is_given" 111 "notejar.jars" 772 485),(492,kD "verdict" 846 847 848 334 5 3 487 181 488 489 490 491 855 334 856),(493,kF "verdict" 112 "notejar.jars" 772 492),(497,kC "word_of" 858 859 860 337 5 3 494 181 495 496 861 337 862),(498,kF "word_of" 113 "notejar.jars" 772 497),(504,kD "shadows" 864 865 866 347 3 3 499 181 500 501 502 503 870 347 871),(505,kF "shadows" 114 "notejar.jars" 772 504),(509,kC "taken" 873 874 875 353 5 3 506 181 507 508 876 353 877),(510,kF "taken" 115 "notejar.jars" 772 509),(514,kC "take_in" 879 880 881 360 5 3 511 181 512 513 882 360 883),(515,kF "take_in" 116 "notejar.jars" 772 514),(521,kD "need_sending" 885 886 887 369 4 3 516 181 517 518 519 520 892 369 893),(526,kC "sent" 895 896 897 374 4 3 523 181 524 525 898 374 899),(531,kC "sent_text" 901 902 903 378 4 3 528 181 529 530 904 378 905),(536,kC "used" 907 908 909 380 4 3 533 181 534 535 910 380 911),(543,kD "used_at" 913 914 915 383 2 3 538 181 539 540 541 542 918 383 919),(550,kD "merged" 923 924 925 386 2 3 545 181 546 547 548 549 931 386 932),(551,kF "merged" 123 "notejar.comparing" 921 550),(557,kD "place_of" 934 935 936 397 1 3 552 181 553 554 555 556 938 397 939),(558,kF "place_of" 124 "notejar.comparing" 921 557),(564,kD "later_of" 941 942 943 399 2 3 559 181 560 561 562 563 946 399 947),(565,kF "later_of" 125 "notejar.comparing" 921 564),(571,kD "when_last" 949 950 951 403 1 3 566 181 567 568 569 570 953 403 954),(572,kF "when_last" 126 "notejar.comparing" 921 571),(585,UF (l_ "code") U (Ut #[kS "__init__" 970,kS "Desk.__init__" 971,kS "/claim/cut.py" 972,kI 408 0,kI 2 0,kI 0 0,kI 0 0,kI 3 0,kR 580,H_ L,kI 181 0,kR 581,C_,kR 582,kR 583,kR 584,kI 975 0,kI 408 0,kS "/claim/cut.py" 976]) #[]),(586,kM "__init__" "Desk.__init__" 128 0 "notejar.desks" 956 585),(592,UF (l_ "code") U (Ut #[kS "notes" 978,kS "Desk.notes" 979,kS "/claim/cut.py" 980,kI 415 0,kI 1 0,kI 0 0,kI 0 0,kI 3 0,kR 587,H_ L,kI 181 0,kR 588,C_,kR 589,kR 590,kR 591,kI 982 0,kI 415 0,kS "/claim/cut.py" 983]) #[]),(593,kM "notes" "Desk.notes" 128 1 "notejar.desks" 956 592),(599,UF (l_ "code") U (Ut #[kS "do_step" 985,kS "Desk.do_step" 986,kS "/claim/cut.py" 987,kI 418 0,kI 3 0,kI 0 0,kI 0 0,kI 3 0,kR 594,H_ L,kI 181 0,kR 595,C_,kR 596,kR 597,kR 598,kI 991 0,kI 418 0,kS "/claim/cut.py" 992]) #[]),(600,kM "do_step" "Desk.do_step" 128 2 "notejar.desks" 956 599),(606,UF (l_ "code") U (Ut #[kS "give" 994,kS "Desk.give" 995,kS "/claim/cut.py" 996,kI 423 0,kI 4 0,kI 0 0,kI 0 0,kI 3 0,kR 601,H_ L,kI 181 0,kR 602,C_,kR 603,kR 604,kR 605,kI 1003 0,kI 423 0,kS "/claim/cut.py" 1004]) #[]),(607,kM "give" "Desk.give" 128 3 "notejar.desks" 956 606),(613,UF (l_ "code") U (Ut #[kS "sweep" 1006,kS "Desk.sweep" 1007,kS "/claim/cut.py" 1008,kI 429 0,kI 2 0,kI 0 0,kI 0 0,kI 3 0,kR 608,H_ L,kI 181 0,kR 609,C_,kR 610,kR 611,kR 612,kI 1011 0,kI 429 0,kS "/claim/cut.py" 1012]) #[]),(614,kM "sweep" "Desk.sweep" 128 4 "notejar.desks" 956 613),(620,UF (l_ "code") U (Ut #[kS "forget" 1014,kS "Desk.forget" 1015,kS "/claim/cut.py" 1016,kI 432 0,kI 2 0,kI 0 0,kI 0 0,kI 3 0,kR 615,H_ L,kI 181 0,kR 616,C_,kR 617,kR 618,kR 619,kI 1019 0,kI 432 0,kS "/claim/cut.py" 1020]) #[]),(621,kM "forget" "Desk.forget" 128 5 "notejar.desks" 956 620),(627,UF (l_ "code") U (Ut #[kS "do_and_count" 1022,kS "Desk.do_and_count" 1023,kS "/claim/cut.py" 1024,kI 435 0,kI 3 0,kI 0 0,kI 0 0,kI 3 0,kR 622,H_ L,kI 181 0,kR 623,C_,kR 624,kR 625,kR 626,kI 1029 0,kI 435 0,kS "/claim/cut.py" 1030]) #[]),(628,kM "do_and_count" "Desk.do_and_count" 128 6 "notejar.desks" 956 627),(634,UF (l_ "code") U (Ut #[kS "merge" 1032,kS "Desk.merge" 1033,kS "/claim/cut.py" 1034,kI 440 0,kI 2 0,kI 0 0,kI 0 0,kI 3 0,kR 629,H_ L,kI 181 0,kR 630,C_,kR 631,kR 632,kR 633,kI 1038 0,kI 440 0,kS "/claim/cut.py" 1039]) #[]),(635,kM "merge" "Desk.merge" 128 7 "notejar.desks" 956 634),(641,UF (l_ "code") U (Ut #[kS "back" 1041,kS "Desk.back" 1042,kS "/claim/cut.py" 1043,kI 445 0,kI 1 0,kI 0 0,kI 0 0,kI 3 0,kR 636,H_ L,kI 181 0,kR 637,C_,kR 638,kR 639,kR 640,kI 1045 0,kI 445 0,kS "/claim/cut.py" 1046]) #[]),(648,UF (l_ "code") U (Ut #[kS "forth" 1048,kS "Desk.forth" 1049,kS "/claim/cut.py" 1050,kI 448 0,kI 1 0,kI 0 0,kI 0 0,kI 3 0,kR 643,H_ L,kI 181 0,kR 644,C_,kR 645,kR 646,kR 647,kI 1052 0,kI 448 0,kS "/claim/cut.py" 1053]) #[]),(655,UF (l_ "code") U (Ut #[kS "move" 1055,kS "Desk.move" 1056,kS "/claim/cut.py" 1057,kI 451 0,kI 3 0,kI 0 0,kI 0 0,kI 3 0,kR 650,H_ L,kI 181 0,kR 651,C_,kR 652,kR 653,kR 654,kI 1061 0,kI 451 0,kS "/claim/cut.py" 1062]) #[]),(662,UF (l_ "code") U (Ut #[kS "steps" 1064,kS "Desk.steps" 1065,kS "/claim/cut.py" 1066,kI 454 0,kI 1 0,kI 0 0,kI 0 0,kI 3 0,kR 657,H_ L,kI 181 0,kR 658,C_,kR 659,kR 660,kR 661,kI 1068 0,kI 454 0,kS "/claim/cut.py" 1069]) #[]),(669,UF (l_ "code") U (Ut #[kS "twin" 1071,kS "Desk.twin" 1072,kS "/claim/cut.py" 1073,kI 457 0,kI 1 0,kI 0 0,kI 0 0,kI 3 0,kR 664,H_ L,kI 181 0,kR 665,C_,kR 666,kR 667,kR 668,kI 1075 0,kI 457 0,kS "/claim/cut.py" 1076]) #[]),(672,UF (l_ "dict") U (Wi #[kE P "__module__" 965 (kS "notejar.desks" 956),kE P "__firstlineno__" 969 (kI 406 968),kE P "__init__" 977 (kR 586),kE P "notes" 984 (kR 593),kE P "do_step" 993 (kR 600),kE P "give" 1005 (kR 607),kE P "sweep" 1013 (kR 614),kE P "forget" 1021 (kR 621),kE P "do_and_count" 1031 (kR 628),kE P "merge" 1040 (kR 635),kE P "back" 1047 (kR 642),kE P "forth" 1054 (kR 649),kE P "move" 1063 (kR 656),kE P "steps" 1070 (kR 663),kE P "twin" 1077 (kR 670),kE P "__static_attributes__" 1082 (kR 671),kE P "__dict__" 1084 (kR 674),kE P "__weakref__" 1086 (kR 675),kE P "__doc__" 1087 C_] 4) #[]),(673,UF (l_ "type") U (Yb (UW (b_ "Desk") [l_ "object"] [kR 673,l_ "object"] 672 (b_ "Desk") L [] [] D U D)) #[U,U,Z (kS "Desk" 958),Z (kS "Desk" 966),Z (Vt "object.__new__"),Z (H_ L)]),(683,kD "need_room" 1094 1095 1096 461 1 3 678 181 679 680 681 682 1098 461 1099),(684,kF "need_room" 131 "notejar.room" 1090 683),(690,kD "group_of" 1101 1102 1103 464 2 3 685 181 686 687 688 689 1107 464 1108),(691,kF "group_of" 132 "notejar.room" 1090 690),(695,kC "fit" 1110 1111 1112 469 4 3 692 181 693 694 1113 469 1114),(696,kF "fit" 133 "notejar.room" 1090 695),(702,kD "too_many" 1116 1117 1118 475 2 3 697 181 698 699 700 701 1122 475 1123),(703,kF "too_many" 134 "notejar.room" 1090 702),(709,kD "rank" 1125 1126 1127 478 1 3 704 181 705 706 707 708 1129 478 1130),(710,kF "rank" 135 "notejar.room" 1090 709),(714,kC "without" 1132 1133 1134 480 2 3 711 181 712 713 1135 480 1136),(715,kF "without" 136 "notejar.room" 1090 714),(728,UF (l_ "code") U (Ut #[kS "__init__" 1152,kS "Keeper.__init__" 1153,kS "/claim/cut.py" 1154,kI 485 0,kI 4 0,kI 0 0,kI 0 0,kI 3 0,kR 723,H_ L,kI 181 0,kR 724,C_,kR 725,kR 726,kR 727,kI 1159 0,kI 485 0,kS "/claim/cut.py" 1160]) #[]),(729,kM "__init__" "Keeper.__init__" 138 0 "notejar.keepers" 1138 728),(735,UF (l_ "code") U (Ut #[kS "notes" 1162,kS "Keeper.notes" 1163,kS "/claim/cut.py" 1164,kI 495 0,kI 1 0,kI 0 0,kI 0 0,kI 3 0,kR 730,H_ L,kI 181 0,kR 731,C_,kR 732,kR 733,kR 734,kI 1166 0,kI 495 0,kS "/claim/cut.py" 1167]) #[]),(736,kM "notes" "Keeper.notes" 138 1 "notejar.keepers" 1138 735),(742,UF (l_ "code") U (Ut #[kS "clock" 1169,kS "Keeper.clock" 1170,kS "/claim/cut.py" 1171,kI 498 0,kI 1 0,kI 0 0,kI 0 0,kI 3 0,kR 737,H_ L,kI 181 0,kR 738,C_,kR 739,kR 740,kR 741,kI 1173 0,kI 498 0,kS "/claim/cut.py" 1174]) #[]),(749,UF (l_ "code") U (Ut #[kS "need_no_earlier" 1176,kS "Keeper.need_no_earlier" 1177,kS "/claim/cut.py" 1178,kI 501 0,kI 2 0,kI 0 0,kI 0 0,kI 3 0,kR 744,H_ L,kI 181 0,kR 745,C_,kR 746,kR 747,kR 748,kI 1181 0,kI 501 0,kS "/claim/cut.py" 1182]) #[]),(750,kM "need_no_earlier" "Keeper.need_no_earlier" 138 3 "notejar.keepers" 1138 749),(756,UF (l_ "code") U (Ut #[kS "hear" 1184,kS "Keeper.hear" 1185,kS "/claim/cut.py" 1186,kI 505 0,kI 4 0,kI 0 0,kI 0 0,kI 3 0,kR 751,H_ L,kI 181 0,kR 752,C_,kR 753,kR 754,kR 755,kI 1193 0,kI 505 0,kS "/claim/cut.py" 1194]) #[]),(757,kM "hear" "Keeper.hear" 138 4 "notejar.keepers" 1138 756),(763,UF (l_ "code") U (Ut #[kS "send" 1196,kS "Keeper.send" 1197,kS "/claim/cut.py" 1198,kI 513 0,kI 3 0,kI 0 0,kI 0 0,kI 3 0,kR 758,H_ L,kI 181 0,kR 759,C_,kR 760,kR 761,kR 762,kI 1203 0,kI 513 0,kS "/claim/cut.py" 1204]) #[]),(770,UF (l_ "code") U (Ut #[kS "step" 1206,kS "Keeper.step" 1207,kS "/claim/cut.py" 1208,kI 520 0,kI 2 0,kI 0 0,kI 0 0,kI 3 0,kR 765,H_ L,kI 181 0,kR 766,C_,kR 767,kR 768,kR 769,kI 1212 0,kI 520 0,kS "/claim/cut.py" 1213]) #[]),(771,kM "step" "Keeper.step" 138 6 "notejar.keepers" 1138 770),(777,UF (l_ "code") U (Ut #[kS "forget" 1215,kS "Keeper.forget" 1216,kS "/claim/cut.py" 1217,kI 526 0,kI 2 0,kI 0 0,kI 0 0,kI 3 0,kR 772,H_ L,kI 181 0,kR 773,C_,kR 774,kR 775,kR 776,kI 1222 0,kI 526 0,kS "/claim/cut.py" 1223]) #[]),(778,kM "forget" "Keeper.forget" 138 7 "notejar.keepers" 1138 777),(780,UF (l_ "dict") U (Wi #[kE P "__module__" 1147 (kS "notejar.keepers" 1138),kE P "__firstlineno__" 1151 (kI 483 1150),kE P "__init__" 1161 (kR 729),kE P "notes" 1168 (kR 736),kE P "clock" 1175 (kR 743),kE P "need_no_earlier" 1183 (kR 750),kE P "hear" 1195 (kR 757),kE P "send" 1205 (kR 764),kE P "step" 1214 (kR 771),kE P "forget" 1224 (kR 778),kE P "__static_attributes__" 1230 (kR 779),kE P "__dict__" 1232 (kR 782),kE P "__weakref__" 1234 (kR 783),kE P "__doc__" 1235 C_] 4) #[]),(781,UF (l_ "type") U (Yb (UW (b_ "Keeper") [l_ "object"] [kR 781,l_ "object"] 780 (b_ "Keeper") L [] [] D U D)) #[U,U,Z (kS "Keeper" 1140),Z (kS "Keeper" 1148),Z (Vt "object.__new__"),Z (H_ L)]),(791,kD "_law_cell" 1240 1241 1242 532 2 3 786 181 787 788 789 790 1245 532 1246),(792,š "_law_cell" 140 791),(798,kD "_law_drawn" 1248 1249 1250 536 3 3 793 181 794 795 796 797 1255 536 1256),(799,š "_law_drawn" 141 798),(805,kD "_law_name" 1258 1259 1260 540 2 3 800 181 801 802 803 804 1264 540 1265),(806,š "_law_name" 142 805),(810,kC "_law_table" 1267 1268 1269 544 2 3 807 181 808 809 1270 544 1271),(811,š "_law_table" 143 810),(817,kD "_law_path" 1273 1274 1275 547 2 3 812 181 813 814 815 816 1279 547 1280),(818,š "_law_path" 144 817),(824,kD "_law_ask" 1282 1283 1284 550 2 3 819 181 820 821 822 823 1288 550 1289),(825,š "_law_ask" 145 824),(831,kD "_law_within" 1291 1292 1293 553 2 3 826 181 827 828 829 830 1296 553 1297),(832,š "_law_within" 146 831),(838,kD "_law_given" 1299 1300 1301 555 3 3 833 181 834 835 836 837 1313 555 1314),(839,š "_law_given" 147 838),(845,kD "_law_text" 1316 1317 1318 566 1 3 840 181 841 842 843 844 1331 566 1332),(846,š "_law_text" 148 845),(852,kD "_law_key" 1334 1335 1336 574 1 3 847 181 848 849 850 851 1338 574 1339),(853,š "_law_key" 149 852),(857,kC "law" 1341 1342 1343 576 1 3 854 181 855 856 1344 576 1345),(858,š "law" 150 857)]
def KK(P:ŵ):Frag:=KKa P++KKb P
def KAa:List O:=[2,3,20,30,31,43,44,55,56,67,68,79,80,91,92,103,104,115,116,122,123,129,130,136,137,143,144,148,149,155,156,160,161,167,168,174,175,181,182,186,187,193,194,200,201,207,208,214,215,221,222,228,229,235,236,242,243,249,250,256,257,263,264,270,271,277,278,284,285,291,292,296,297,303,304,310,311,317,318,324,325,331,332,336,337,343,344,350,351,357,358,364,365,371,372,378,379,385,386,392,393,399,400,406,407,413,414,420,427,432,433,437]
def KAb:List O:=[438,442,443,449,450,456,457,463,464,468,469,473,474,478,479,485,486,492,493,497,498,504,505,509,510,514,515,521,526,531,536,543,550,551,557,558,564,565,571,572,585,586,592,593,599,600,606,607,613,614,620,621,627,628,634,635,641,648,655,662,669,672,673,683,684,690,691,695,696,702,703,709,710,714,715,728,729,735,736,742,749,750,756,757,763,770,771,777,778,780,781,791,792,798,799,805,806,810,811,817,818,824,825,831,832,838,839,845,846,852,853,857,858]
def KA:List O:=KAa++KAb
def KA_ok(P:ŵ):KA=(KK P).map (·.1):=by lk
def VQ:n_:=view p9_ [150]
def hbr:r9_.row.prog.bare:=⟨rfl,rfl,rfl,rfl,rfl,by decide+kernel⟩
def slo:PySem.W.looksOpen r9_.row.prog=L:=by lk
set_option maxRecDepth 100000 in
def sd1:r9_.row.wellSaid=L:=by unfold PySem.W.OpenRow.wellSaid PySem.W.OpenRow.partSaid;rw[slo];lk
set_option maxRecDepth 100000 in
def sd:r9_.wellSaid=L:=by unfold PySem.W.OpenLaw.wellSaid;rw[sd1];lk
def hld(h:r9_.row.wellSaid=L->r9_.row.Holds):r9_.Holds:=PySem.W.holds_law sd h
def VL:List Str:=(["_wall","JarError","NoName","NoTable","NoPath","NoAsk","NoNote","NoJar","NoNumber","is_text_of","is_whole_number","is_tuple_of","FIGURES","LABEL_SIGNS","LONGEST_LABEL","MOST_LABELS","MOST_RULES","is_label","is_name","is_rule","is_table","need_name","need_table","lies_within","ends_longest_first","behind_first_dot","is_told_open","find_open_end","find_own_end","PATH_SIGNS","LONGEST_PATH","is_path","need_path","folder","lies_under","LAST_MOMENT","ASK_SAFE","ASK_HOUSE","ASK_PATH","ASK_ORIGIN","ASK_PARTS","is_moment","is_moment_or_none","need_moment","is_ask","need_ask","comes_from_near","NOTE_NAME_SIGNS","LONGEST_NOTE_NAME","NO_WORTH_SIGNS","LONGEST_WORTH","MOST_FIGURES","GIVEN_NAME","GIVEN_WORTH","GIVEN_HOUSE","GIVEN_PATH","GIVEN_UNTIL","GIVEN_LASTS","GIVEN_SAFE","GIVEN_REACH","GIVEN_PARTS","is_note_name","is_worth","is_reach","is_given","need_given","is_written_moment","what_is_told","read_given","NOTE_NAME","NOTE_WORTH","NOTE_HOUSE","NOTE_EXACT","NOTE_PATH","NOTE_ENDS","NOTE_SAFE","NOTE_REACH","NOTE_MADE","NOTE_USED","NOTE_PARTS","is_open","is_exact","keeps_its_mark","why_refused","is_note","house_for","path_for","end_for","made","key","has_ended","is_for","goes","MOST_NOTES","is_jar","is_by_made","has_no_key_twice","need_jar","need_no_more_than_a_jar_has","swept","without_ended","forgotten","put","read_what_is_given","verdict","word_of","shadows","taken","take_in","need_sending","sent","sent_text","used","used_at","merged","place_of","later_of","when_last","Desk","LARGEST_ROOM","need_room","group_of","fit","too_many","rank","without","Keeper","_law_cell","_law_drawn","_law_name","_law_table","_law_path","_law_ask","_law_within","_law_given","_law_text","_law_key"].map b_)
def So{d c:Type}{o:Option P}{f:P->d}{g:P->c}{a:d}{b:c}(e:o.map f=Z a)(h:o.map g=Z b):o.map (λs=>(f s,g s))=Z (a,b):=by cases o with|none=>cases e|some x=>cases e;cases h;rfl
set_option maxRecDepth 100000 in
def O2(w:y_):(TR.openQ aaU p9_ w 11750).map (openSeen VQ VL (aae p9_.main.body) (λs=>recOk [] s) L)=Z (openGood VQ VL):=by lk
set_option maxRecDepth 100000 in
def J7(w:y_):(TR.openQ aaU p9_ w 11750).map (λs=>KAa.map s.heap.get?)=Z ((KKa w.params).map λp=>Z p.2):=by lk
set_option maxRecDepth 100000 in
def J8(w:y_):(TR.openQ aaU p9_ w 11750).map (λs=>KAb.map s.heap.get?)=Z ((KKb w.params).map λp=>Z p.2):=by lk
def BK{b a:Type}{o:Option P}{f:P->b->a}{A B:List b}{X Y:List a}(c:o.map (λs=>A.map (f s))=Z X)(d:o.map (λs=>B.map (f s))=Z Y):o.map (λs=>(A++B).map (f s))=Z (X++Y):=by cases o with|none=>cases c|some x=>cases c;cases d;simp
def O3(w:y_):(TR.openQ aaU p9_ w 11750).map (λs=>KA.map s.heap.get?)=Z ((KK w.params).map λp=>Z p.2):=by show(TR.openQ aaU p9_ w 11750).map (λs=>(KAa++KAb).map s.heap.get?)=Z ((KKa w.params++KKb w.params).map λp=>Z p.2);rw[U1];exact BK (f:=λs:ge=>s.heap.get?) (J7 w) (J8 w)
def left:LeftO p9_ VQ VL (λs=>recOk [] s) (Hook.obs (Z' KK KA KA_ok)) (Hook.val (Z' KK KA KA_ok)) 11750:=λw=>TR.openQ_map (So (O2 w) (O3 w))
end G
set_option Elab.async false
set_option linter.all false
set_option maxRecDepth 100000
noncomputable section
open PySem PySem.Spec PyProof.Rows
namespace L2
abbrev ï:=Sum Int Str
def wA:ï->R->Bool|.inl k,v=>Value.isInt k v|.inr x,v=>Wz x v
def Sq(w:y_):ï->Int|.inl k=>hashInt k|.inr x=>hashStr w x
def cg:∀{k:ï}{v:R},wA k v=L->(∃i t,k=WR i/\v=ZF i t)\/(∃x t,k=ZT x/\v=U5 x t)|.inl i,v,h=>by obtain⟨t,e⟩:=Value.isInt_shape (k:=i) (v:=v) h;exact .inl ⟨i,t,rfl,e⟩|.inr x,v,h=>by obtain⟨t,e⟩:=aa2 (x:=x) (v:=v) h;exact .inr ⟨x,t,rfl,e⟩
def xH(i:Int)(t:Tok):wA (.inl i) (.int i t)=L:=by simp[wA,Value.isInt]
def xI(x:Str)(t:Tok):wA (.inr x) (.str x t)=L:=by simp[wA,Wz]
def J9(a b:Int):uk ((WR a:ï)=WR b)=(a==b):=by
 by_cases e:a=b;·subst e;simp
 ·have h:¬(WR a:ï)=WR b:=λq=>e (Sum.inl.inj q);rw[decide_eq_false h];exact(beq_eq_false_iff_ne.mpr e).symm
def Ka(a b:Str):uk ((ZT a:ï)=ZT b)=uk (a=b):=by
 by_cases e:a=b;·subst e;simp
 ·have h:¬(ZT a:ï)=ZT b:=λq=>e (Sum.inr.inj q);rw[decide_eq_false h,decide_eq_false e]
def Kb(a:Int)(b:Str):uk ((WR a:ï)=ZT b)=D:=decide_eq_false (λq=>nomatch q)
def Kc(a:Str)(b:Int):uk ((ZT a:ï)=WR b)=D:=decide_eq_false (λq=>nomatch q)
def c7(d:n_)(w:y_):PySem.KeyKind d w ï where
 is:=wA;hash:=Sq w;inj:=λv a b n g=>by
  rcases cg n with⟨i,t,rfl,rfl⟩|⟨x,t,rfl,rfl⟩
  · rcases cg g with⟨j,u,rfl,e⟩|⟨y,u,rfl,e⟩;·injection e with c _;rw[c]
    ·exact nomatch e
  · rcases cg g with⟨j,u,rfl,e⟩|⟨y,u,rfl,e⟩;·exact nomatch e
    ·injection e with c _;rw[c]
 byValue:=λk v h=>by rcases cg h with⟨i,t,rfl,rfl⟩|⟨x,t,rfl,rfl⟩<;>rfl
 pyHash:=λf h=>by
  rcases cg f with⟨i,t,rfl,rfl⟩|⟨x,t,rfl,rfl⟩;·exact wpAny_pyHash_int h
  ·exact wpAny_pyHash_str h
 eqBool:=λm f h=>by
  rcases cg m with⟨i,t,rfl,rfl⟩|⟨x,t,rfl,rfl⟩
  · rcases cg f with⟨j,u,rfl,rfl⟩|⟨y,u,rfl,rfl⟩;·rw[J9]at h;exact wpAny_eqBool_int h
    ·rw[Kb]at h;exact abk i t y u _ _ _ _ h
  · rcases cg f with⟨j,u,rfl,rfl⟩|⟨y,u,rfl,rfl⟩;·rw[Kc]at h;exact abj x t j u _ _ _ _ h
    ·rw[Ka]at h;exact wpAny_eqBool_str h
 «strs»:=λk x t v h=>by
  rcases cg h with⟨i,u,rfl,e⟩|⟨y,u,rfl,e⟩;·exact nomatch e
  ·injection e with c _;subst c;cases v<;>rfl
def tu(a:n_)(w:y_)(i:Int)(t:Tok):(c7 a w).is (.inl i) (.int i t)=L:=xH i t
def tw(a:n_)(w:y_)(x:Str)(t:Tok):(c7 a w).is (.inr x) (.str x t)=L:=xI x t
inductive V where|non|bl(b:Bool)|int(i:Int)|str(x:Str)|byt(b:Array UInt8)|flt(b:UInt64)|ref(a:O)|ty(n:String)deriving DecidableEq
def Ô:V->R->Prop|.non,u=>u=C_|.bl b,u=>u=H_ b|.int i,u=>∃t,u=ZF i t|.str x,u=>∃t,u=U5 x t|.byt b,u=>∃t,u=Value.bytes b t|.flt b,u=>∃t,u=ab8 b t|.ref a,u=>u=z_ a|.ty n,u=>u=l_ n
abbrev Ë:List V->List R->Prop:=acz Ô
variable{ν:List V}{E:List R}
def Ë.length(r:Ë ν E):ν.length=E.length:=Zt r
def Ë.get:∀{a:List V}{b:List R}{i:Nat}{x:V},Ë a b->a[i]?=Z x->∃u,b[i]?=Z u/\Ô x u|_,_,_,_,.nil,e=>by simp at e|_,_,0,_,.cons r _,e=>by simp at e;subst e;exact⟨_,rfl,r⟩|_,_,i+1,x,.cons _ t,e=>by obtain⟨u,d,c⟩:=Ë.get (i:=i) (x:=x) t (by simpa using e);exact⟨u,by simpa using d,c⟩
def Ë.set{x:V}{u:R}(r:Ô x u):∀{a:List V}{b:List R}(i:Nat),Ë a b->Ë (a.set i x) (b.set i u)|_,_,_,.nil=>.nil|_,_,0,.cons _ t=>.cons r t|_,_,i+1,.cons q t=>.cons q (Ë.set r i t)
def Ë.append:∀{b a:List V}{d c:List R},Ë b d->Ë a c->Ë (b++a) (d++c)|_,_,_,_,.nil,s=>s|_,_,_,_,.cons r t,s=>.cons r (Ë.append t s)
def Ë.take:∀{a:List V}{b:List R}(n:Nat),Ë a b->Ë (a.take n) (b.take n)|_,_,0,_=>.nil|_,_,_+1,.nil=>.nil|_,_,n+1,.cons r t=>.cons r (Ë.take n t)
def Ë.drop:∀{a:List V}{b:List R}(n:Nat),Ë a b->Ë (a.drop n) (b.drop n)|_,_,0,r=>r|_,_,_+1,.nil=>.nil|_,_,n+1,.cons _ t=>Ë.drop n t
def Ď:Option V->Option R->Prop|some v,Z u=>Ô v u|none,U=>True|_,_=>False
def KV:List (P×V)->List (P×R)->Prop:=acz λ(p:P×V)(q:P×R)=>p.1=q.1/\Ô p.2 q.2
def kV:ï->V|.inl i=>.int i|.inr x=>.str x
inductive HO where|lst(xs:List V)|tup(xs:List V)|dK(kvs:List (ï×V))|dT(kvs:List (List ï×V))|set(S:Int->Bool)(n:Nat)|ins(C dx:O)(fs:List (Str×V))|own(x:O)|xd(fs:List (Str×V))|met(f x:O)|rng(lo hi:Int)|frz(o:Obj)(u:HO)|tbl(ps:Array R)|ext(φ:O_->Prop)
abbrev Hp:=O->Option HO
def Û(H:Hp)(a:O)(o:HO):Hp:=λb=>if b=a then Z o else H b
variable{f:Hp}{e:O}
def au{o:HO}:Û f e o e=Z o:=by unfold Û;rw[if_pos rfl]
variable{y:O}
def aB{o:HO}(h:y≠e):Û f e o y=f y:=by unfold Û;rw[if_neg h]
def xJ{o u:HO}:Û (Û f e o) e u=Û f e u:=by funext b;unfold Û;split<;>rfl
def O4{o u:HO}(h:f e=Z o)(b:f y=Z u)(d:o≠u):e≠y:=by intro a;subst a;rw[h]at b;exact d (Uk b)
def aE{o:HO}(h:f e=Z o)(b:f y=U):e≠y:=by intro a;subst a;rw[h]at b;cases b
def â(P:n_)(w:y_)(H:Hp)(h:O_)(a:O):HO->Prop|.lst e=>e.length<=sizeLine/\∃(d:List R)(n:Nat),Ë e d/\h.get? a=Z {cls:=.type "list",data:=.seq d.toArray n}|.tup e=>e.length<=sizeLine/\∃d:List R,Ë e d/\L' h a d.toArray|.dK b=>b.length<=sizeLine/\(a==Wy)=D/\∃i,KV b i/\h.DictOf (c7 P w) a i|.dT b=>b.length<=sizeLine/\(a==Wy)=D/\∃e:List (List ï×O×R),acz (λ(p:List ï×V)(q:List ï×O×R)=>p.1=q.1/\H q.2.1=Z (.tup (p.1.map kV))/\Ô p.2 q.2.2) b e/\∃o z ep,h.get? a=Z o/\o.ExactDict/\o.data=.dict z ep/\z.toList=e.map (entryOfKey (ZA (c7 P w)))/\(e.map (·.1)).Nodup|.set S n=>h.SetOf (intKind P w) a S n|.ins C j fs=>H j=Z (.own a)/\fs.length<=1000/\j≠a/\h.get? a=Z (VV C j)/\∃g,h.Ns1 j g/\(∀f,Ď (fs.lookup f) (g f))/\abz g (fs.map (·.1))|.own _=>∃o,h.get? a=Z o|.xd fs=>∃g,h.Ns1 a g/\∀f,Ď (fs.lookup f) (g f)|.rng lo E=>∃t u v,h.get? a=Z {cls:=.type "range",data:=.fields #[.int lo t,.int E u,.int 1 v]}|.frz o u=>h.get? a=Z o/\â P w H h a u|.tbl B=>∃m:Array R,h.get? a=Z {cls:=.none,data:=.fields m}/\TriplesOk m.toList/\∀pos v,codeAmong pos m.toList=Z v->∃c r i q t A,v=.ref c/\H c=Z (.frz r (.ext λ_=>True))/\r.data=.fields i/\i[1]?=Z (.str q t)/\B[0]?=Z (.str q A)|.met f x=>h.get? a=Z (Zf (.ref f) (.ref x))|.ext k=>k h/\(∃o,h.get? a=Z o)/\∀y s:O_,k y->(∀o,y.get? a=Z o->s.get? a=Z o)->k s
def Č(P:n_)(w:y_)(H:Hp)(h:O_):Prop:=∀a o,H a=Z o->â P w H h a o
variable{ε:O_}
def â.lt{o:HO}(x:â n j f ε e o):e<ε.objs.size:=by cases o with|lst g=>obtain⟨_,_,_,_,a⟩:=x;exact s_ a|tup g=>obtain⟨_,_,_,p⟩:=x;exact p.lt|dK d=>obtain⟨_,_,_,_,o,_,_,a,_⟩:=x;exact s_ a|dT d=>obtain⟨_,_,_,_,o,_,_,a,_⟩:=x;exact s_ a|set S b=>obtain⟨o,_,_,_,a,_⟩:=x;exact s_ a|ins C q fs=>obtain⟨_,_,_,a,_⟩:=x;exact s_ a|own y=>obtain⟨_,a⟩:=x;exact s_ a|xd fs=>obtain⟨_,⟨_,_,_,a,_⟩,_⟩:=x;exact s_ a|rng lo m=>obtain⟨_,_,_,a⟩:=x;exact s_ a|frz k u=>obtain⟨a,_⟩:=x;exact s_ a|tbl i=>obtain⟨_,a,_⟩:=x;exact s_ a|met c y=>exact s_ (show ε.get? e=Z _ from x)|ext h=>obtain⟨_,⟨_,a⟩,_⟩:=x;exact s_ a
def Paired.mapP{g e:Type}{F G:g->e->Prop}:∀{d:List g}{c:List e},acz F d c->(∀a b,F a b->G a b)->acz G d c|_,_,.nil,_=>.nil|_,_,.cons r t,f=>.cons (f _ _ r) (Paired.mapP t f)
variable{Α:Hp}
def â.stay{P:O_}{o:HO}(x:â n j f ε e o)(k:∀b u,(b=e\/f b=Z (.own e))->ε.get? b=Z u->P.get? b=Z u)(ho:∀b,f b=Z (.own e)->Α b=Z (.own e))(ht:∀b A,f b=Z (.tup A)->Α b=Z (.tup A))(hf:∀b o u,f b=Z (.frz o u)->Α b=Z (.frz o u):=by first|exactλ_ _ _ q=>q|(intro c _ _ q;rw[aB (aE q (by assumption))];exact q)):â n j Α P e o:=by induction o with|lst A=>obtain⟨z,w,g,r,a⟩:=x;exact⟨z,w,g,r,k _ _ (.inl rfl) a⟩|tup A=>obtain⟨z,w,r,i,a,c⟩:=x;exact⟨z,w,r,i,k _ _ (.inl rfl) a,c⟩|dK a'=>obtain⟨z,y,B,r,i,m,s,a,c⟩:=x;exact⟨z,y,B,r,i,m,s,k _ _ (.inl rfl) a,c⟩|dT a'=>obtain⟨z,y,A,r,i,m,s,a,c⟩:=x;exact⟨z,y,A,Paired.mapP r λp q z=>⟨z.1,ht _ _ z.2.1,z.2.2⟩,i,m,s,k _ _ (.inl rfl) a,c⟩|set S g=>obtain⟨i,m,s,t,a,c⟩:=x;exact⟨i,m,s,t,k _ _ (.inl rfl) a,c⟩|ins C dx fs=>obtain⟨d,z,ne,a,H,⟨E,m,s,e2,c⟩,r⟩:=x;exact⟨ho _ d,z,ne,k _ _ (.inl rfl) a,H,⟨E,m,s,k _ _ (.inr d) e2,c⟩,r⟩|own y=>obtain⟨i,a⟩:=x;exact⟨i,k _ _ (.inl rfl) a⟩|xd fs=>obtain⟨H,⟨E,m,s,a,c⟩,r⟩:=x;exact⟨H,⟨E,m,s,k _ _ (.inl rfl) a,c⟩,r⟩|rng lo hi=>obtain⟨t,u,v,a⟩:=x;exact⟨t,u,v,k _ _ (.inl rfl) a⟩|frz i u ih=>obtain⟨a,q⟩:=x;exact⟨k _ _ (.inl rfl) a,ih q⟩|tbl ps=>obtain⟨qs,a,tr,ch⟩:=x;exact⟨qs,k e _ (.inl rfl) a,tr,λpos v hv=>let⟨c,oc,B,q,t,t',e1,e2,r⟩:=ch pos v hv;⟨c,oc,B,q,t,t',e1,hf _ _ _ e2,r⟩⟩|met h y=>have a:ε.get? e=Z (Zf (.ref h) (.ref y)):=x;show P.get? e=Z (Zf (.ref h) (.ref y));exact k e _ (.inl rfl) a|ext φ=>obtain⟨p,⟨o,a⟩,st⟩:=x;exact⟨st _ _ p λo q=>k _ _ (.inl rfl) q,⟨o,k _ _ (.inl rfl) a⟩,st⟩
def Č.lt{P:n_}{w:y_}{H:Hp}{h:O_}{a:O}{o:HO}(x:Č P w H h)(e:H a=Z o):a<h.objs.size:=(x a o e).lt
def Č.fresh(x:Č n j f ε)(a:ε.objs.size<=e):f e=U:=by cases q:f e with|none=>rfl|some u=>exact absurd (TB (x.lt q) a) (UR _)
def Č.kept{h':O_}(x:Č n j f ε)(k:∀b u,ε.get? b=Z u->h'.get? b=Z u):Č n j f h':=λa o e=>(x a o e).stay (λb u _ q=>k b u q) (λ_ q=>q) λ_ _ q=>q
def Č.laid{h':O_}{a:O}{o:HO}(x:Č n j f ε)(k:∀b u,ε.get? b=Z u->h'.get? b=Z u)(i:ε.objs.size<=a)(d:â n j (Û f a o) h' a o):Č n j (Û f a o) h':=λb u e=>by
 have g:=x.fresh i;by_cases h:b=a;·subst h;rw[au]at e;cases e;exact d
 ·rw[aB h]at e;exact(x b u e).stay (λc v _ q=>k c v q) (λc q=>by rw[aB (aE q g)];exact q) λc m q=>by rw[aB (aE q g)];exact q
def Rd(H:Hp)(a:O)(u:HO):Prop:=H a=Z u\/∃o,H a=Z (.frz o u)
def Rd.ok{u:HO}(r:Rd f e u)(x:Č n j f ε):â n j f ε e u:=by
 rcases r with r|⟨o,r⟩;·exact x e u r
 ·obtain⟨_,q⟩:=x e _ r;exact q
def Mut:Option HO->Prop|some (.lst _)=>True|some (.dK _)=>True|some (.dT _)=>True|some (.set _ _)=>True|some (.ins _ _ _)=>True|some (.ext _)=>True|_=>False
def Č.write{h':O_}{x e:O}{p:HO}(E:Č n j f ε)(g:Mut (f x))(B:e=x\/f e=Z (.own x))(k:∀b u,b≠e->ε.get? b=Z u->h'.get? b=Z u)(w:∃u,h'.get? e=Z u)(s:â n j (Û f x p) h' x p):Č n j (Û f x p) h':=λb u q=>by
 have d:∀c y,f c=Z (.own y)->c≠x:=λc y r z=>by subst z;rw[r]at g;exact g
 have h:∀c i,f c=Z (.tup i)->c≠x:=λc i r z=>by subst z;rw[r]at g;exact g
 by_cases o:b=x;·subst o;rw[au]at q;cases q;exact s
 · rw[aB o]at q;by_cases a:b=e
   · have A:f b=Z (.own x):=by
      rcases B with z|z;·exact absurd (a.trans z) o
      ·rw[a];exact z
     rw[q]at A;cases A;obtain⟨v,H⟩:=w;exact⟨v,by rw[a];exact H⟩
   · refine(E b u q).stay (λc v m r=>k c v ?_ r) (λc r=>by rw[aB (d c b r)];exact r) (λc i r=>by rw[aB (h c i r)];exact r) λc _ _ r=>by rw[aB (λz=>by subst z;rw[r]at g;exact g)];exact r
     rcases m with rfl|m;·exact a
     · rintro rfl;rcases B with z|z;·exact d c b m z
       ·rw[m]at z;cases z;exact o rfl
structure Un(fs ex:List O)(H H':Hp)(h h':O_):Prop where
 keep:∀b o,h.get? b=Z o->H b=U->b∉fs->b∉ex->h'.get? b=Z o
 slot:∀b o,h.get? b=Z o->H b=U->b∈fs->b∉ex->∃sl,h'.get? b=Z {o with slots:=sl}free:∀b o,h.get? b=Z o->H b=U->b∉ex->H' b=U
 there:∀b o,h.get? b=Z o->b∉ex->∃o',h'.get? b=Z o'
 tups:∀b xs,H b=Z (.tup xs)->H' b=Z (.tup xs)frzs:∀b o u,H b=Z (.frz o u)->H' b=Z (.frz o u)tbls:∀b ps,H b=Z (.tbl ps)->∃more,H' b=Z (.tbl (ps++more))
variable{ω:List O}
def Un.any{g:List O}{e:O_}(u:Un ω g f Α ε e){b:O}{a:Obj}(q:ε.get? b=Z a)(n:f b=U)(c:b∉g):∃h,e.get? b=Z {a with slots:=h}:=by
 by_cases d:b∈ω;·exact u.slot b a q n d c
 ·exact⟨a.slots,u.keep b a q n d c⟩
def Un.kept{c:List O}{h':O_}(k:∀b u,ε.get? b=Z u->h'.get? b=Z u):Un ω c f f ε h':=⟨λb a q _ _ _=>k b a q,λb a q _ _ _=>⟨a.slots,k b a q⟩,λ_ _ _ n _=>n,λb a q _=>⟨a,k b a q⟩,λ_ _ q=>q,λ_ _ _ q=>q,λ_ d q=>⟨#[],by rw[q];simp⟩⟩
def Un.refl{a:List O}:Un ω a f f ε ε:=Un.kept λ_ _ q=>q
def Un.laid{g:List O}{h':O_}{a:O}{o:HO}(k:∀b u,ε.get? b=Z u->h'.get? b=Z u)(e:ε.objs.size<=a)(c:f a=U):Un ω g f (Û f a o) ε h' where
 keep:=λb u q _ _ _=>k b u q;slot:=λb u q _ _ _=>⟨u.slots,k b u q⟩;free:=λb u q n _=>by rw[aB (A_ (TB (s_ q) e))];exact n
 there:=λb u q _=>⟨u,k b u q⟩;tups:=λb d q=>by rw[aB (aE q c)];exact q
 frzs:=λb u d q=>by rw[aB (aE q c)];exact q
 tbls:=λb h q=>⟨#[],by rw[aB (aE q c),q];simp⟩
def Un.write{s:List O}{h':O_}{x e:O}{o:HO}(c:Mut (f x))(p:e=x\/f e=Z (.own x))(k:∀b u,b≠e->ε.get? b=Z u->h'.get? b=Z u)(g:∃u,h'.get? e=Z u):Un ω s f (Û f x o) ε h':=by
 have h:∀b,f b=U->b≠x:=λb n z=>by subst z;rw[n]at c;exact c
 have i:∀b,f b=U->b≠e:=λb n z=>by
  subst z;rcases p with r|r;·exact h b n r
  ·rw[n]at r;cases r
 have d:∀b u,f b=Z u->¬Mut (Z u)->b≠x:=λb u q m z=>by subst z;rw[q]at c;exact m c
 refine⟨λb u q n _ _=>k b u (i b n) q,λb u q n _ _=>⟨u.slots,k b u (i b n) q⟩,λb u q n _=>by rw[aB (h b n)];exact n,λb u q _=>?_,λb j q=>by rw[aB (d b _ q λz=>z)];exact q,λb u j q=>by rw[aB (d b _ q λz=>z)];exact q,λb v q=>⟨#[],by rw[aB (d b _ q λz=>z),q];simp⟩⟩;by_cases a:b=e;·subst a;exact g
 ·exact⟨u,k b u a q⟩
def trk(h:O_)(H:Hp):List O:=(rl h.objs.size).filter λa=>(H a).isSome
def BL(h:O_)(H:Hp):O_:=PySem.W.hideAll h (trk h H)
def xK(h:O_)(H:Hp):(BL h H).objs.size=h.objs.size:=PySem.W.hideAll_size _ _
def BM{o:Obj}(a:ε.get? e=Z o)(n:f e=U):(BL ε f).get? e=Z o:=PySem.W.hideAll_get _ a λb=>by have q:(f e).isSome=L:=(TY.mp b).2;rw[n]at q;simp at q
def F3{o:Obj}(a:(BL ε f).get? e=Z o):ε.get? e=Z o/\f e=U:=by have b:ε.get? e=Z o:=PySem.W.of_hideAll (trk ε f) a;refine⟨b,?_⟩;cases q:f e with|none=>rfl|some x=>have c:e∈trk ε f:=TY.mpr ⟨Ux.mpr (s_ b),by simp[q]⟩;have z:(BL ε f).get? e=U:=PySem.W.hideAll_none (trk ε f) c;rw[z]at a;cases a
def F4(g h:O_)(b:O):List (O×Obj):=(rl h.objs.size).filterMap λa=>if a=b\/(g.get? a).isSome=L then U else(h.get? a).map λo=>(a,o)
def rest(g h:O_)(a d:O):List (O×Obj):=(F4 g h a).filter λp=>uk (p.1≠d)
structure Mod(K:d_)(mg:Str->Option R)(base:O_):Prop where
 kin:K.In base
 glob:base.Ns R_ mg
 blt:∃mb,base.Ns abh mb/\∀x:Str,x≠"__name__"->mb x=Vn x
 nolimit:base.NoLimit
structure C where
 prog:n_
 w:y_
 K:d_
 mg:Str->Option R
 base:O_
 A:x_
 N:List Str
 s₀:ge
 H₀:Hp
 env:Env
 outer:List Env
 stack:List Env
 ex:List O
 fn:Str->Bool
 calm:Bool
 pn:List (O×Obj)xe:R->ge->Prop
def frs(l:List Env):List O:=l.filterMap (·.frame)
abbrev C.fs(X:C):List O:=frs X.outer
def Vis(a:VD)(x:Str):Prop:=a.names.lookup x=Z .local\/a.names.lookup x=Z .cell\/a.names.lookup x=Z .free
def ĸ(a:VD)(x:Str):Prop:=a.names.lookup x=Z .local\/a.names.lookup x=Z .cell
def Sr(a:Env)(h:O_)(m:Str->Option R)(x:Str)(u:R):Prop:=(a.kindOf x=Z .local/\m x=Z u)\/((a.kindOf x=Z .cell\/a.kindOf x=Z .free)/\∃c,a.cells.lookup x=Z c/\h.IsCell c (Z u))
structure C.Ok(X:C):Prop where
 mod:Mod X.K X.mg X.base
 kind:X.env.scope.kind=.function
 glob:X.env.globals=R_
 blt:X.env.builtins=abh
 above:X.s₀.heap.objs.size<=X.env.locals
 inj:∀x y c,X.env.cells.lookup x=Z c->X.env.cells.lookup y=Z c->x=y
 has:∀x,(X.env.kindOf x=Z .cell\/X.env.kindOf x=Z .free)->∃c,X.env.cells.lookup x=Z c
 cab:∀x c,X.fn x=L->X.env.cells.lookup x=Z c->X.s₀.heap.objs.size<=c
 hd:X.calm=L->X.A.handled=U
 frames:X.A.frames=Z X.stack
 stk:X.stack=X.outer\/(X.stack=X.env::X.outer/\X.env.frame=Z X.env.locals)exf:∀b∈X.ex,b≠X.env.locals/\∀x c,X.env.cells.lookup x=Z c->c≠b
 bs:∀b o,X.base.get? b=Z o->X.s₀.heap.get? b=Z o/\X.H₀ b=U
 bsz:X.base.objs.size<=X.s₀.heap.objs.size
 noex:∀b o,X.base.get? b=Z o->b∉X.ex
 exfs:∀b∈X.ex,b∉X.fs
 funs:X.s₀.heap.FunFrames X.base X.outer
 frf:∀b∈X.fs,X.H₀ b=U
structure Ê(X:C)(f':List (O×Obj))(σ:List (Option V))(H:Hp)(s:ge):Prop where
 ok:X.Ok
 os:s.os=X.s₀.os
 bare:Zk s.gens
 base:Un X.fs X.ex X.H₀ H X.s₀.heap s.heap
 loc:∃m,s.heap.Ns X.env.locals m/\∀(i:Nat)(x:Str)(v:V),X.N[i]?=Z x->σ[i]?=Z (Z v)->Vis X.env.scope x->∃u,Ô v u/\Sr X.env s.heap m x u
 cell:∀x c,X.env.cells.lookup x=Z c->∃v,s.heap.IsCell c v
 free:H X.env.locals=U
 freeC:∀x c,X.env.cells.lookup x=Z c->H c=U
 pin:∀p∈X.pn++f',s.heap.get? p.1=Z p.2/\H p.1=U/\p.1≠X.env.locals/\p.1∉X.fs/\∀v,p.2.data≠.cell v
 hok:Č X.prog X.w H s.heap
 len:σ.length=X.N.length
variable{a:C}
def C.Ok.nofr(c:a.Ok){b:O}{o:Obj}(e:a.base.get? b=Z o):b∉a.fs:=λd=>by have:=(c.funs.mem d).1;rw[e]at this;cases this
variable{δ:List (O×Obj)}{Ã:List (Option V)}
def Ê.bs(I:Ê a δ Ã f d):∀b o,a.base.get? b=Z o->d.heap.get? b=Z o/\f b=U:=λb o e=>⟨I.base.keep b o (I.ok.bs b o e).1 (I.ok.bs b o e).2 (I.ok.nofr e) (I.ok.noex b o e),I.base.free b o (I.ok.bs b o e).1 (I.ok.bs b o e).2 (I.ok.noex b o e)⟩
def Ê.bk(I:Ê a δ Ã f d):∀b o,a.base.get? b=Z o->d.heap.get? b=Z o:=λb o e=>(I.bs b o e).1
def Ê.mod(I:Ê a δ Ã f d):Mod a.K a.mg a.base:=I.ok.mod
def Ê.kIn(I:Ê a δ Ã f d):a.K.In d.heap:=I.ok.mod.kin.keeps I.bk
def Ê.lt(I:Ê a δ Ã f d):a.env.locals<d.heap.objs.size:=let⟨_,b,_⟩:=I.loc;b.lt
def Ê.sz(I:Ê a δ Ã f d):a.s₀.heap.objs.size<=d.heap.objs.size:=TX I.ok.above (WV I.lt)
def Ê.nofs(I:Ê a δ Ã f d){b:O}(h:d.heap.objs.size<=b):b∉a.fs:=λe=>by obtain⟨_,o,c,_⟩:=I.ok.funs.mem e;exact absurd (TB (s_ c) (TX I.sz h)) (UR _)
def Ê.cne(I:Ê a δ Ã f d):∀x c,a.env.cells.lookup x=Z c->c≠a.env.locals:=λx c e z=>by obtain⟨v,o,h,i⟩:=I.cell x c e;obtain⟨m,⟨j,k,n,b,g,_⟩,_⟩:=I.loc;rw[z,b]at h;cases h;rw[g]at i;cases i
def Ê.funs(I:Ê a δ Ã f d):d.heap.FunFrames a.base a.outer:=by
 have all:∀(l:List Env),(∀b∈frs l,b∈a.fs)->a.s₀.heap.FunFrames a.base l->d.heap.FunFrames a.base l:=by intro l;induction l with|nil=>intro _ _;trivial|cons v r k=>intro j q;obtain⟨s,⟨c,o,g,p,n,u⟩,m⟩:=q;have i:c∈a.fs:=j c (by unfold frs;rw[Xw,g];exact on);obtain⟨w,e⟩:=I.base.slot c o n (I.ok.frf c i) i λz=>I.ok.exfs c z i;exact⟨s,⟨c,_,g,p,e,u⟩,k (λb h=>j b (by unfold frs;rw[Xw,g];exact r_ _ h)) m⟩
 exact all a.outer (λ_ h=>h) I.ok.funs
def Ê.stack(I:Ê a δ Ã f d):d.heap.FunFrames a.base a.stack:=by
 rcases I.ok.stk with e|⟨e,c⟩;·rw[e];exact I.funs
 ·rw[e];obtain⟨m,b,_⟩:=I.loc;refine .cons (by rw[I.ok.kind];decide) c b ?_ I.funs;exact YC (TX I.ok.bsz I.ok.above)
def Ê.stkSub(I:Ê a δ Ã f d):∀b∈frs a.stack,b∈a.env.locals::a.fs:=λb c=>by
 rcases I.ok.stk with e|⟨e,g⟩;·rw[e]at c;exact r_ _ c
 ·rw[e]at c;unfold frs at c;rw[Xw,g]at c;exact c
def Ê.stkFree(I:Ê a δ Ã f d):∀b∈frs a.stack,f b=U:=λb c=>by
 rcases v_.mp (I.stkSub b c)with e|c;·rw[e];exact I.free
 ·obtain⟨_,o,g,_⟩:=I.ok.funs.mem c;exact I.base.free b o g (I.ok.frf b c) λz=>I.ok.exfs b z c
def Ê.step{g':Array aaH}{t':Nat}{d':Drawn}{ch:List O}(I:Ê a δ Ã f d)(w:∀b∈ch,(b∈a.ex\/a.s₀.heap.objs.size<=b)/\b≠a.env.locals/\(∀x c,a.env.cells.lookup x=Z c->c≠b)/\∀p∈a.pn++δ,p.1≠b)(y:∀b o,b≠a.env.locals->b∉a.fs->b∉ch->d.heap.get? b=Z o->f b=U->ε.get? b=Z o)(P:∀b o,b≠a.env.locals->b∈a.fs->b∉ch->d.heap.get? b=Z o->f b=U->∃sl,ε.get? b=Z {o with slots:=sl})(j:∀b o,b∉ch->d.heap.get? b=Z o->f b=U->Α b=U)(a':∀b o,b∉ch->d.heap.get? b=Z o->∃o',ε.get? b=Z o')(c':∀b H,f b=Z (.tup H)->Α b=Z (.tup H))(k':∀b o u,f b=Z (.frz o u)->Α b=Z (.frz o u))(e':∀b ps,f b=Z (.tbl ps)->∃i',Α b=Z (.tbl (ps++i')))(ns:∀m,d.heap.Ns a.env.locals m->ε.Ns a.env.locals m)(m':Č a.prog a.w Α ε)(hg:Zk g'):Ê a δ Ã Α {d with heap:=ε,gens:=g',drawn:=d',toks:=t'}:=by
 have b':∀b o,a.s₀.heap.get? b=Z o->b≠a.env.locals:=λb o e=>A_ (TB (s_ e) I.ok.above);have E:∀b o,a.s₀.heap.get? b=Z o->b∉a.ex->b∉ch:=λb o e h hb=>by
  rcases(w b hb).1 with z|z;·exact h z
  ·exact absurd (TB (s_ e) z) (UR _)
 have A:∀x c,a.env.cells.lookup x=Z c->∀v,d.heap.IsCell c v->ε.IsCell c v:=λx c e v⟨o,ho,hd⟩=>by
  have s:c∉ch:=λz=>(w c z).2.2.1 x c e rfl;by_cases hc:c∈a.fs;·obtain⟨sl,q⟩:=P c o (I.cne x c e) hc s ho (I.freeC x c e);exact⟨_,q,hd⟩
  ·exact⟨o,y c o (I.cne x c e) hc s ho (I.freeC x c e),hd⟩
 refine⟨I.ok,I.os,hg,⟨λb o e n hb h=>?_,λb o e n hb h=>?_,λb o e n h=>?_,λb o e h=>?_,λb H e=>c' b H (I.base.tups b H e),λb o H e=>k' b o H (I.base.frzs b o H e),λb ps e=>?_⟩,?_,λx c e=>?_,?_,λx c e=>?_,λp hp=>?_,m',I.len⟩;·exact y b o (b' b o e) hb (E b o e h) (I.base.keep b o e n hb h) (I.base.free b o e n h)
 ·obtain⟨sl,B⟩:=I.base.slot b o e n hb h;obtain⟨l',e2⟩:=P b _ (b' b o e) hb (E b o e h) B (I.base.free b o e n h);exact⟨l',e2⟩
 ·obtain⟨o',B⟩:=I.base.there b o e h;exact j b o' (E b o e h) B (I.base.free b o e n h)
 ·obtain⟨o',B⟩:=I.base.there b o e h;exact a' b o' (E b o e h) B
 ·obtain⟨m1,B⟩:=I.base.tbls b ps e;obtain⟨m2,e2⟩:=e' b _ B;exact⟨m1++m2,by rw[e2,abo]⟩
 · obtain⟨m,hn,hl⟩:=I.loc;refine⟨m,ns m hn,λi x v B e2 e3=>?_⟩;obtain⟨u,r,l⟩:=hl i x v B e2 e3;refine⟨u,r,?_⟩;rcases l with l|⟨k,c,e,z⟩;·exact .inl l
   ·exact .inr ⟨k,c,e,A x c e _ z⟩
 ·obtain⟨v,z⟩:=I.cell x c e;exact⟨v,A x c e v z⟩
 ·obtain⟨m,⟨o,_,_,ho,_⟩,_⟩:=I.loc;exact j _ o (λz=>(w _ z).2.1 rfl) ho I.free
 ·obtain⟨v,o,ho,hd⟩:=I.cell x c e;exact j c o (λz=>(w c z).2.2.1 x c e rfl) ho (I.freeC x c e)
 ·obtain⟨e,n,ne,nf,g⟩:=I.pin p hp;have s:p.1∉ch:=λz=>(w p.1 z).2.2.2 p hp rfl;exact⟨y p.1 p.2 ne nf s e n,j p.1 p.2 s e n,ne,nf,g⟩
def Ê.un{h':O_}{t':Nat}(I:Ê a δ Ã f d)(u:Un a.fs [] f Α d.heap h')(h:Č a.prog a.w Α h'):Ê a δ Ã Α {d with heap:=h',toks:=t'}:=by obtain⟨m,⟨o,A,B,k,r⟩,_⟩:=id I.loc;obtain⟨v,s⟩:=u.any k I.free (by simp);exact I.step (g':=d.gens) (d':=d.drawn) (ch:=[]) (λ_ z=>nomatch z) (λb o _ g _ e n=>u.keep b o e n g (by simp)) (λb o _ g _ e n=>u.slot b o e n g (by simp)) (λb o _ e n=>u.free b o e n (by simp)) (λb o _ e=>u.there b o e (by simp)) u.tups u.frzs u.tbls (λy q=>by obtain⟨w,i,j,c,p⟩:=q;rw[k]at c;cases c;exact⟨_,i,j,s,p⟩) h I.bare
def Ê.call{h':O_}{g':Array aaH}{t':Nat}{d':Drawn}{ch:List O}(I:Ê a δ Ã f d)(u:Un (frs a.stack) ch f Α d.heap h')(k:Č a.prog a.w Α h')(A:Zk g')(i:∀b∈ch,(b∈a.ex\/a.s₀.heap.objs.size<=b)/\b≠a.env.locals/\(∀x c,a.env.cells.lookup x=Z c->c≠b)/\∀p∈a.pn++δ,p.1≠b):Ê a δ Ã Α {d with heap:=h',gens:=g',drawn:=d',toks:=t'}:=by obtain⟨m,⟨o,es,ep,v,r⟩,_⟩:=id I.loc;obtain⟨E,j⟩:=u.any v I.free λz=>(i _ z).2.1 rfl;exact I.step (ch:=ch) i (λb o j B g e n=>u.keep b o e n (λz=>(v_.mp (I.stkSub b z)).elim j B) g) (λb o _ _ g e n=>u.any e n g) (λb o g e n=>u.free b o e n g) (λb o g e=>u.there b o e g) u.tups u.frzs u.tbls (λP y=>by obtain⟨H,q,s,h,w⟩:=y;rw[v]at h;cases h;exact⟨_,q,s,j,w⟩) k A
def Ê.turned{h':O_}{t':Nat}{it:O}(I:Ê a δ Ã f d)(k:∀b o,b≠it->d.heap.get? b=Z o->h'.get? b=Z o)(s:f it=U)(i:it≠a.env.locals)(E:it∈a.ex\/a.s₀.heap.objs.size<=it)(B:∀x c,a.env.cells.lookup x=Z c->c≠it)(A:∀p∈a.pn++δ,p.1≠it):Ê a δ Ã f {d with heap:=h',toks:=t'}:=by
 have h:∀b u,f b=Z u->b≠it:=λb u e z=>by rw[z,s]at e;cases e
 refine I.step (g':=d.gens) (d':=d.drawn) (ch:=[it]) (λb y=>?_) (λb o _ _ g e _=>k b o (λz=>g (by simp[z])) e) (λb o _ _ g e _=>⟨o.slots,k b o (λz=>g (by simp[z])) e⟩) (λ_ _ _ _ n=>n) (λb o g e=>⟨o,k b o (λz=>g (by simp[z])) e⟩) (λ_ _ e=>e) (λ_ _ _ e=>e) (λb ps e=>⟨#[],by rw[e];simp⟩) (λm w=>?_) (λb u e=>?_) I.bare
 · have e:b=it:=by simpa using y
   subst e;exact⟨E,i,B,A⟩
 ·obtain⟨o,H,P,j,r⟩:=w;exact⟨o,H,P,k _ o (VB i) j,r⟩
 · refine(I.hok b u e).stay (λc v g q=>k c v ?_ q) (λ_ q=>q) λ_ _ q=>q;rcases g with z|z;·rw[z];exact h b u e
   ·exact h c _ z
def Ê.tok(I:Ê a δ Ã f d)(t:Nat):Ê a δ Ã f {d with toks:=t}:=I.un (h':=d.heap) (t':=t) Un.refl I.hok
def Ê.kept{h':O_}{t':Nat}(I:Ê a δ Ã f d)(k:∀b u,d.heap.get? b=Z u->h'.get? b=Z u):Ê a δ Ã f {d with heap:=h',toks:=t'}:=I.un (Un.kept k) (I.hok.kept k)
def Ê.laid{X:C}{f:List (O×Obj)}{e:List (Option V)}{H:Hp}{s:ge}{h':O_}{a:O}{o:HO}{t':Nat}(I:Ê X f e H s)(k:∀b u,s.heap.get? b=Z u->h'.get? b=Z u)(c:s.heap.objs.size<=a)(d:â X.prog X.w (Û H a o) h' a o):Ê X f e (Û H a o) {s with heap:=h',toks:=t'}:=I.un (Un.laid k c (I.hok.fresh c)) (I.hok.laid k c d)
def Ê.write{h':O_}{x e:O}{o:HO}{t':Nat}(I:Ê a δ Ã f d)(h:Mut (f x))(i:e=x\/f e=Z (.own x))(k:∀b u,b≠e->d.heap.get? b=Z u->h'.get? b=Z u)(c:∃u,h'.get? e=Z u)(g:â a.prog a.w (Û f x o) h' x o):Ê a δ Ã (Û f x o) {d with heap:=h',toks:=t'}:=I.un (Un.write h i k c) (I.hok.write h i k c g)
def Ê.pins_of{b:List (O×Obj)}(I:Ê a δ Ã f d)(h:∀p∈b,d.heap.get? p.1=Z p.2/\f p.1=U/\p.1≠a.env.locals/\p.1∉a.fs/\∀v,p.2.data≠.cell v):Ê a b Ã f d:=⟨I.ok,I.os,I.bare,I.base,I.loc,I.cell,I.free,I.freeC,λp c=>(Ue.mp c).elim (λz=>I.pin p (TH _ z)) (h p),I.hok,I.len⟩
variable{u:List Str}
def uT(c:u.Nodup){i j:Nat}{x:Str}(a:u[i]?=Z x)(b:u[j]?=Z x):i=j:=by obtain⟨g,e⟩:=B_.mp a;obtain⟨f,d⟩:=B_.mp b;exact(ab3 c).mp (e.trans d.symm)
variable{Å:WX}{s:x_}{θ:R->ge->Prop}{c:Str}{υ:V}{ψ:R}
def xL{Q:Unit->ge->Prop}(I:Ê a δ Ã f d)(hN:a.N.Nodup)(hi:a.N[b]?=Z c)(H:ĸ a.env.scope c)(r:Ô υ ψ)(h:∀s',Ê a δ (Ã.set b (Z υ)) f s'->(∃u,VA u d.heap s'.heap/\(u=a.env.locals\/a.env.cells.lookup c=Z u))->Q () s')(hf:a.fn c=L\/a.env.scope.names.lookup c=Z .local:=by first|exact .inl rfl|exact .inr rfl|assumption):q_ Å s (storeName a.env c ψ) Q θ d:=by
 obtain⟨m,hn,hl⟩:=id I.loc;have k':(a.env.scope.kind==.class||(a.env.scope.kind==.module&&a.env.locals !=a.env.globals))=D:=by rw[I.ok.kind];rfl
 have a':b<Ã.length:=by rw[I.len];exact(B_.mp hi).1
 have cne:=I.cne;have B:∀{u:O}{h':O_},(∃o,d.heap.get? u=Z o/\f u=U)->VA u d.heap h'->Č a.prog a.w f h':=λ{u h'}ha w g ob e=>by
  obtain⟨_,_,P⟩:=ha;refine(I.hok g ob e).stay (λi w' E q=>(w.2 i ?_).trans q) (λ_ q=>q) λ_ _ q=>q;rintro rfl;rcases E with rfl|E;·rw[P]at e;cases e
  ·rw[P]at E;cases E
 rcases H with hk|hk
 · refine wpAny_storeName_local hk hn (λh' m' w=>?_) k';obtain⟨oL,_,_,l',_⟩:=id hn;refine h _ ⟨I.ok,I.os,I.bare,⟨λg o e n hb H=>?_,λg o e n hb H=>?_,I.base.free,λg o e H=>?_,I.base.tups,I.base.frzs,I.base.tbls⟩,⟨_,m',λj y v' A e2 e3=>?_⟩,λy i e=>?_,I.free,I.freeC,λp hp=>?_,B ⟨oL,l',I.free⟩ w,by simpa using I.len⟩ ⟨_,w,.inl rfl⟩;·exact(w.2 g (A_ (TB (s_ e) I.ok.above))).trans (I.base.keep g o e n hb H)
   ·obtain⟨sl,A⟩:=I.base.slot g o e n hb H;exact⟨sl,(w.2 g (A_ (TB (s_ e) I.ok.above))).trans A⟩
   ·obtain⟨o',A⟩:=I.base.there g o e H;exact⟨o',(w.2 g (A_ (TB (s_ e) I.ok.above))).trans A⟩
   · by_cases hj:j=b;·subst hj;rw[hi]at A;cases A;rw[K_ a']at e2;cases e2;exact⟨ψ,r,.inl ⟨hk,by simp⟩⟩
     · rw[E_ (VB hj)]at e2;obtain⟨u',r',q⟩:=hl j y v' A e2 e3;refine⟨u',r',?_⟩;rcases q with⟨k,e⟩|⟨k,i,e,z⟩;·refine .inl ⟨k,?_⟩;have:y≠c:=λe=>hj (uT hN A (e▸hi));simp[this,e]
       ·exact .inr ⟨k,i,e,z.sameBut w (cne y i e)⟩
   ·obtain⟨w',z⟩:=I.cell y i e;exact⟨w',z.sameBut w (cne y i e)⟩
   ·obtain⟨e,n,ne,nf,v⟩:=I.pin p hp;exact⟨(w.2 p.1 ne).trans e,n,ne,nf,v⟩
 · have b':a.fn c=L:=by
    rcases hf with z|z;·exact z
    ·rw[z]at hk;cases hk
   obtain⟨i,E⟩:=I.ok.has c (.inl hk);obtain⟨w',z⟩:=I.cell c i E;refine wpAny_storeName_cell I.ok.kind hk E z (λh' g' w=>?_);obtain⟨oc,d',i'⟩:=id z;refine h {d with heap:=h'} ⟨I.ok,I.os,I.bare,⟨λg o e n hb H=>?_,λg o e n hb H=>?_,I.base.free,λg o e H=>?_,I.base.tups,I.base.frzs,I.base.tbls⟩,⟨m,hn.sameBut w (VB (cne c i E)),λj y v' A e2 e3=>?_⟩,λy c' e=>?_,I.free,I.freeC,λp hp=>?_,B ⟨oc,d',I.freeC c i E⟩ w,by simpa using I.len⟩ ⟨i,w,.inr E⟩;·exact(w.2 g (A_ (TB (s_ e) (I.ok.cab c i b' E)))).trans (I.base.keep g o e n hb H)
   ·obtain⟨sl,A⟩:=I.base.slot g o e n hb H;exact⟨sl,(w.2 g (A_ (TB (s_ e) (I.ok.cab c i b' E)))).trans A⟩
   ·obtain⟨o',A⟩:=I.base.there g o e H;exact⟨o',(w.2 g (A_ (TB (s_ e) (I.ok.cab c i b' E)))).trans A⟩
   · by_cases hj:j=b;·subst hj;rw[hi]at A;cases A;rw[K_ a']at e2;cases e2;exact⟨ψ,r,.inr ⟨.inl hk,i,E,g'⟩⟩
     · rw[E_ (VB hj)]at e2;obtain⟨u',r',q⟩:=hl j y v' A e2 e3;refine⟨u',r',?_⟩;rcases q with q|⟨k,c',e,z'⟩;·exact .inl q
       ·refine .inr ⟨k,c',e,z'.sameBut w ?_⟩;rintro rfl;exact hj (uT hN A (I.ok.inj _ _ _ e E▸hi))
   · by_cases e':c'=i;·subst e';exact⟨_,g'⟩
     ·obtain⟨w2,z2⟩:=I.cell y c' e;exact⟨w2,z2.sameBut w e'⟩
   ·obtain⟨e,n,ne,nf,v⟩:=I.pin p hp;refine⟨(w.2 p.1 ?_).trans e,n,ne,nf,v⟩;intro q;rw[q,d']at e;have q':oc=p.2:=Uk e;exact v w' (by rw[<-q'];exact i')
def uU{Q:Unit->ge->Prop}(I:Ê a δ Ã f d)(k:a.N.Nodup)(i:a.N[b]?=Z c)(g:ĸ a.env.scope c)(r:Ô υ ψ)(h:∀e,Ê a δ (Ã.set b (Z υ)) f e->Q () e)(j:a.fn c=L\/a.env.scope.names.lookup c=Z .local:=by first|exact .inl rfl|exact .inr rfl|assumption):q_ Å s (storeName a.env c ψ) Q θ d:=xL I k i g r (λe m _=>h e m) j
def Ê.call'{s':ge}{ch:List O}(I:Ê a δ Ã f d)(k:s'.os=d.os)(u:Un (frs a.stack) ch f Α d.heap s'.heap)(g:Č a.prog a.w Α s'.heap)(m:Zk s'.gens)(h:∀b∈ch,(b∈a.ex\/a.s₀.heap.objs.size<=b)/\b≠a.env.locals/\(∀x c,a.env.cells.lookup x=Z c->c≠b)/\∀p∈a.pn++δ,p.1≠b):Ê a δ Ã Α s':=by obtain⟨q,n,o,i,j⟩:=s';have e:j=d.os:=k;subst e;exact I.call (g':=n) (t':=i) (d':=o) u g m h
abbrev XK:=R->Option O->Hp->Prop
abbrev St:=List (Option V)
abbrev VK:=V->Hp->Prop
abbrev TE:=St->Hp->VK->Prop
abbrev TT:=St->Hp->(Bool->Hp->Prop)->Prop
abbrev TA:=St->Hp->(List V->Hp->Prop)->Prop
structure uV where
 nx:St->Hp->Prop
 rt:VK
 bk:St->Hp->Prop:=λ_ _=>False
 ct:St->Hp->Prop:=λ_ _=>False
abbrev TS:=uV->St->Hp->Prop
def EP(X:C)(d:List (O×Obj))(b:St)(Q:VK)(u:R)(c:ge):Prop:=∃v a,Ê X d b a c/\Ô v u/\Q v a
def TP(X:C)(e:List (O×Obj))(c:St)(Q:Bool->Hp->Prop)(b:Bool)(d:ge):Prop:=∃a,Ê X e c a d/\Q b a
def AP(X:C)(f:List (O×Obj))(c:St)(Q:List V->Hp->Prop)(d:List R)(e:ge):Prop:=∃a b,Ê X f c b e/\Ë a d/\Q a b
def SP(X:C)(e:List (O×Obj))(a:uV)(f:Flow)(d:ge):Prop:=match f with|.next=>∃b c,Ê X e b c d/\a.nx b c|.brk=>∃b c,Ê X e b c d/\a.bk b c|.cont=>∃b c,Ê X e b c d/\a.ct b c|.ret u=>∃v b c,Ê X e b c d/\Ô v u/\a.rt v c
def PE(X:C)(e:u_)(t:TE):Prop:=∀(b:List (O×Obj))(s:ge)(a:St)(H:Hp)(Q:VK),Ê X b a H s->t a H Q->q_ (w_ X.prog X.w) X.A (eval e X.env) (EP X b a Q) X.xe s
def PT(X:C)(e:u_)(t:TT):Prop:=∀(b:List (O×Obj))(s:ge)(a:St)(H:Hp)(Q:Bool->Hp->Prop),Ê X b a H s->t a H Q->q_ (w_ X.prog X.w) X.A (isTrue e X.env (eval e X.env)) (TP X b a Q) X.xe s
def PW(X:C)(e:u_)(t:TT):Prop:=∀(Ü:Sem R)(b:List (O×Obj))(s:ge)(a:St)(H:Hp)(Q:Bool->Hp->Prop),Ê X b a H s->t a H Q->q_ (w_ X.prog X.w) X.A (isTrue e X.env Ü) (TP X b a Q) X.xe s
def PA(X:C)(c:List u_)(t:TA):Prop:=∀(pos:Pos)(b:List (O×Obj))(s:ge)(a:St)(H:Hp)(Q:List V->Hp->Prop),Ê X b a H s->t a H Q->q_ (w_ X.prog X.w) X.A (spliced (TF pos (k_ c X.env))) (AP X b a Q) X.xe s
def PS(X:C)(d:UH)(t:TS):Prop:=∀(c:List (O×Obj))(s:ge)(b:St)(H:Hp)(a:uV),Ê X c b H s->t a b H->q_ (w_ X.prog X.w) X.A (exec d X.env) (SP X c a) X.xe s
def ĳ(X:C)(d:List UH)(t:TS):Prop:=∀(c:List (O×Obj))(s:ge)(b:St)(H:Hp)(a:uV),Ê X c b H s->t a b H->q_ (w_ X.prog X.w) X.A (execs d X.env) (SP X c a) X.xe s
def á{t:Sem P}{Q b:P->ge->Prop}(h:q_ Å s t Q θ d)(c:∀a d,Q a d->b a d):q_ Å s t b θ d:=Ur h c λ_ _ x=>x
def xM(i:Nat):TE:=λa H Q=>∃v,a[i]?=Z (Z v)/\Q v H
def tC(v:V):TE:=λ_ H Q=>Q v H
variable{k:Pos}
def xN(A:a.N[b]?=Z c)(q:Vis a.env.scope c)(j:(c==("__debug__":Str))=D:=by decide)(n:(c==("__classdict__":Str))=D:=by decide):PE a (.Name c k) (xM b):=by
 intro B s p H Q I h;obtain⟨v,e,h⟩:=h;obtain⟨m,w,z⟩:=I.loc;obtain⟨u,r,l⟩:=z b c v A e q;have i:EP a B p Q u s:=⟨v,H,I,r,h⟩;rcases l with⟨g,y⟩|⟨g,d,o,f⟩;·exact wpAny_Name (wpAny_loadName_local I.ok.kind g w y i) j
 · rcases g with g|g;·exact wpAny_Name (wpAny_loadName_cell I.ok.kind g o f i) j
   ·exact wpAny_Name (wpAny_loadName_free I.ok.kind g o f i n) j
def Ke{i j b}:PE a (.Constant (.int i) j b) (tC (.int i)):=λ_ _ _ H _ I h=>wpAny_Constant_int ⟨.int i,H,I.tok _,⟨_,rfl⟩,h⟩
def O5{b j c}:PE a (.Constant (.bool b) j c) (tC (.bl b)):=λ_ _ _ H _ I h=>Constant_bool ⟨.bl b,H,I,rfl,h⟩
def Kf{j b}:PE a (.Constant .none j b) (tC .non):=λ_ _ _ H _ I h=>Constant_none ⟨.non,H,I,rfl,h⟩
def Kg{x j b}:PE a (.Constant (.str x) j b) (tC (.str x)):=λ_ _ _ H _ I h=>Calls.Constant_str ⟨.str x,H,I.tok _,⟨_,rfl⟩,h⟩
def Gl(X:C)(x:Str):Prop:=X.env.kindOf x=Z .globalImplicit
variable{Τ:St}{Ω:R->ge->Prop}
def mi(I:Ê a δ Τ f d)(e:Gl a c)(b:a.mg c=Z ψ)(h:Ω ψ d)(g:(c==("__debug__":Str))=D:=by decide):q_ (w_ a.prog a.w) a.A (eval (.Name c k) a.env) Ω θ d:=Y4 I.ok.kind e (Calls.loadGlobal_global (by rw[I.ok.glob];exact I.mod.glob.keeps I.bk) b h) g
def gF(I:Ê a δ Τ f d)(i:Gl a c)(g:a.mg c=U)(b:Vn c=Z ψ)(h:Ω ψ d)(e:c≠"__name__":=by decide)(j:(c==("__debug__":Str))=D:=by decide):q_ (w_ a.prog a.w) a.A (eval (.Name c k) a.env) Ω θ d:=by obtain⟨o,n,m⟩:=I.mod.blt;exact Y4 I.ok.kind i (Calls.loadGlobal_builtin (by rw[I.ok.glob];exact I.mod.glob.keeps I.bk) g (by rw[I.ok.blt];exact n.keeps I.bk) ((m c e).trans b) h) j
def xO(d:Gl a c)(b:a.mg c=Z ψ)(r:Ô υ ψ)(e:(c==("__debug__":Str))=D:=by decide):PE a (.Name c k) (tC υ):=λ_ _ _ H _ I h=>mi I d b ⟨υ,H,I,r,h⟩ e
def F5(f:Gl a c)(e:a.mg c=U)(b:Vn c=Z ψ)(r:Ô υ ψ)(d:c≠"__name__":=by decide)(g:(c==("__debug__":Str))=D:=by decide):PE a (.Name c k) (tC υ):=λ_ _ _ H _ I h=>gF I f e b ⟨υ,H,I,r,h⟩ d g
def tB(t:TE):TT:=λa H Q=>t a H λx b=>∃c,x=.bl c/\Q c b
variable{g:u_}{Φ:TE}
def Kh(h:PE a g Φ)(i:∀Ü,isTrue g a.env Ü=(do let v<-Ü;aaV g.pos;Xk [v] (truthy v)):=by intro _;rfl):PT a g (tB Φ):=by intro j s b H Q I f;refine isTrue_plain (á (h j s b H _ I f) λv n⟨x,m,k,c,e⟩=>?_) (i _);obtain⟨d,rfl,q⟩:=e;cases c;exact Vx ⟨m,k,q⟩
def Ss(t u:TT):TT:=λa H Q=>t a H λc b=>if c=L then u a b Q else Q D b
def tOr(t u:TT):TT:=λa H Q=>t a H λc b=>if c=L then Q L b else u a b Q
def Su(t:TT):TT:=λa H Q=>t a H λc b=>Q (!c) b
def F6{b:TT}(f:PT a g b):PW a (.BoolOp .And [g] k) b:=by intro j i s d H Q I h;refine isTrue_and (á (f i s d H Q I h) λc m e=>?_);cases c with|true=>exact isTrue_and_nil e|false=>exact e
def Ki{b:TT}(f:PT a g b):PW a (.BoolOp .Or [g] k) b:=by intro j i s d H Q I h;refine isTrue_or (á (f i s d H Q I h) λc m e=>?_);cases c with|false=>exact isTrue_or_nil e|true=>exact e
variable{w:u_}{A:List u_}
def Kj{e b:TT}(q:PT a g e)(p:PW a (.BoolOp .And (w::A) k) b):PW a (.BoolOp .And (g::w::A) k) (Ss e b):=by intro n i s d H Q I h;refine isTrue_and (á (q i s d H _ I h) λc o⟨m,j,f⟩=>?_);cases c with|true=>exact p n i o d m Q j f|false=>exact⟨m,j,f⟩
def O6{e b:TT}(q:PT a g e)(p:PW a (.BoolOp .Or (w::A) k) b):PW a (.BoolOp .Or (g::w::A) k) (tOr e b):=by intro n i s d H Q I h;refine isTrue_or (á (q i s d H _ I h) λc o⟨m,j,f⟩=>?_);cases c with|true=>exact⟨m,j,f⟩|false=>exact p n i o d m Q j f
def Kk{b:TT}(e:PT a g b):PT a (.UnaryOp .Not g k) (Su b):=by intro f s d H Q I h;exact isTrue_not (e f s d H (λc i=>Q (!c) i) I h)
def O7(e d:TE):TE:=λa H Q=>e a H λx b=>∃c,x=.bl c/\if c=L then d a b Q else Q (.bl D) b
def Sv(e d:TE):TE:=λa H Q=>e a H λx b=>∃c,x=.bl c/\if c=L then Q (.bl L) b else d a b Q
def O8(b:TE):TE:=λa H Q=>b a H λx d=>∃c,x=.bl c/\Q (.bl (!c)) d
def Ek{c}(h:PE a g Φ):PE a (.BoolOp c [g] k) Φ:=λe s b H Q I d=>BoolOp_one (h e s b H Q I d)
def El{e:TE}(p:PE a g Φ)(o:PE a (.BoolOp .And (w::A) k) e):PE a (.BoolOp .And (g::w::A) k) (O7 Φ e):=by intro f s d H Q I h;refine BoolOp_and (á (p f s d H _ I h) λv m⟨x,j,i,n,b⟩=>?_);obtain⟨c,rfl,b⟩:=b;cases n;refine Vx ?_;cases c with|true=>exact o f m d j Q i b|false=>exact⟨.bl D,j,i,rfl,b⟩
def O9{e:TE}(p:PE a g Φ)(o:PE a (.BoolOp .Or (w::A) k) e):PE a (.BoolOp .Or (g::w::A) k) (Sv Φ e):=by intro f s d H Q I h;refine BoolOp_or (á (p f s d H _ I h) λv m⟨x,j,i,n,b⟩=>?_);obtain⟨c,rfl,b⟩:=b;cases n;refine Vx ?_;cases c with|false=>exact o f m d j Q i b|true=>exact⟨.bl L,j,i,rfl,b⟩
def Kl(f:PE a g Φ):PE a (.UnaryOp .Not g k) (O8 Φ):=by intro i s d H Q I h;refine UnaryOp_ (á (f i s d H _ I h) λv n⟨x,m,j,e,b⟩=>?_);obtain⟨c,rfl,b⟩:=b;cases e;exact not_of (Vx ⟨.bl (!c),m,j,rfl,b⟩)
def tIf(t:TT)(e d:TE):TE:=λa H Q=>t a H λc b=>if c=L then e a b Q else d a b Q
def BN{f:TE}{i:TT}{c:u_}(p:PT a c i)(r:PE a g Φ)(q:PE a w f):PE a (.IfExp c g w k) (tIf i Φ f):=by intro e s b H Q I h;refine wpAny_IfExp (á (p e s b H _ I h) λd j⟨o,n,m⟩=>?_);cases d with|true=>exact r e j b o Q n m|false=>exact q e j b o Q n m
def ă(K:d_)(H:Hp)(a:O)(c:List V):Prop:=Rd H a (.lst c)\/∃(o:Obj)(b:Array R)(n:Nat),K.lookup a=Z o/\o.cls=.type "list"/\o.dict=U/\o.data=.seq b n/\b.size<=sizeLine/\Ë c b.toList
def ð(K:d_)(H:Hp)(a:O)(c:List V):Prop:=Rd H a (.tup c)\/∃(o:Obj)(b:Array R)(n:Nat),K.lookup a=Z o/\o.cls=.type "tuple"/\o.data=.seq b n/\b.size<=sizeLine/\Ë c b.toList
def Sw:R->Option V|.none=>Z .non|.bool b=>Z (.bl b)|.int i _=>Z (.int i)|.str x _=>Z (.str x)|.bytes b _=>Z (.byt b)|.float b _=>Z (.flt b)|.ref a=>Z (.ref a)|.type n=>Z (.ty n)|_=>U
def Ô.abs(r:Ô υ ψ):Sw ψ=Z υ:=by cases υ with|non=>cases r;rfl|bl _=>cases r;rfl|int _=>obtain⟨t,rfl⟩:=r;rfl|str _=>obtain⟨t,rfl⟩:=r;rfl|byt _=>obtain⟨t,rfl⟩:=r;rfl|flt _=>obtain⟨t,rfl⟩:=r;rfl|ref _=>cases r;rfl|ty _=>cases r;rfl
def Ô.inj{y:V}(r:Ô υ ψ)(q:Ô y ψ):υ=y:=Uk (r.abs.symm.trans q.abs)
def Ë.inj:∀{b a:List V}{c:List R},Ë b c->Ë a c->b=a|_,_,_,.nil,.nil=>rfl|_,_,_,.cons r t,.cons e d=>by rw[r.inj e,Ë.inj t d]
variable{v:d_}
def ă.of(h:f e=Z (.lst ν)):ă v f e ν:=.inl (.inl h)
def ð.of(h:f e=Z (.tup ν)):ð v f e ν:=.inl (.inl h)
def Ê.list(I:Ê a δ Τ f d)(h:ă a.K f e ν):∃c:List R,Ë ν c/\PlainL d.heap e c.toArray/\ν.length<=sizeLine:=by
 rcases h with h|⟨o,c,n,i,k,j,g,m,r⟩;·obtain⟨z,c,n,r,b⟩:=h.ok I.hok;exact⟨c,r,⟨_,n,b,rfl,rfl,rfl⟩,z⟩
 ·refine⟨c.toList,r,⟨o,n,I.kIn e o i,k,j,by simpa using g⟩,?_⟩;have b:=r.length;simp only[UG]at b;omega
def Ê.tuple(I:Ê a δ Τ f d)(h:ð a.K f e ν):∃c:List R,Ë ν c/\L' d.heap e c.toArray/\ν.length<=sizeLine:=by
 rcases h with h|⟨o,c,n,i,j,g,k,r⟩;·obtain⟨z,c,r,p⟩:=h.ok I.hok;exact⟨c,r,p,z⟩
 ·refine⟨c.toList,r,⟨o,I.kIn e o i,j,n,by simpa using g⟩,?_⟩;have b:=r.length;simp only[UG]at b;omega
def Ê.list_inj{j:List V}(I:Ê a δ Τ f d)(h:ă a.K f e ν)(q:ă a.K f e j):ν=j:=by
 obtain⟨i,r,⟨o,n,b,_,_,c⟩,_⟩:=I.list h;obtain⟨g,p,⟨u,v,k,_,_,m⟩,_⟩:=I.list q;rw[b]at k;cases k;rw[c]at m;injection m with s _;have:i=g:=by simpa using congrArg Yp s
 subst this;exact r.inj p
def Ê.tuple_inj{j:List V}(I:Ê a δ Τ f d)(h:ð a.K f e ν)(q:ð a.K f e j):ν=j:=by
 obtain⟨i,r,⟨o,b,_,n,c⟩,_⟩:=I.tuple h;obtain⟨g,p,⟨u,k,_,v,m⟩,_⟩:=I.tuple q;rw[b]at k;cases k;rw[c]at m;injection m with s _;have:i=g:=by simpa using congrArg Yp s
 subst this;exact r.inj p
abbrev C.wish(X:C)(E:R->ge->Prop):C:={X with xe:=E}
abbrev C.nox(X:C):C:=X.wish λ_ _=>False
def C.Ok.wish(b:a.Ok)(E:R->ge->Prop):(a.wish E).Ok:=⟨b.mod,b.kind,b.glob,b.blt,b.above,b.inj,b.has,b.cab,b.hd,b.frames,b.stk,b.exf,b.bs,b.bsz,b.noex,b.exfs,b.funs,b.frf⟩
def C.Ok.unwish(b:(a.wish θ).Ok):a.Ok:=⟨b.mod,b.kind,b.glob,b.blt,b.above,b.inj,b.has,b.cab,b.hd,b.frames,b.stk,b.exf,b.bs,b.bsz,b.noex,b.exfs,b.funs,b.frf⟩
def Ê.wish(I:Ê a δ Τ f d)(E:R->ge->Prop):Ê (a.wish E) δ Τ f d:=⟨I.ok.wish E,I.os,I.bare,I.base,I.loc,I.cell,I.free,I.freeC,I.pin,I.hok,I.len⟩
def Ê.unwish(I:Ê (a.wish θ) δ Τ f d):Ê a δ Τ f d:=⟨I.ok.unwish,I.os,I.bare,I.base,I.loc,I.cell,I.free,I.freeC,I.pin,I.hok,I.len⟩
def SP.unwish{b:uV}{f:Flow}(h:SP (a.wish θ) δ b f d):SP a δ b f d:=by cases f with|next=>obtain⟨c,e,I,q⟩:=h;exact⟨c,e,I.unwish,q⟩|brk=>obtain⟨c,e,I,q⟩:=h;exact⟨c,e,I.unwish,q⟩|cont=>obtain⟨c,e,I,q⟩:=h;exact⟨c,e,I.unwish,q⟩|ret u=>obtain⟨v,c,e,I,r,q⟩:=h;exact⟨v,c,e,I.unwish,r,q⟩
variable{Ψ:List UH}
def ĳ.nox{t:TS}(h:ĳ a.nox Ψ t):ĳ a Ψ t:=λe s c H b I d=>Ur (h e s c H b (I.wish _) d) (λ_ _ q=>q.unwish) λ_ _ z=>UK z
def Pa:TS:=λa b H=>a.nx b H
def Sx(t u:TS):TS:=λa b H=>t {a with nx:=u a} b H
def tz:ĳ a [] Pa:=λ_ _ b H _ I h=>aac ⟨b,H,I,h⟩
variable{Η:UH}
def gh{t u:TS}(j:PS a Η t)(i:ĳ a Ψ u):ĳ a (Η::Ψ) (Sx t u):=by intro d s e H b I h;refine wpAny_execs_cons (á (j d s e H {b with nx:=u b} I h) λf g q=>?_);cases f with|next=>obtain⟨c,m,k,q⟩:=q;exact i d g c m b k q|ret v=>exact q|brk=>exact q|cont=>exact q
def o7{t:TS}(d:PS a Η t):ĳ a [Η] t:=by intro e s c H b I h;refine wpAny_execs_cons (á (d e s c H b I h) λf g q=>?_);cases f with|next=>exact aac q|ret v=>exact q|brk=>exact q|cont=>exact q
def Ê.quiet(I:Ê a δ Τ f d):interactive a.env=D:=by simp[interactive,I.ok.kind]
def Pb(c:TE):TS:=λa b H=>c b H λ_ d=>a.nx b d
def tE(f:PE a g Φ)(e:UD g U k.line a.env=pure D:=by rfl):PS a (.Expr g k) (Pb Φ):=by intro i s c H b I h;exact wpAny_Expr_any (á (f i s c H _ I h) λv n⟨x,m,j,o,d⟩=>⟨c,m,j,d⟩) I.quiet e
def Sy(c:TE):TS:=λa b H=>c b H a.rt
def xP(f:PE a g Φ):PS a (.Return (Z g) k) (Sy Φ):=by intro i s c H b I h;exact wpAny_Return_some (á (f i s c H _ I h) λv n⟨x,m,j,d,e⟩=>⟨x,c,m,j,d,e⟩)
def Sz(c:TT)(t u:TS):TS:=λa d H=>c d H λb e=>if b=L then t a d e else u a d e
def F7{t u:TS}{b:List UH}{i:TT}(p:PT a g i)(r:ĳ a Ψ t)(q:ĳ a b u):PS a (.If g Ψ b k) (Sz i t u):=by intro f s e H c I h;refine wpAny_If (á (p f s e H _ I h) λd j⟨o,n,m⟩=>?_);cases d with|true=>exact r f j e o c n m|false=>exact q f j e o c n m
def Km:TS:=λ_ _ _=>False
def BO:PS a Η Km:=λ_ _ _ _ _ _ h=>h.elim
abbrev TG:=V->St->Hp->(St->Hp->Prop)->Prop
abbrev ū:=List V->St->Hp->(St->Hp->Prop)->Prop
def PG(X:C)(a:u_)(t:TG):Prop:=∀(d:List (O×Obj))(s:ge)(c:St)(H:Hp)(v:V)(u:R)(Q:St->Hp->Prop),Ê X d c H s->Ô v u->t v c H Q->q_ (w_ X.prog X.w) X.A (WK a X.env u) (λ_ f=>∃b e,Ê X d b e f/\Q b e) X.xe s
def Ŕ(X:C)(g:List u_)(t:ū):Prop:=∀(e:List (O×Obj))(s:ge)(b:St)(H:Hp)(c:List V)(d:List R)(Q:St->Hp->Prop),Ê X e b H s->Ë c d->t c b H Q->q_ (w_ X.prog X.w) X.A (assignInOrder ((T_ g X.env).map (·.2)) d) (λ_ h=>∃a f,Ê X e a f h/\Q a f) X.xe s
abbrev Pc:=V->V->V->Hp->(Hp->Prop)->Prop
def RA(X:C)(t:Pc):Prop:=∀(d:List (O×Obj))(s:ge)(a:St)(H:Hp)(o i v:V)(b c u:R)(Q:Hp->Prop),Ê X d a H s->Ô o b->Ô i c->Ô v u->t o i v H Q->q_ (w_ X.prog X.w) X.A (setItem b c u) (λ_ f=>∃e,Ê X d a e f/\Q e) X.xe s
def wB(i:Nat):TG:=λv a H Q=>Q (a.set i (Z v)) H
def gZ(g:a.N.Nodup)(e:a.N[b]?=Z c)(d:ĸ a.env.scope c)(f:a.fn c=L\/a.env.scope.names.lookup c=Z .local:=by first|exact .inl rfl|exact .inr rfl|assumption):PG a (.Name c k) (wB b):=by intro n s j H v u Q I r h;exact wpAny_assign_Name (uU I g e d r (λm i=>⟨_,H,i,h⟩) f)
def SA:ū:=λb a H Q=>b=[]/\Q a H
def Pd(t:TG)(u:ū):ū:=λc b H Q=>∃v r,c=v::r/\t v b H λa d=>u r a d Q
def xQ:Ŕ a [] SA:=by intro f s b H c d Q I r h;obtain⟨e,h⟩:=h;subst e;cases r;exact assignInOrder_nil ⟨b,H,I,h⟩
def o8{t:TG}{u:ū}(m:PG a g t)(k:Ŕ a A u)(j:(T_ (g::A) a.env).map (·.2)=WK g a.env::(T_ A a.env).map (·.2):=by rfl):Ŕ a (g::A) (Pd t u):=by intro c s d H q y Q I r h;obtain⟨v,w,n,h⟩:=h;subst n;cases r with|cons r f=>rw[j];refine assignInOrder_cons (á (m c s d H _ _ _ I r h) λ_ e⟨b,p,o,i⟩=>?_);exact k c e b p _ _ Q o f i
def SD(K:d_)(n:Nat)(t:ū):TG:=λv c H Q=>∃a b,v=.ref a/\ð K H a b/\b.length=n/\t b c H Q
variable{o:Nat}
def Em{t:ū}(E:a.calm=L)(h:Ŕ a A t)(z:(T_ A a.env).length=o:=by rfl)(i:(T_ A a.env).findIdx? (·.1)=U:=by rfl):PG a (.Tuple A b k) (SD a.K o t):=by intro n s j H v u Q I r g;obtain⟨f,p,e1,y,B,g⟩:=g;subst e1;cases r;obtain⟨a',m,w,hz⟩:=I.tuple y;refine assign_Tuple_tuple (I.ok.hd E) w (by simp[z,<-B,m.length]) i λP q=>?_;have I1:Ê a n j H {s with heap:=P}:=I.kept (t':=s.toks) λd c e=>q d c (A_ (s_ e)) e;exact h n _ j H p _ Q I1 (by simpa using m) g
def SE(b c:TE)(t:Pc):TG:=λv a H Q=>b a H λo f=>c a f λi e=>t o i v e λd=>Q a d
def Kn{f:TE}{t:Pc}(A:PE a g Φ)(B:PE a w f)(z:RA a t)(E:∀v,WK (.Subscript g w k) a.env v=(do
 let b<-Xk [v] (eval g a.env)let c<-Xk [v,b] (eval w a.env)aaV k
 Xk [v,b,c] (setItem b c v)release [v,b,c] []):=by intro _;rfl):PG a (.Subscript g w k) (SE Φ f t):=by intro e s d H v u Q I r h;rw[E];refine ck (Uu (á (A e s d H _ I h) λb j⟨x,H1,I1,n,q⟩=>?_));refine ck (Uu (á (B e j d H1 _ I1 q) λc i⟨y,H2,I2,m,p⟩=>?_));refine ck (aa9 (ck (Uu (á (z e i d H2 x y v b c u _ I2 n m r p) λ_ s3⟨H3,P,o⟩=>?_))));exact wpAny_release ⟨d,H3,P,o⟩
def RB(c:TE)(g:TG):TS:=λa b H=>c b H λx d=>g x b d a.nx
def Eo{b:TG}(p:PE a w Φ)(o:PG a g b)(n:aba [g] w k.line a.env=pure D:=by rfl)(m:abb [g] w a.env=pure U:=by rfl)(r:(T_ [g] a.env).map (·.2)=[WK g a.env]:=by rfl):PS a (.Assign [g] w k) (RB Φ b):=by intro e s d H c I h;refine wpAny_Assign_stores (á (p e s d H _ I h) λv f⟨x,y,u,i,j⟩=>?_) n m;rw[r];exact á (o e f d y x v _ u i j) λ_ z q=>q
variable{z:Pos}
def nZ(q:a.N.Nodup)(n:a.N[b]?=Z c)(j:ĸ a.env.scope c)(p:PE a g Φ)(m:UD g (Z (.Name c z)) k.line a.env=pure D:=by rfl)(o:a.fn c=L\/a.env.scope.names.lookup c=Z .local:=by first|exact .inl rfl|exact .inr rfl|assumption):PS a (.Assign [.Name c z] g k) (RB Φ (wB b)):=by intro r s e H d I h;refine wpAny_Assign_Name (á (p r s e H _ I h) λv E⟨y,A,w,f,i⟩=>?_) m;exact uU w q n j f (λB u=>⟨_,A,u,i⟩) o
structure It where
 go:Nat->Hp->Prop
 yld:Nat->Hp->V->Hp->Prop
 stop:Nat->Hp->Prop
def tq(X:C)(a:List (O×Obj))(H:Hp)(b:O):Prop:=H b=U/\b≠X.env.locals/\b∉X.fs/\(b∈X.ex\/X.s₀.heap.objs.size<=b)/\(∀x c,X.env.cells.lookup x=Z c->c≠b)/\∀p∈X.pn++a,p.1≠b
def Ê.fpOk(I:Ê a δ Τ f d)(g:d.heap.objs.size<=e)(i:Α e=U):tq a δ Α e:=by
 refine⟨i,Wr (TB I.lt g),I.nofs g,.inr (TX I.sz g),λx c b z=>?_,λp h z=>?_⟩;·obtain⟨v,q⟩:=I.cell x c b;exact absurd (TB q.lt (by rw[z];exact g)) (UR _)
 ·exact absurd (TB (s_ (I.pin p h).1) (by rw[z];exact g)) (UR _)
structure xR(P:n_)(w:y_)(K:d_)(tg:u_)(J:It)(fp:List O)(it:O)(tn:Nat->O_->Prop):Prop where
 mem:it∈fp
 obj:∀i h,tn i h->∀b∈fp,∃o,h.get? b=Z o/\∀v,o.data≠.cell v
 keep:∀i h h',tn i h->(∀b∈fp,∀o,h.get? b=Z o->h'.get? b=Z o)->tn i h'
 item:∀(X:C),X.prog=P->X.w=w->X.K=K->X.calm=L->∀(i:Nat)(f':List (O×Obj))(s:ge)(σ:St)(H:Hp)(E:R->ge->Prop),Ê X f' σ H s->(∀b∈fp,tq X f' H b)->tn i s.heap->J.go i H->q_ (w_ P w) X.A (Wf (.ref it)) (λr s1=>∃u,r=Z u/\q_ (w_ P w) X.A (YH tg (.ref it) u) (λ_ s2=>∃x H',Ê X f' σ H' s2/\Ô x u/\J.yld i H x H'/\tn (i+1) s2.heap/\∀b∈fp,H' b=U) E s1) E s
 done:∀(X:C),X.prog=P->X.w=w->X.K=K->X.calm=L->∀(i:Nat)(f':List (O×Obj))(s:ge)(σ:St)(H:Hp)(E:R->ge->Prop),Ê X f' σ H s->(∀b∈fp,tq X f' H b)->tn i s.heap->J.stop i H->q_ (w_ P w) X.A (Wf (.ref it)) (λr s1=>r=U/\Ê X f' σ H s1) E s
 self:∀(A:x_)(i:Nat)(s:ge)(Q:R->ge->Prop)(E:R->ge->Prop),tn i s.heap->Q (.ref it) s->q_ (w_ P w) A (ž (.ref it)) Q E s
abbrev TI:=St->Hp->(It->Hp->Prop)->Prop
def PIE(X:C)(h:List (O×Obj))(i:St)(j:u_)(a:It->Hp->Prop)(d:R)(f:ge):Prop:=∃(it:O)(g:List O)(e:Nat->O_->Prop)(J:It)(c:Hp),d=.ref it/\Ê X h i c f/\xR X.prog X.w X.K j J g it e/\e 0 f.heap/\(∀b∈g,tq X h c b)/\a J c
def PI(X:C)(e a:u_)(d:TI):Prop:=∀(c:List (O×Obj))(s:ge)(b:St)(H:Hp)(R:It->Hp->Prop),Ê X c b H s->d b H R->q_ (w_ X.prog X.w) X.A (eval a X.env) (λv f=>q_ (w_ X.prog X.w) X.A (ž v) (PIE X c b e R) X.xe f) X.xe s
variable{Β:Array R}
def BP{o:Obj}{n:String}{Q:Unit->ge->Prop}(b:d.heap.get? e=Z o)(i:o.cls=.type n)(f:o.data=.fields Β)(c:["enumerate","zip","dict_itemiterator","dict_reverseitemiterator","odict_iterator","itertools.zip_longest","itertools.pairwise"].contains n=D)(a:Q () d):q_ Å s (YH g (.ref e) ψ) Q θ d:=by unfold YH;cases g<;>first|exact h_ a|(cases ψ<;>first|exact h_ a|(refine ck (wpAny_load b ?_);rw[i,f];show q_ Å s (if(["enumerate","zip","dict_itemiterator","dict_reverseitemiterator","odict_iterator","itertools.zip_longest","itertools.pairwise"].contains n&&Β[0]?==Z (Vd _))=L then _ else _) Q θ d;rw[if_neg (by intro h;rw[c,Bool.false_and]at h;cases h)];exact h_ a))
def Itl(K:d_)(a:O):It:=⟨λi H=>∃b x,ă K H a b/\b[i]?=Z x,λi H x c=>c=H/\∀b,ă K H a b->b[i]?=Z x,λi H=>∃b,ă K H a b/\b.length<=i⟩
def Itt(K:d_)(a:O):It:=⟨λi H=>∃b x,ð K H a b/\b[i]?=Z x,λi H x c=>c=H/\∀b,ð K H a b->b[i]?=Z x,λi H=>∃b,ð K H a b/\b.length<=i⟩
def X'(a:Int)(n:Nat):It:=⟨λi _=>i<n,λi H x b=>b=H/\x=.int (a+i),λi _=>n<=i⟩
def xS(a q:O):xR n j v g (Itl v a) [q] q (λi h=>h.IsListIter q a i)where
 mem:=by simp
 obj:=λi h st b r=>by
  have e:b=q:=by simpa using r
  subst e;obtain⟨o,e,c,d⟩:=st;exact⟨o,e,λm z=>by rw[d]at z;cases z⟩
 keep:=λi h B st k=>st.at λo e=>k q (by simp) o e;item:=by intro X hP hw hK hc i f' s σ H E f A st hg;subst hP hw hK;obtain⟨xs,x,y,hx⟩:=hg;obtain⟨a',P,p,hz⟩:=f.list y;obtain⟨u,hu,ru⟩:=P.get hx;obtain⟨f0,f1,I,f3,f4,f5⟩:=A q (by simp);refine wpAny_pyNext_list_item st p.isList (x:=u) (by simpa using hu) λB w sb=>?_;have I1:Ê X f' σ H {s with heap:=B}:=f.turned (t':=s.toks) (λb o r e=>(sb.2 b r).trans e) f0 f1 f3 f4 f5;obtain⟨o,e,c,d⟩:=id w;exact⟨u,rfl,BP (d:={s with heap:=B}) e c d (by decide) ⟨x,H,I1,ru,⟨rfl,λys hy=>by rw[f.list_inj hy y];exact hx⟩,w,λb r=>(A b r).1⟩⟩
 done:=by intro X hP hw hK hc i f' s σ H E f A st hg;subst hP hw hK;obtain⟨xs,y,hx⟩:=hg;obtain⟨a',P,p,hz⟩:=f.list y;obtain⟨f0,f1,I,f3,f4,f5⟩:=A q (by simp);have hl:=P.length;exact wpAny_pyNext_list_end (f.ok.hd hc) st p.isList (by simp;omega) λB eb=>⟨rfl,f.turned (t':=s.toks) (λb o r e=>eb b o r e) f0 f1 f3 f4 f5⟩
 self:=λ_ _ _ _ _ st h=>wpAny_pyIter_listiter st h
def oa(a q:O):xR n j v g (Itt v a) [q] q (λi h=>h.IsTupleIter q a i)where
 mem:=by simp
 obj:=λi h st b r=>by
  have e:b=q:=by simpa using r
  subst e;obtain⟨o,e,c,d⟩:=st;exact⟨o,e,λm z=>by rw[d]at z;cases z⟩
 keep:=λi h P st k=>st.at λo e=>k q (by simp) o e;item:=by intro X hP hw hK hc i f' s σ H E f B st hg;subst hP hw hK;obtain⟨xs,x,A,hx⟩:=hg;obtain⟨w,rv,p,hz⟩:=f.tuple A;obtain⟨u,hu,ru⟩:=rv.get hx;obtain⟨f0,f1,I,f3,f4,f5⟩:=B q (by simp);refine wpAny_pyNext_tuple_item st (show s.heap.IsTuple a w.toArray from p) (x:=u) (by simpa using hu) λP y sb=>?_;have I1:Ê X f' σ H {s with heap:=P}:=f.turned (t':=s.toks) (λb o r e=>(sb.2 b r).trans e) f0 f1 f3 f4 f5;obtain⟨o,e,c,d⟩:=id y;exact⟨u,rfl,BP (d:={s with heap:=P}) e c d (by decide) ⟨x,H,I1,ru,⟨rfl,λys hy=>by rw[f.tuple_inj hy A];exact hx⟩,y,λb r=>(B b r).1⟩⟩
 done:=by intro X hP hw hK hc i f' s σ H E f B st hg;subst hP hw hK;obtain⟨xs,A,hx⟩:=hg;obtain⟨w,rv,p,hz⟩:=f.tuple A;obtain⟨f0,f1,I,f3,f4,f5⟩:=B q (by simp);have hl:=rv.length;exact wpAny_pyNext_tuple_end (f.ok.hd hc) st (show s.heap.IsTuple a w.toArray from p) (by simp;omega) λP eb=>⟨rfl,f.turned (t':=s.toks) (λb o r e=>eb b o r e) f0 f1 f3 f4 f5⟩
 self:=λ_ _ _ _ _ st h=>wpAny_pyIter_tupleiter st h
def wC(f:O)(q:Int)(c:Nat):xR n j v g (X' q c) [f] f (λi h=>IsRangeIter h f (q+(i:Nat)*1) ((c:Int)-(i:Nat)) 1)where
 mem:=by simp
 obj:=λi h st b m=>by
  have e:b=f:=by simpa using m
  subst e;exact⟨_,st,λd z=>by have z':Ut _=Data.cell d:=z;cases z'⟩
 keep:=λi h u st k=>k f (by simp) _ st;item:=by intro X B w P A i f' s σ H E a r st y;subst B w P;obtain⟨f0,f1,I,f3,f4,f5⟩:=r f (by simp);have W:=Walks.range (prog:=X.prog) (w:=X.w) (a.ok.hd A) f q 1 c;refine W.item i s _ _ y st λd u tk hv p kk=>?_;obtain⟨t,rfl⟩:=hv;have I1:Ê X f' σ H {s with heap:=u,toks:=tk}:=a.turned (λb o m e=>kk b o (by simpa using m) e) f0 f1 f3 f4 f5;refine⟨_,rfl,BP (d:={s with heap:=u,toks:=tk}) (n:="range_iterator") p rfl rfl (by decide) ⟨.int (q+i),H,I1,⟨t,?_⟩,⟨rfl,rfl⟩,p,λb m=>(r b m).1⟩⟩;rw[Int.mul_one]
 done:=by intro X B w P A i f' s σ H E a r st y;subst B w P;obtain⟨f0,f1,I,f3,f4,f5⟩:=r f (by simp);exact wpAny_pyNext_range_end (a.ok.hd A) st (by have:c<=i:=y;omega) λu eb=>⟨rfl,a.turned (t':=s.toks) (λb o m e=>eb b o m e) f0 f1 f3 f4 f5⟩
 self:=λ_ _ _ _ _ st h=>wpAny_pyIter_rangeiter st h
def SF(K:d_)(e:TE):TI:=λc H R=>e c H λx b=>∃a,x=.ref a/\(∃d,ð K b a d)/\R (Itt K a) b
def Ko(r:PE a w Φ):PI a g w (SF a.K Φ):=by
 intro y s j H R I h;refine á (r y s j H _ I h) λv d⟨x,z,f,k,m⟩=>?_;obtain⟨c,e,⟨A,n⟩,q⟩:=m;subst e;cases k;obtain⟨i,B,p,E⟩:=f.tuple n;refine WS (show d.heap.IsTuple c i.toArray from p) ?_;refine⟨d.heap.objs.size,[d.heap.objs.size],_,_,z,rfl,f.kept (t':=d.toks) λb o e=>i_ _ e,oa c _,⟨_,m_ _ rfl,rfl,rfl⟩,λb u=>?_,q⟩;have e:b=d.heap.objs.size:=by simpa using u
 subst e;exact f.fpOk (o_ _) (f.hok.fresh (o_ _))
variable{p Ε:Int}
def uW{h:It->Hp->Prop}{t u v:Tok}(I:Ê a δ Τ f d)(r:-(2^62)<=p)(n:p<2^62)(m:-(2^62)<=Ε)(k:Ε<2^62)(q:h (X' p (Ε-p).toNat) f):q_ (w_ a.prog a.w) a.A (ž (.ref d.heap.objs.size)) (PIE a δ Τ g h) θ {d with heap:=d.heap.push {cls:=.type "range",data:=.fields #[.int p t,.int Ε u,.int 1 v]},toks:=b}:=by
 refine wpAny_pyIter_range (IsRange.new ..) (small_one r n m k) ?_;have i:Ê a δ Τ f {d with heap:=d.heap.push {cls:=.type "range",data:=.fields #[.int p t,.int Ε u,.int 1 v]},toks:=b}:=I.kept λc o e=>i_ _ e;refine⟨(d.heap.push {cls:=.type "range",data:=.fields #[.int p t,.int Ε u,.int 1 v]}).objs.size,[(d.heap.push {cls:=.type "range",data:=.fields #[.int p t,.int Ε u,.int 1 v]}).objs.size],_,_,f,rfl,i.kept (t':=b) λc o e=>i_ _ e,wC _ p (Ε-p).toNat,?_,λc j=>?_,q⟩
 · have w:p+((0:Nat):Int)*1=p:=by simp
   have s:(((Ε-p).toNat:Nat):Int)-((0:Nat):Int)=Builtin.Range.rangeSize p Ε 1:=by rw[rangeSize_one];split<;>omega
   show IsRangeIter _ _ (p+((0:Nat):Int)*1) ((((Ε-p).toNat:Nat):Int)-((0:Nat):Int)) 1;rw[w,s];exact m_ _ rfl
 · have e:c=(d.heap.push {cls:=.type "range",data:=.fields #[.int p t,.int Ε u,.int 1 v]}).objs.size:=by simpa using j
   subst e;exact i.fpOk (o_ _) (i.hok.fresh (o_ _))
def Pe(c:TA):TI:=λa H R=>c a H λb d=>∃j:Int,b=[.int j]/\-(2^62)<=j/\j<2^62/\R (X' 0 j.toNat) d
def Pf(c:TA):TI:=λa H R=>c a H λb d=>∃i j:Int,b=[.int i,.int j]/\(-(2^62)<=i/\i<2^62/\-(2^62)<=j/\j<2^62)/\R (X' i (j-i).toNat) d
def qJ{c:TA}(p:Gl a "range")(o:a.mg "range"=U)(u:PA a [w] c)(n:k_ [w] a.env=[(D,eval w a.env)]:=by rfl):PI a g (.Call (.Name "range" k) [w] [] z) (Pe c):=by intro v s d H R I h;refine Call_ (gF I p o boot_range (UM (á (u z v s d H _ I h) λB E⟨A,P,y,i,b⟩=>?_) n rfl));obtain⟨j,e,b,m,q⟩:=b;subst e;cases i with|cons r f=>cases f;obtain⟨t,rfl⟩:=r;exact call_range_1 (uW y (by omega) (by omega) b m (by simpa using q))
def xT{b:u_}{m:TA}(E:Gl a "range")(B:a.mg "range"=U)(P:PA a [w,b] m)(A:k_ [w,b] a.env=[(D,eval w a.env),(D,eval b a.env)]:=by rfl)(c:k_ [b] a.env=[(D,eval b a.env)]:=by rfl):PI a g (.Call (.Name "range" k) [w,b] [] z) (Pf m):=by intro f' s n H R I h;refine Call_ (gF I E B boot_range (UM (á (P z f' s n H _ I h) λus s1⟨vs,H1,I1,o,f⟩=>?_) (by rw[A,c]) (by rw[c];rfl)));obtain⟨i,j,e,⟨f,y,v,u⟩,q⟩:=f;subst e;cases o with|cons r d=>cases d with|cons p d=>cases d;obtain⟨t,rfl⟩:=r;obtain⟨t',rfl⟩:=p;exact call_range_2 (uW I1 f y v u q)
def SG(h:TI)(g:TG)(j:TS):TS:=λa b H=>h b H λJ n=>∃W:Nat->Nat->St->Hp->Prop,(∃m,W 0 m b n)/\∀i m b H,W i m b H->(J.stop i H/\a.nx b H)\/(J.go i H/\∃N:St->Hp->Prop,(∀d c,N d c->∃f,f<m/\W (i+1) f d c)/\∀x c,J.yld i H x c->g x b c λe k=>j {a with nx:=N,ct:=N,bk:=a.nx} e k)
def fF(a:List O)(h:O_):List (O×Obj):=a.filterMap λb=>(h.get? b).map λo=>(b,o)
def dR{o:Obj}(b:e∈ω)(a:ε.get? e=Z o):(e,o)∈fF ω ε:=abm.mpr ⟨e,b,by rw[a];rfl⟩
def mj{p:O×Obj}(a:p∈fF ω ε):p.1∈ω/\ε.get? p.1=Z p.2:=by obtain⟨b,c,e⟩:=abm.mp a;cases q:ε.get? b with|none=>rw[q]at e;cases e|some o=>rw[q]at e;have d:(b,o)=p:=Uk e;subst d;exact⟨c,q⟩
def Ê.pinned{fp:List O}(c:Ê a δ Τ f d)(m:∀b∈fp,tq a δ f b)(k:∀b∈fp,∃o,d.heap.get? b=Z o/\∀v,o.data≠.cell v):Ê a (δ++fF fp d.heap) Τ f d:=c.pins_of λp j=>(Ue.mp j).elim (λz=>c.pin p (p_ _ z)) λz=>by obtain⟨h,e⟩:=mj z;obtain⟨n,f1,I,_⟩:=m p.1 h;obtain⟨o,i,g⟩:=k p.1 h;rw[e]at i;cases i;exact⟨e,n,f1,I,g⟩
def Ê.unpinned{b:List (O×Obj)}(I:Ê a (δ++b) Τ f d):Ê a δ Τ f d:=I.pins_of λp c=>I.pin p (p_ _ (TH _ c))
def qK{wi:TI}{c:TG}{tb:TS}(hp:W5 (w_ a.prog a.w) a.A a.env a.xe)(hc:a.calm=L)(hi:PI a g w wi)(hg:PG a g c)(y:ĳ a Ψ tb)(hs:∀x,TU w a.env x=pure x:=by intro _;rfl):PS a (.For g w Ψ [] k) (SG wi c tb):=by
 intro f' s σ H p j h;refine wpAny_For (á (hi f' s σ H _ j h) λv s1 h1=>á h1 λh' s2 h2=>?_) hs;obtain⟨it,fp,tn,J,H2,e,I2,T,d',I,W,⟨m0,w0⟩,turn⟩:=h2;subst e;have P:∀{H':Hp},(∀b∈fp,H' b=U)->∀b∈fp,tq a f' H' b:=λhn b y=>⟨hn b y,(I b y).2⟩;refine codeAny_forLoop_any (λn s'=>∃i E H',Ê a f' E H' s'/\tn i s'.heap/\(∀b∈fp,H' b=U)/\W i n E H') ?_ m0 ⟨0,σ,H2,I2,d',λb y=>(I b y).1,w0⟩;rintro n s3⟨i,B,H3,I3,st3,a',w3⟩;rcases turn i n B H3 w3 with⟨b',qn⟩|⟨go,N,hN,step⟩;·refine XB hp (á (T.done a rfl rfl rfl hc i f' s3 B H3 a.xe I3 (P a') st3 b') λr s4⟨hr,I4⟩=>?_);subst hr;exact aac ⟨B,H3,I4,qn⟩
 · refine XB hp (á (T.item a rfl rfl rfl hc i f' s3 B H3 a.xe I3 (P a') st3 go) λr s4⟨u,hr,h4⟩=>?_);subst hr;refine XB hp (á h4 λ_ s5⟨x,H5,I5,r5,y5,st5,e'⟩=>?_);have g':=I5.pinned (P e') (T.obj _ _ st5);refine XB hp (á (hg _ s5 B H5 x u _ g' r5 (step x H5 y5)) λ_ s6⟨c',H6,I6,q6⟩=>?_);refine XB hp (á (y _ s6 c' H6 _ I6 q6) λf s7 q7=>?_);have T':∀{q:St}{A:Hp},Ê a (f'++fF fp s5.heap) q A s7->N q A->∃m,m<n/\∃i E H',Ê a f' E H' s7/\tn i s7.heap/\(∀b∈fp,H' b=U)/\W i m E H':=λ{q A}z n7=>by obtain⟨m',hm,w7⟩:=hN q A n7;refine⟨m',hm,i+1,q,A,z.unpinned,T.keep _ _ _ st5 λb y o e=>(z.pin (b,o) (p_ _ (p_ _ (dR y e)))).1,λb y=>?_,w7⟩;obtain⟨o,e,d⟩:=T.obj _ _ st5 b y;exact(z.pin (b,o) (p_ _ (p_ _ (dR y e)))).2.1
   cases f with|next=>obtain⟨q,A,z,n7⟩:=q7;exact T' z n7|cont=>obtain⟨q,A,z,n7⟩:=q7;exact T' z n7|brk=>obtain⟨q,A,z,q7⟩:=q7;exact⟨q,A,z.unpinned,q7⟩|ret v=>obtain⟨x7,q,A,z,r7,q7⟩:=q7;exact⟨x7,q,A,z.unpinned,r7,q7⟩
abbrev R2:=V->V->Hp->VK->Prop
def û(X:C)(f:R->R->Sem R)(r:R2):Prop:=∀(b:List (O×Obj))(s:ge)(a:St)(H:Hp)(x y:V)(v u:R)(Q:VK),Ê X b a H s->Ô x v->Ô y u->r x y H Q->q_ (w_ X.prog X.w) X.A (f v u) (EP X b a Q) X.xe s
def UnR(X:C)(f:R->Sem R)(r:V->Hp->VK->Prop):Prop:=∀(b:List (O×Obj))(s:ge)(a:St)(H:Hp)(x:V)(v:R)(Q:VK),Ê X b a H s->Ô x v->r x H Q->q_ (w_ X.prog X.w) X.A (f v) (EP X b a Q) X.xe s
def õ(X:C)(f:R)(r:List V->Hp->VK->Prop):Prop:=∀(d:List (O×Obj))(s:ge)(a:St)(H:Hp)(b:List V)(c:List R)(Q:VK),Ê X d a H s->Ë b c->r b H Q->q_ (w_ X.prog X.w) X.A (call f c) (EP X d a Q) X.xe s
def ż(r:R2)(c b:TE):TE:=λa H Q=>c a H λx e=>b a e λy d=>r x y d Q
def tUn(r:V->Hp->VK->Prop)(b:TE):TE:=λa H Q=>b a H λx c=>r x c Q
def rI(C:Int->Int->Prop)(g:Int->Int->V):R2:=λx y H Q=>∃i j,x=.int i/\y=.int j/\C i j/\Q (g i j) H
def ŕ(g:Int->Int->V):R2:=λx y H Q=>∃i j,x=.int i/\y=.int j/\Q (g i j) H
def rU(g:Int->V):V->Hp->VK->Prop:=λx H Q=>∃i,x=.int i/\Q (g i) H
def Pg{n:TE}(E:PE a g Φ)(B:PE a w n){k:List (O×Obj)}{s:ge}{c:St}{H:Hp}{b:V->V->Hp->Prop}(I:Ê a k c H s)(h:Φ c H λx m=>n c m λy d=>b x y d){Q:R->ge->Prop}{f:R->R->Sem R}(A:∀v u j x y d,Ê a k c d j->Ô x v->Ô y u->b x y d->q_ (w_ a.prog a.w) a.A (f v u) Q a.xe j):q_ (w_ a.prog a.w) a.A (eval g a.env) (λv i=>q_ (w_ a.prog a.w) a.A (eval w a.env) (λu e=>q_ (w_ a.prog a.w) a.A (f v u) Q a.xe e) a.xe i) a.xe s:=by refine á (E k s c H _ I h) λv o⟨x,m,I1,q,z⟩=>?_;refine á (B k o c m _ I1 z) λu j⟨y,d,P,p,r⟩=>?_;exact A v u j x y d P q p r
def Ph{b:TE}{c:Operator}{r:R2}(j:û a (Wn c) r)(n:PE a g Φ)(m:PE a w b):PE a (.BinOp g c w k) (ż r Φ b):=by intro o s d H Q I h;exact wpAny_BinOp (Pg n m I h λv u e x y z p i f q=>j o e d z x y v u Q p i f q)
def Pi{c:UnaryOp}{r:V->Hp->VK->Prop}(j:UnR a (unaryOp c) r)(m:PE a g Φ):PE a (.UnaryOp c g k) (tUn r Φ):=by intro d s b H Q I h;exact UnaryOp_ (á (m d s b H _ I h) λv e⟨x,o,n,f,i⟩=>j d e b o x v Q n f i)
def opI{f:R->R->Sem R}{b:Int->Int->Prop}{g:Int->Int->Int}(c:∀(i j:Int)(t u:Tok)(s:ge)(Q:R->ge->Prop)(E:R->ge->Prop),b i j->Q (.int (g i j) s.toks) {s with toks:=s.toks+1}->q_ (w_ a.prog a.w) a.A (f (.int i t) (.int j u)) Q E s):û a f (rI b λi j=>.int (g i j)):=by intro o s n H x y v u Q I k e h;obtain⟨i,j,rfl,rfl,m,q⟩:=h;obtain⟨t,rfl⟩:=k;obtain⟨d,rfl⟩:=e;exact c i j t d s _ _ m ⟨.int (g i j),H,I.tok _,⟨_,rfl⟩,q⟩
def RC{f:R->R->Sem R}{g:Int->Int->Int}(b:∀(i j:Int)(t u:Tok)(s:ge)(Q:R->ge->Prop)(E:R->ge->Prop),Q (.int (g i j) s.toks) {s with toks:=s.toks+1}->q_ (w_ a.prog a.w) a.A (f (.int i t) (.int j u)) Q E s):û a f (ŕ λi j=>.int (g i j)):=by intro m s k H x y v u Q I e d h;obtain⟨i,j,rfl,rfl,q⟩:=h;obtain⟨t,rfl⟩:=e;obtain⟨c,rfl⟩:=d;exact b i j t c s _ _ ⟨.int (g i j),H,I.tok _,⟨_,rfl⟩,q⟩
def Pj{f:R->R->Sem R}{g:Int->Int->Bool}(b:∀(i j:Int)(t u:Tok)(s:ge)(Q:R->ge->Prop)(E:R->ge->Prop),Q (.bool (g i j)) s->q_ (w_ a.prog a.w) a.A (f (.int i t) (.int j u)) Q E s):û a f (ŕ λi j=>.bl (g i j)):=by intro m s k H x y v u Q I e d h;obtain⟨i,j,rfl,rfl,q⟩:=h;obtain⟨t,rfl⟩:=e;obtain⟨c,rfl⟩:=d;exact b i j t c s _ _ ⟨.bl (g i j),H,I,rfl,q⟩
def RD(i j:Int):Prop:=0<j/\j<1073741824
def ũ(i j:Int):Prop:=(-(2^64)<i/\i<2^64)\/(-(2^64)<j/\j<2^64)
def ũ.ok(h:ũ p Ε):IntMulOk p Ε:=by
 rcases h with⟨b,a⟩|⟨b,a⟩;·exact .of_left (intBits_le_64 b a)
 ·exact .of_right (intBits_le_64 b a)
def op_add:û a (Wn .Add) (ŕ λi j=>.int (i+j)):=RC λ_ _ _ _ _ _ _ q=>add_int q
def Kp:û a (Wn .Sub) (ŕ λi j=>.int (i-j)):=RC λ_ _ _ _ _ _ _ q=>sub_int q
def Kq:û a (Wn .Mult) (rI ũ λi j=>.int (i*j)):=opI λ_ _ _ _ _ _ _ b q=>mul_int q b.ok
def F8:û a (Wn .FloorDiv) (rI RD λi j=>.int (i/j)):=opI λi j _ _ _ _ _ b q=>by have d:(0:Int)<j:=b.1;have c:j<1073741824:=b.2;exact floordiv_int (by omega) (by rw[Int.fdiv_eq_ediv_of_nonneg i (by omega)];exact q) (.inl (PyProof.noPylong_small (by omega)))
def Kr:û a (Wn .Mod) (rI (λ_ j=>0<j) λi j=>.int (i%j)):=opI λi j _ _ _ _ _ b q=>by have c:(0:Int)<j:=b;exact mod_int' (by omega) (by rw[Int.fmod_eq_emod_of_nonneg i (by omega)];exact q)
def unI{f:R->Sem R}{g:Int->Int}(b:∀(i:Int)(t:Tok)(s:ge)(Q:R->ge->Prop)(E:R->ge->Prop),Q (.int (g i) s.toks) {s with toks:=s.toks+1}->q_ (w_ a.prog a.w) a.A (f (.int i t)) Q E s):UnR a f (rU λi=>.int (g i)):=by intro e s d H x v Q I c h;obtain⟨i,rfl,q⟩:=h;obtain⟨t,rfl⟩:=c;exact b i t s _ _ ⟨.int (g i),H,I.tok _,⟨_,rfl⟩,q⟩
def Ks:UnR a (unaryOp .USub) (rU λi=>.int (-i)):=unI λ_ _ _ _ _ q=>neg_int q
def Pk:V->V->Bool|.non,.non=>L|.non,.int _=>L|.int _,.non=>L|.non,.bl _=>L|.bl _,.non=>L|.non,.str _=>L|.str _,.non=>L|.int _,.int _=>L|.bl _,.bl _=>L|.str _,.str _=>L|.byt _,.byt _=>L|.int _,.str _=>L|.str _,.int _=>L|.bl _,.str _=>L|.str _,.bl _=>L|_,_=>D
def rEq:R2:=λx y H Q=>Pk x y=L/\Q (.bl (uk (x=y))) H
def rNe:R2:=λx y H Q=>Pk x y=L/\Q (.bl (!uk (x=y))) H
def tG:uk (V.int p=V.int Ε)=(p==Ε):=by rw[U4];simp
variable{H À:Bool}
def xU:uk (V.bl H=V.bl À)=(H==À):=by rw[U4];simp
variable{m:Str}
def tH:uk (V.str c=V.str m)=(c==m):=by rw[U4];simp
def xV{i j:Array UInt8}:uk (V.byt i=V.byt j)=(i.toList==j.toList):=by rw[U4];cases i;cases j;simp
variable{Æ:VK}
def bp(I:Ê a δ Τ f d)(q:Æ (.bl H) f)(e:H=À):EP a δ Τ Æ (.bool À) d:=by subst e;exact⟨.bl H,f,I,rfl,q⟩
def op_eq:û a (TZ .Eq) rEq:=by intro g s f H x y v u Q I e b h;obtain⟨d,q⟩:=h;cases x with
 |non=>cases e;cases y with|non=>cases b;exact PySem.EqNone.eq_none_none (bp I q (by simp))|bl j=>cases b;exact PySem.EqNone.eq_none_bool (bp I q (by simp))|int j=>obtain⟨c,rfl⟩:=b;exact PySem.EqNone.eq_none_int (bp I q (by simp))|str j=>obtain⟨c,rfl⟩:=b;exact PySem.EqNone.eq_none_str (bp I q (by simp))|_=>exact absurd (show D=L from d) D_
 |bl i=>cases e;cases y with|non=>cases b;exact PySem.EqNone.eq_bool_none (bp I q (by simp))|bl j=>cases b;exact eq_bool (bp I q xU)|str j=>obtain⟨c,rfl⟩:=b;exact PySem.EqMixed.eq_bool_str (bp I q (by simp))|_=>exact absurd (show D=L from d) D_
 |int i=>obtain⟨t,rfl⟩:=e;cases y with|non=>cases b;exact PySem.EqNone.eq_int_none (bp I q (by simp))|int j=>obtain⟨c,rfl⟩:=b;exact eq_int (bp I q tG)|str j=>obtain⟨c,rfl⟩:=b;exact PySem.EqMixed.eq_int_str (bp I q (by simp))|_=>exact absurd (show D=L from d) D_
 |str i=>obtain⟨t,rfl⟩:=e;cases y with|non=>cases b;exact PySem.EqNone.eq_str_none (bp I q (by simp))|bl j=>cases b;exact PySem.EqMixed.eq_str_bool (bp I q (by simp))|int j=>obtain⟨c,rfl⟩:=b;exact PySem.EqMixed.eq_str_int (bp I q (by simp))|str j=>obtain⟨c,rfl⟩:=b;exact eq_str (bp I q tH)|_=>exact absurd (show D=L from d) D_
 |byt i=>obtain⟨t,rfl⟩:=e;cases y with|byt j=>obtain⟨c,rfl⟩:=b;exact PySem.W.eq_bytes (bp I q xV)|_=>exact absurd (show D=L from d) D_
 |_=>cases y<;>exact absurd (show D=L from d) D_
def op_ne:û a (TZ .NotEq) rNe:=by intro g s f H x y v u Q I e b h;obtain⟨d,q⟩:=h;cases x with
 |non=>cases e;cases y with|non=>cases b;exact PySem.EqNone.ne_none_none (bp I q (by simp))|bl j=>cases b;exact PySem.EqNone.ne_none_bool (bp I q (by simp))|int j=>obtain⟨c,rfl⟩:=b;exact PySem.EqNone.ne_none_int (bp I q (by simp))|str j=>obtain⟨c,rfl⟩:=b;exact PySem.EqNone.ne_none_str (bp I q (by simp))|_=>exact absurd (show D=L from d) D_
 |bl i=>cases e;cases y with|non=>cases b;exact PySem.EqNone.ne_bool_none (bp I q (by simp))|bl j=>cases b;exact ne_bool (bp I q (congrArg not xU))|str j=>obtain⟨c,rfl⟩:=b;exact PySem.EqMixed.ne_bool_str (bp I q (by simp))|_=>exact absurd (show D=L from d) D_
 |int i=>obtain⟨t,rfl⟩:=e;cases y with|non=>cases b;exact PySem.EqNone.ne_int_none (bp I q (by simp))|int j=>obtain⟨c,rfl⟩:=b;exact ne_int (bp I q (congrArg not tG))|str j=>obtain⟨c,rfl⟩:=b;exact PySem.EqMixed.ne_int_str (bp I q (by simp))|_=>exact absurd (show D=L from d) D_
 |str i=>obtain⟨t,rfl⟩:=e;cases y with|non=>cases b;exact PySem.EqNone.ne_str_none (bp I q (by simp))|bl j=>cases b;exact PySem.EqMixed.ne_str_bool (bp I q (by simp))|int j=>obtain⟨c,rfl⟩:=b;exact PySem.EqMixed.ne_str_int (bp I q (by simp))|str j=>obtain⟨c,rfl⟩:=b;exact ne_str (bp I q (congrArg not tH))|_=>exact absurd (show D=L from d) D_
 |byt i=>obtain⟨t,rfl⟩:=e;cases y with|byt j=>obtain⟨c,rfl⟩:=b;exact PySem.W.ne_bytes (bp I q (congrArg not xV))|_=>exact absurd (show D=L from d) D_
 |_=>cases y<;>exact absurd (show D=L from d) D_
def op_lt:û a (TZ .Lt) (ŕ λi j=>.bl (uk (i<j))):=Pj λ_ _ _ _ _ _ _ q=>lt_int q
def op_le:û a (TZ .LtE) (ŕ λi j=>.bl (uk (i<=j))):=Pj λ_ _ _ _ _ _ _ q=>le_int q
def Kt:û a (TZ .Gt) (ŕ λi j=>.bl (uk (j<i))):=Pj λ_ _ _ _ _ _ _ q=>gt_int q
def xW:û a (TZ .Lt) (λx y H Q=>∃i j,x=.str i/\y=.str j/\Q (.bl (uk (i.cps.toList<j.cps.toList))) H):=by intro f s d H x y v u Q I c b h;obtain⟨i,j,rfl,rfl,q⟩:=h;obtain⟨t,rfl⟩:=c;obtain⟨e,rfl⟩:=b;exact lt_str (bp I q rfl)
def op_in_str:û a (TZ .In) (λx y H Q=>∃i j,x=.str i/\y=.str j/\Q (.bl (!(Um j i 0 j.length 1).isEmpty)) H):=by intro f s d H x y v u Q I c b h;obtain⟨i,j,rfl,rfl,q⟩:=h;obtain⟨t,rfl⟩:=c;obtain⟨e,rfl⟩:=b;exact in_str (bp I q rfl)
def Ep:û a (TZ .Is) (λx y H Q=>y=.non/\Q (.bl (uk (x=.non))) H):=by intro e s d H x y v u Q I b c h;obtain⟨rfl,q⟩:=h;cases c;refine is_none_gen (bp I q ?_);cases x<;>first|(cases b;rfl)|(obtain⟨t,rfl⟩:=b;rfl)
def xX:û a (TZ .IsNot) (λx y H Q=>y=.non/\Q (.bl (!uk (x=.non))) H):=by intro e s d H x y v u Q I b c h;obtain⟨rfl,q⟩:=h;cases c;refine isnot_none_gen (bp I q ?_);cases x<;>first|(cases b;rfl)|(obtain⟨t,rfl⟩:=b;rfl)
def û.or{f:R->R->Sem R}{r e:R2}(h:û a f r)(i:û a f e):û a f (λx y H Q=>r x y H Q\/e x y H Q):=by
 intro g s b H x y v u Q I d c q;rcases q with q|q;·exact h g s b H x y v u Q I d c q
 ·exact i g s b H x y v u Q I d c q
def RE(b:u_){a:ź}(h:a≠.In:=by decide)(c:a≠.NotIn:=by decide):Q_ a b=D:=by
 have e:(a==CmpOp.In)=D:=by cases a<;>first|rfl|exact absurd rfl h
 have d:(a==CmpOp.NotIn)=D:=by cases a<;>first|rfl|exact absurd rfl c
 cases b<;>simp[Q_,e,d]
def xY{c:TE}{b:ź}{r:R2}(j:û a (TZ b) r)(o:PE a g Φ)(n:PE a w c)(m:Q_ b w=D):PE a (.Compare g [b] [w] k) (ż r Φ c):=by intro p s d H Q I h;exact wpAny_Compare1 (Pg o n I h λv u e x y A z i f q=>j p e d A x y v u Q z i f q) m
def Pl(t:TE):TT:=λa H Q=>t a H λx b=>∃k,x=.bl k/\Q k b
def tJ{j:TE}{f:ź}{r:R2}(P:û a (TZ f) r)(ha:PE a g Φ)(hb:PE a w j)(hm:Q_ f w=D):PT a (.Compare g [f] [w] k) (Pl (ż r Φ j)):=by intro i s d H Q I h;refine wpAny_isTrue_Compare1 (á (ha i s d H _ I h) λv n⟨x,H1,I1,q,E⟩=>á (hb i n d H1 _ I1 E) λu m⟨y,H2,I2,p,B⟩=>á (P i m d H2 x y v u _ I2 q p B) λc s3⟨z,H3,I3,o,b,e,A⟩=>?_) hm;subst e;cases o;exact Vx ⟨H3,I3,A⟩
def qL:(sizeLine:Nat)<2^63:=by rw[Xd];decide
def op_add_str:û a (Wn .Add) (λx y H Q=>∃i j,x=.str i/\y=.str j/\i.length+j.length<=sizeLine/\Q (.str (i++j)) H):=by intro k s f H x y v u Q I d c h;obtain⟨i,j,rfl,rfl,e,q⟩:=h;obtain⟨t,rfl⟩:=d;obtain⟨b,rfl⟩:=c;exact add_str (λb g=>⟨.str (i++j),H,I.tok _,⟨_,rfl⟩,q⟩) e
def fq(r:Ë [υ] E):∃u,E=[u]/\Ô υ u:=by cases r with|cons b a=>cases a;exact⟨_,rfl,b⟩
def F9{y:V}(r:Ë [υ,y] E):∃u a,E=[u,a]/\Ô υ u/\Ô y a:=by cases r with|cons e d=>cases d with|cons c b=>cases b;exact⟨_,_,rfl,e,c⟩
def xZ(d:a.calm=L):õ a (.builtin "max") (λc H Q=>∃i j,c=[.int i,.int j]/\Q (.int (if j>i then j else i)) H):=by
 intro p s e H c g Q I r h;obtain⟨i,j,rfl,q⟩:=h;obtain⟨u,f,rfl,⟨t,rfl⟩,⟨n,rfl⟩⟩:=F9 r;refine max_two_ints (I.ok.hd d) λo m k=>⟨_,H,I.kept k,?_,q⟩;by_cases b:j>i;·rw[if_pos b,if_pos b];exact⟨_,rfl⟩
 ·rw[if_neg b,if_neg b];exact⟨_,rfl⟩
def x3(d:a.calm=L):õ a (.builtin "min") (λc H Q=>∃i j,c=[.int i,.int j]/\Q (.int (if j<i then j else i)) H):=by
 intro p s e H c g Q I r h;obtain⟨i,j,rfl,q⟩:=h;obtain⟨u,f,rfl,⟨t,rfl⟩,⟨n,rfl⟩⟩:=F9 r;refine min_two_ints (I.ok.hd d) λo m k=>⟨_,H,I.kept k,?_,q⟩;by_cases b:j<i;·rw[if_pos b,if_pos b];exact⟨_,rfl⟩
 ·rw[if_neg b,if_neg b];exact⟨_,rfl⟩
def SH(K:d_)(x:V)(H:Hp)(n:Nat):Prop:=match x with|.str y=>y.length<=sizeLine/\n=y.length|.byt y=>y.size<=sizeLine/\n=y.size|.ref p=>(∃a,ă K H p a/\n=a.length)\/∃a,ð K H p a/\n=a.length|_=>False
def BQ:õ a (.builtin "len") (λb H Q=>∃x n,b=[x]/\SH a.K x H n/\Q (.int n) H):=by intro A s o H b v Q I r h;obtain⟨x,n,rfl,e,q⟩:=h;obtain⟨u,rfl,f⟩:=fq r;have z:=qL;have w:sizeLine=16777216:=Xd;cases x with
 |str y=>obtain⟨t,rfl⟩:=f;obtain⟨m,d⟩:y.length<=sizeLine/\n=y.length:=e;subst d;exact len_str (by omega) ⟨.int _,H,I.tok _,⟨_,rfl⟩,q⟩|byt y=>obtain⟨t,rfl⟩:=f;obtain⟨m,d⟩:y.size<=sizeLine/\n=y.size:=e;subst d;exact PySem.W.len_bytes (by omega) ⟨.int _,H,I.tok _,⟨_,rfl⟩,q⟩|ref p=>
 cases f;have d:(∃b,ă a.K H p b/\n=b.length)\/∃b,ð a.K H p b/\n=b.length:=e;rcases d with⟨b,i,d⟩|⟨b,i,d⟩;·subst d;obtain⟨j,g,pl,k⟩:=I.list i;have c:=g.length;exact Calls.call_len_list pl.isList (by simp only[I_];omega) ⟨.int b.length,H,I.tok _,⟨_,by simp only[I_];rw[c]⟩,q⟩
 ·subst d;obtain⟨j,g,pl,k⟩:=I.tuple i;have c:=g.length;exact len_tuple pl (by simp only[I_];omega) ⟨.int b.length,H,I.tok _,⟨_,by simp only[I_];rw[c]⟩,q⟩|_=>exact(show False from e).elim
structure Ł(h:O_)(x dx C:O)(mA:Str->Option R):Prop where
 obj:h.get? x=Z (VV C dx)ns:h.Ns1 dx mA
 ne:dx≠x
variable{Χ:Str->Option R}
def ya(n:ε.Ns1 e Χ):∃f,ε.get? e=Z f/\∀c,YZ c f=Z (Χ c):=by
 obtain⟨o,g,r,i,m,k,_,j⟩:=n;refine⟨o,i,λc=>?_⟩;have b:=j c;unfold nsFind findBy at b;rw[<-Array.find?_toList]at b;unfold YZ;rw[m];dsimp only;split;·rename_i y q;rw[q]at b;exact congrArg Z b
 · rename_i q;rw[q]at b;have a:g.toList.any (·.refKey)=D:=by rw[abP];intro y h;obtain⟨z,t,d⟩:=k y (Wu.mp h);simp[DictEntry.refKey,d]
   have p:¬g.toList.any (·.refKey)=L:=by rw[a];exact D_
   rw[if_neg p];exact congrArg Z b
def Ł.look{C:O}(I:Ł ε e y C Χ):∃b,PySem.W.InstAt ε e (VV C y) C (Z b)/\∀a,YZ a b=Z (Χ a):=let⟨b,c,d⟩:=ya I.ns;⟨b,⟨I.obj,rfl,rfl,c⟩,d⟩
def Ga{C:O}(X:v.In d.heap)(I:Ł d.heap e y C Χ)(i:Xl v C c=L)(g:X5 v C=L)(k:UZ v (.ref C) c=Z U)(b:Χ c=Z ψ)(a:abR ψ=L)(h:Ω ψ {d with toks:=d.toks+1}):q_ (w_ n j) s (getAttr (.ref e) c H) Ω θ d:=by obtain⟨m,J,f⟩:=I.look;exact PySem.W.get_value X J (YN i).1 (PySem.W.findObj_own g k rfl (by rw[f,b])) a h
def BR{C f:O}{b:Sem Bool}{Q:R×List R->ge->Prop}(X:v.In d.heap)(I:Ł d.heap e y C Χ)(a:Xl v C c=L)(o:UZ v (.ref C) c=Z (Z (.ref f)))(k:ZY v (.ref f)=L)(i:Χ c=U)(h:Q (.ref f,[.ref e]) d):q_ (w_ n j) s (aaW (.ref e) c b) Q θ d:=by obtain⟨g,J,m⟩:=I.look;exact PySem.W.method_fn X J (YN a).1 (YN a).2 o (beq_iff_eq.mp k) (by show(YZ c g).map (·.isSome)=Z D;rw[m,i];rfl) h
def Gb{C:O}{Q:Unit->ge->Prop}(X:v.In d.heap)(I:Ł d.heap e y C Χ)(z:UZ v (.ref C) "__setattr__"=Z (Z (.builtin "object.__setattr__")))(A:Ze v C=L)(w:aaf v C c=Z U)(B:X5 v C=L)(r:abz Χ u)(H:u.length<=sizeLine)(h:∀i,Ł i e y C (λa=>if a=c then Z ψ else Χ a)->VA y d.heap i->Q () {d with heap:=i,toks:=d.toks+2}):q_ (w_ n j) s (setAttr (.ref e) c ψ) Q θ d:=by obtain⟨od,J,hl⟩:=I.look;refine PySem.W.set_plain X J z (PySem.W.osa_open (s:={d with toks:=d.toks+1}) (r:=U) X J A w λb=>?_);obtain⟨cd,E,o⟩:=PySem.W.any_some B;have q:d.heap.get? e=Z ⟨.ref C,Z y,.plain,#[]⟩:=I.obj;refine ck (h_ (ck (ck (wpAny_loadPart q (ck (PySem.W.Looks.here (s:={d with toks:=d.toks+1}) (PySem.W.looks_clsIn X E) ?_))))));rw[o];refine h_ (a:=Z y) (ck (h_ (ck ?_)));refine wpAny_nsSet1 (s:={d with toks:=d.toks+1}) I.ns λi g f=>?_;obtain⟨oD,P,a',k,m,p⟩:=g.count (PySem.Within.cons c ψ r);refine ck (wpAny_lookBehind k (by rw[m];exact pastItsLine_dict (TX p (by rw[TW];omega))) ?_);exact h_ (h _ ⟨(f.2 _ (VB I.ne)).trans I.obj,g,I.ne⟩ f)
def BS{a:Zs->ge->Prop}{f:List (Str×R)}(X:v.In d.heap)(i:acb v e=L)(k:UZ v (.ref e) "__init__"=Z (Z (.ref y)))(m:PySem.W.typeIn v (.ref y)=Z (.type "function"))(h:WH (w_ n j) (s.under (.builtin "type.__call__" ⟨.ref e::E,f⟩)) (.call (.ref y) ⟨.ref (d.heap.objs.size+1)::E,f⟩) (PySem.W.InitBack (d.heap.objs.size+1) a) {d with heap:=(d.heap.push Vg).push (VV e d.heap.objs.size)}):WH (w_ n j) s (.call (.ref e) ⟨E,f⟩) a d:=by obtain⟨o,g,b,t,os⟩:=d;exact PySem.W.make_core (PySem.W.makes_of X i) (PySem.W.looks_findIn X k) (λc=>PySem.W.bind_fn X c m) (.inl rfl) h
def og(f:Str)(v:V):List (Str×V)->List (Str×V)|[]=>[(f,v)]|(g,x)::r=>if g=f then(g,v)::r else(g,x)::og f v r
def mo(f g:Str)(v:V):∀fs:List (Str×V),(og f v fs).lookup g=if g=f then Z v else fs.lookup g
 |[]=>by
  show XX g [(f,v)]=_;by_cases h:g=f;·have a:(g==f)=L:=beq_iff_eq.mpr h;simp only[XX,a,if_pos h]
  ·have a:(g==f)=D:=beq_eq_false_iff_ne.mpr h;simp only[XX,a,if_neg h]|(k,x)::r=>by
  have c:=mo f g v r;rw[show og f v ((k,x)::r)=(if k=f then(k,v)::r else(k,x)::og f v r)from rfl];by_cases b:k=f
  · rw[if_pos b];by_cases h:g=k;·have a:(g==k)=L:=beq_iff_eq.mpr h;simp only[XX,a,if_pos (h.trans b)]
    ·have a:(g==k)=D:=beq_eq_false_iff_ne.mpr h;simp only[XX,a,if_neg (λe:g=f=>h (e.trans b.symm))]
  · rw[if_neg b];by_cases h:g=k;·have a:(g==k)=L:=beq_iff_eq.mpr h;simp only[XX,a,if_neg (λe:g=f=>b (h.symm.trans e))]
    ·have a:(g==k)=D:=beq_eq_false_iff_ne.mpr h;simp only[XX,a];exact c
def mq(f:Str)(v:V):∀fs:List (Str×V),f∈(og f v fs).map (·.1)/\∀g,g∈fs.map (·.1)->g∈(og f v fs).map (·.1)
 |[]=>⟨by simp[og],λg h=>by simp at h⟩|(k,x)::r=>by
  obtain⟨b,i2⟩:=mq f v r;rw[show og f v ((k,x)::r)=(if k=f then(k,v)::r else(k,x)::og f v r)from rfl];by_cases a:k=f;·rw[if_pos a];subst a;exact⟨by simp,λg h=>by simpa using h⟩
  · rw[if_neg a];refine⟨?_,λg h=>?_⟩;·rw[F_];exact r_ _ b
    · rw[F_]at h⊢;rcases v_.mp h with e|e;·exact v_.mpr (.inl e)
      ·exact r_ _ (i2 g e)
def mr(f:Str)(v:V):∀fs:List (Str×V),(og f v fs).length<=fs.length+1
 |[]=>by simp[og]|(k,x)::r=>by
  have b:=mr f v r;rw[show og f v ((k,x)::r)=(if k=f then(k,v)::r else(k,x)::og f v r)from rfl];by_cases a:k=f;·rw[if_pos a,TW,TW];omega
  ·rw[if_neg a,TW,TW];omega
def Ď.some_of{o:Option R}(r:Ď (Z υ) o):∃u,o=Z u/\Ô υ u:=by cases o with|none=>exact(show False from r).elim|some u=>exact⟨u,rfl,r⟩
def Ď.none_of{o:Option R}(r:Ď U o):o=U:=by cases o with|none=>rfl|some u=>exact(show False from r).elim
def yb(r:Ô υ ψ):abR ψ=L:=by cases υ with|non=>cases(show ψ=C_ from r);rfl|bl b=>cases(show ψ=H_ b from r);rfl|int i=>obtain⟨t,e⟩:=(show∃t,ψ=ZF i t from r);cases e;rfl|str x=>obtain⟨t,e⟩:=(show∃t,ψ=U5 x t from r);cases e;rfl|byt b=>obtain⟨t,e⟩:=(show∃t,ψ=Value.bytes b t from r);cases e;rfl|flt b=>obtain⟨t,e⟩:=(show∃t,ψ=ab8 b t from r);cases e;rfl|ref a=>cases(show ψ=z_ a from r);rfl|ty n=>cases(show ψ=l_ n from r);rfl
def o9{i:O}{h:List (Str×V)}(k:Č n j f ε)(c:f e=Z (.ins y i h)):∃g,Ł ε e i y g/\(∀a,Ď (h.lookup a) (g a))/\abz g (h.map (·.1))/\h.length<=1000/\f i=Z (.own e):=by obtain⟨d,z,ne,m,g,b,r,q⟩:=(show â n j f ε e (.ins y i h)from k e _ c);exact⟨g,⟨m,b,ne⟩,r,q,z,d⟩
structure ţ(K:d_)(C:O):Prop where
 pg:Xl K C Str.empty=L
 hd:X5 K C=L
 po:Ze K C=L
 sa:UZ K (.ref C) "__setattr__"=Z (Z (.builtin "object.__setattr__"))
def ţ.get(c:ţ v e)(f:Str):Xl v e f=L:=c.pg
def đ(K:d_)(C:O)(f:Str):Prop:=UZ K (.ref C) f=Z U
def đ.taker(n:đ v e c):aaf v e c=Z U:=by unfold aaf;rw[show UZ v (.ref e) c=Z U from n];rfl
structure JH(K:d_)(C:O)(m:Str)(f:O):Prop where
 at_:UZ K (.ref C) m=Z (Z (.ref f))fn:ZY K (.ref f)=L
 kp:Vl K (.ref f)=L
def wD{q:O}{m:List (Str×V)}(I:Ê a δ Τ f d)(g:f e=Z (.ins y q m))(b:ţ a.K y)(n:đ a.K y c)(l:m.lookup c=Z υ)(h:∀u j,Ê a δ Τ f j->Ô υ u->Ω u j):q_ (w_ a.prog a.w) s (getAttr (.ref e) c H) Ω θ d:=by obtain⟨o,i,r,_,_,_⟩:=o9 I.hok g;obtain⟨u,p,k⟩:=Ď.some_of (υ:=υ) (o:=o c) (by rw[<-l];exact r c);exact Ga I.kIn i (b.get c) b.hd n p (yb k) (h u _ (I.tok _) k)
def oh{q:O}{m:List (Str×V)}{g:O}{n:Sem Bool}{Q:R×List R->ge->Prop}(I:Ê a δ Τ f d)(b:f e=Z (.ins y q m))(i:ţ a.K y)(k:JH a.K y c g)(l:m.lookup c=U)(h:Q (.ref g,[.ref e]) d):q_ (w_ a.prog a.w) s (aaW (.ref e) c n) Q θ d:=by obtain⟨o,j,r,_,_,_⟩:=o9 I.hok b;have p:o c=U:=Ď.none_of (by rw[<-l];exact r c);exact BR I.kIn j (i.get c) k.at_ k.fn p h
def wE{p:O}{m:List (Str×V)}{Q:Unit->ge->Prop}(I:Ê a δ Τ f d)(k:f e=Z (.ins y p m))(i:ţ a.K y)(n:đ a.K y c)(hl:m.length<1000)(H:Ô υ ψ)(h:∀w,Ê a δ Τ (Û f e (.ins y p (og c υ m))) w->Q () w):q_ (w_ a.prog a.w) s (setAttr (.ref e) c ψ) Q θ d:=by
 obtain⟨A,j,r,v,_,B⟩:=o9 I.hok k;have P:(m.map (·.1)).length<=sizeLine:=by rw[N_,Xd];omega
 refine Gb I.kIn j i.sa i.po n.taker i.hd v P λh' u E=>h _ ?_;have hd:∃o,h'.get? p=Z o:=let⟨o,_,_,e',_⟩:=u.ns;⟨o,e'⟩;refine I.write (x:=e) (e:=p) (by rw[k];exact Wv) (.inr B) (λb q hb z=>(E.2 b hb).trans z) hd ?_;refine⟨by rw[aB j.ne];exact B,?_,j.ne,u.obj,_,u.ns,λg=>?_,λg hg=>?_⟩;·have:=mr c υ m;omega
 · show Ď ((og c υ m).lookup g) (if g=c then Z ψ else A g);rw[mo];by_cases q:g=c;·rw[if_pos q,if_pos q];exact H
   ·rw[if_neg q,if_neg q];exact r g
 · by_cases q:g=c;·rw[q];exact(mq c υ m).1
   ·refine(mq c υ m).2 g (v g λz=>hg ?_);show(if g=c then Z ψ else A g)=U;rw[if_neg q];exact z
def Ê.made(I:Ê a δ Τ f d):Ê a δ Τ (Û (Û f d.heap.objs.size (.own (d.heap.objs.size+1))) (d.heap.objs.size+1) (.ins e d.heap.objs.size [])) {d with heap:=(d.heap.push Vg).push (VV e d.heap.objs.size)}:=by
 have g:(d.heap.push Vg).get? d.heap.objs.size=Z Vg:=m_ d.heap rfl;have k:((d.heap.push Vg).push (VV e d.heap.objs.size)).get? (d.heap.objs.size+1)=Z (VV e d.heap.objs.size):=by have:=m_ (d.heap.push Vg) (o:=VV e d.heap.objs.size) rfl;rwa[L_]at this
 have j:(d.heap.push Vg).Ns d.heap.objs.size (λ_=>U):=⟨Vg,#[],_,g,rfl,(λc i=>absurd i (by simp)),λ_=>rfl⟩;have m:=I.laid (a:=d.heap.objs.size) (o:=.own (d.heap.objs.size+1)) (h':=d.heap.push Vg) (t':=d.toks) (λb u q=>i_ _ q) (o_ _) ⟨_,g⟩;refine m.laid (a:=d.heap.objs.size+1) (o:=.ins e d.heap.objs.size []) (t':=d.toks) (λb u q=>i_ _ q) (Yh (L_ _ _)) ?_;have ne:d.heap.objs.size≠d.heap.objs.size+1:=A_ (U6 _);refine⟨by rw[aB ne,au],TN _,ne,k,λ_=>U,(Heap.Ns1.of_empty j).at λo q=>i_ _ q,λ_=>Wv,λy h=>absurd rfl h⟩
def Gc{a:Env}(e:UQ g c a (eval g a)=eval g a)(h:q_ (w_ n j) s (eval g a) (λo b=>q_ (w_ n j) s (getAttr o c L) Ω θ b) θ d):q_ (w_ n j) s (eval (.Attribute g c k) a) Ω θ d:=Attribute_any_ h (by rw[arm_eval_Attribute,e])
def SI(K:d_)(d:TE)(f:Str):TE:=λc H Q=>d c H λx b=>∃a C e fs v,x=.ref a/\b a=Z (.ins C e fs)/\ţ K C/\đ K C f/\fs.lookup f=Z v/\Q v b
def SJ(K:d_)(h g:TE)(f:Str):TS:=λb c H=>g c H λy i=>h c i λx e=>∃a C d fs,x=.ref a/\e a=Z (.ins C d fs)/\ţ K C/\đ K C f/\fs.length<1000/\b.nx c (Û e a (.ins C d (og f y fs)))
def Er(m:PE a g Φ)(o:UQ g c a.env (eval g a.env)=eval g a.env):PE a (.Attribute g c k) (SI a.K Φ c):=by intro p s f H Q I h;refine Gc o (á (m p s f H _ I h) λu P⟨x,A,z,i,d,e,dx,fs,v,r,w,b,n,l,q⟩=>?_);subst r;obtain rfl:u=z_ d:=i;exact wD z w b n l λB E y j=>⟨v,A,y,j,q⟩
def Ku{j:TE}(P:PE a g Φ)(B:PE a w j)(E:UD w (Z (.Attribute g c z)) k.line a.env=pure D):PS a (.Assign [.Attribute g c z] w k) (SJ a.K Φ j c):=by intro m s i H e I h;refine plainObj_wpAny_Assign_Attribute (á (B m s i H _ I h) λu o⟨y,H1,I1,p,q⟩=>á (P m o i H1 _ I1 q) λA s2⟨x,H2,I2,r,d,f,dx,fs,ex,ea,b,n,l,v⟩=>?_) E;subst ex;obtain rfl:A=z_ d:=r;exact wE I2 ea b n l p λs3 I3=>⟨i,_,I3,v⟩
inductive uX(K:d_)(H:Hp):V->R->Prop where|non:uX K H .non (.type "NoneType")|bl(x:Bool):uX K H (.bl x) (.type "bool")|int(i:Int):uX K H (.int i) (.type "int")|str(x:Str):uX K H (.str x) (.type "str")|flt(x:UInt64):uX K H (.flt x) (.type "float")|lst{a:O}{xs:List V}(e:H a=Z (.lst xs)):uX K H (.ref a) (.type "list")|frz{a:O}{o:Obj}{xs:List V}(e:H a=Z (.frz o (.lst xs))):uX K H (.ref a) (.type "list")|tup{a:O}{xs:List V}(e:H a=Z (.tup xs)):uX K H (.ref a) (.type "tuple")|dK{a:O}{kvs:List (ï×V)}(e:H a=Z (.dK kvs)):uX K H (.ref a) (.type "dict")|dT{a:O}{kvs:List (List ï×V)}(e:H a=Z (.dT kvs)):uX K H (.ref a) (.type "dict")|ins{a C dx:O}{fs:List (Str×V)}(e:H a=Z (.ins C dx fs))(cl:ţ K C)(ha:UZ K (.ref C) "__class__"=Z (Z (.builtin "object.__class__")))(hn:PySem.W.specialIn K (.builtin "object.__class__") "__get__"=Z (Z (.builtin "getset_descriptor.__get__")))(htk:PySem.W.takesIn K (.builtin "object.__class__")=Z L)(hm:PySem.W.mroIn K C (.type "object")=Z L):uX K H (.ref a) (.ref C)
def yc{u t:R}(I:Ê a δ Τ f d)(j:Ô υ u)(E:uX a.K f υ t)(e:WL a.K t ψ=Z H)(h:∀P,Ω (.bool H) {d with toks:=P}):q_ (w_ a.prog a.w) s (call (.builtin "isinstance") [u,ψ]) Ω θ d:=by cases E with|non=>cases(show u=C_ from j);exact Vb PySem.W.kitx_none I.kIn Wv e (λz=>nomatch z) h|bl y=>cases(show u=H_ y from j);exact Vb PySem.W.kitx_bool I.kIn Wv e (λz=>nomatch z) h|int i=>obtain⟨t,q⟩:=(show∃t,u=ZF i t from j);cases q;exact Vb PySem.W.kitx_int I.kIn Wv e (λz=>nomatch z) h|str y=>obtain⟨t,q⟩:=(show∃t,u=U5 y t from j);cases q;exact Vb PySem.W.kitx_str I.kIn Wv e (λz=>nomatch z) h|flt y=>obtain⟨t,q⟩:=(show∃t,u=ab8 y t from j);cases q;exact Vb PySem.W.kitx_float I.kIn Wv e (λz=>nomatch z) h|@lst b v k=>cases(show u=z_ b from j);obtain⟨_,_,n,_,m⟩:=(show â a.prog a.w f d.heap b (.lst v)from I.hok b _ k);exact Vb abA I.kIn ⟨_,m,rfl⟩ e (λz=>nomatch z) h|@frz b ob v k=>cases(show u=z_ b from j);obtain⟨_,_,_,n,_,m⟩:=(show â a.prog a.w f d.heap b (.frz ob (.lst v))from I.hok b _ k);exact Vb abA I.kIn ⟨_,m,rfl⟩ e (λz=>nomatch z) h|@tup b v k=>cases(show u=z_ b from j);obtain⟨_,_,_,p⟩:=(show â a.prog a.w f d.heap b (.tup v)from I.hok b _ k);obtain⟨o,m,w,_⟩:=p;exact Vb PySem.W.kitx_tuple I.kIn ⟨o,m,w⟩ e (λz=>nomatch z) h|@dK b r k=>cases(show u=z_ b from j);obtain⟨_,_,vs,_,p⟩:=(show â a.prog a.w f d.heap b (.dK r)from I.hok b _ k);obtain⟨o,es,ep,m,w,_⟩:=p;exact Vb abB I.kIn ⟨o,m,w.1⟩ e (λz=>nomatch z) h|@dT b r k=>cases(show u=z_ b from j);obtain⟨_,_,v,_,o,es,ep,m,w,_⟩:=(show â a.prog a.w f d.heap b (.dT r)from I.hok b _ k);exact Vb abB I.kIn ⟨o,m,w.1⟩ e (λz=>nomatch z) h|@ins b g dx fs k B ha hn A hm=>cases(show u=z_ b from j);obtain⟨mA,c,_⟩:=o9 I.hok k;obtain⟨od,J,_⟩:=c.look;exact Vb (PySem.W.kitx_own (B.get _) B.hd ha hn A hm) I.kIn J e (λz=>nomatch z) h
structure Ú(k:Nat)(A:x_):Prop where
 hd:A.handled=U
 dp:A.depth+3*k+5<recursionLimit
 un:A.units+16*k+200<cLine
 gd:A.guards=Z []
def Ú.mono(r:Ú o s)(h:b<=o):Ú b s:=⟨r.hd,by have:=r.dp;omega,by have:=r.un;omega,r.gd⟩
def Ú.deeper(r:Ú (b+1) s)(a:Env):Ú b (s.deeper a):=⟨r.hd,by have:=r.dp;show s.depth+1+3*b+5<_;omega,by have:=r.un;show s.units+3+16*b+200<_;omega,r.gd⟩
def Ú.in1(r:Ú (b+1) s):Ú b s.in1:=⟨r.hd,by have:=r.dp;show s.depth+3*b+5<_;omega,by have:=r.un;show s.units+1+16*b+200<_;omega,r.gd⟩
def wF{a:List (Str×R)}:(s.under (.builtin "type.__call__" ⟨.ref e::E,a⟩)).depth=s.depth+1:=by first|rfl|simp[Z5,Code.weight,Code.isCreation,Code.isGuard,Code.isCaller,Code.frames,abF,guardIds]
def wG{a:List (Str×R)}:(s.under (.builtin "type.__call__" ⟨.ref e::E,a⟩)).units=s.units+1:=by first|rfl|simp[Z5,Code.cUnits,Code.frames,abF]
def Ú.make(r:Ú (b+1) s)(C:O)(a:List R)(c:List (Str×R)):Ú b (s.under (.builtin "type.__call__" ⟨.ref C::a,c⟩)):=⟨r.hd,by have:=r.dp;rw[wF];omega,by have:=r.un;rw[wG];omega,by have:=r.gd;simp[Z5,Code.guards,Code.isGuard,guardIds,pushGuards,this]⟩
def Ú.depth(r:Ú b s):s.depth<recursionLimit:=by have:=r.dp;omega
def Ú.units(r:Ú b s):s.units+64<cLine:=by have:=r.un;omega
def Ú.units0(r:Ú b s):s.units<cLine:=by have:=r.un;omega
def RF:TA:=λ_ H Q=>Q [] H
def Pm(d:TE)(c:TA):TA:=λa H Q=>d a H λx f=>c a f λb e=>Q (x::b) e
def uY:PA a [] RF:=λ_ _ _ _ H Q I h=>Wo ⟨[],H,I,.nil,h⟩
def kJ{t:TA}(o:PE a g Φ)(n:PA a A t)(m:k_ (g::A) a.env=(D,eval g a.env)::k_ A a.env:=by rfl):PA a (g::A) (Pm Φ t):=by intro pos c s b H Q I h;rw[m];show q_ _ _ (spliced ((D,eval g a.env)::TF pos (k_ A a.env))) _ _ s;refine V_ (á (o c s b H _ I h) λu e⟨x,v,q,i,k⟩=>?_);exact á (n pos c e b v _ q k) λw y⟨d,r,p,f,j⟩=>⟨x::d,r,p,.cons i f,j⟩
def SK(t:TA):TE:=λc H Q=>t c H λa b=>a.length<=sizeLine/\∀p,b p=U->Q (.ref p) (Û b p (.tup a))
def SL(t:TA):TE:=λc H Q=>t c H λa b=>a.length<=sizeLine/\∀p,b p=U->Q (.ref p) (Û b p (.lst a))
def Kw{t:TA}{j}(h:PA a A t):PE a (.Tuple A j k) (SK t):=by intro p s g H Q I n;refine wpAny_Tuple_spliced (á (h k p s g H _ I n) λm c⟨i,f,d,r,z,q⟩=>⟨by rw[<-r.length];exact z,?_⟩);have o:f c.heap.objs.size=U:=d.hok.fresh (o_ _);refine⟨.ref c.heap.objs.size,Û f c.heap.objs.size (.tup i),d.laid (t':=c.toks) (λb u e=>i_ _ e) (o_ _) ?_,rfl,q _ o⟩;exact⟨z,m,r,⟨_,m_ _ rfl,rfl,_,rfl⟩⟩
def yd{t:TA}(h:PA a A t):PE a (.List A k) (SL t):=by intro o s g H Q I m;refine wpAny_List_spliced (á (h k o s g H _ I m) λj c⟨i,f,d,r,z,q⟩=>⟨by rw[<-r.length];exact z,?_⟩);have n:f c.heap.objs.size=U:=d.hok.fresh (o_ _);refine⟨.ref c.heap.objs.size,Û f c.heap.objs.size (.lst i),d.laid (t':=c.toks) (λb u e=>i_ _ e) (o_ _) ?_,rfl,q _ n⟩;exact⟨z,j,0,r,m_ _ rfl⟩
abbrev Sp:=List V->Hp->VK->XK->Prop
abbrev Ļ:=List Env->Hp->ge->XK->R->ge->Prop
structure Ŀ(P:n_)(w:y_)(K:d_)(mg:Str->Option R)(base:O_)(A:x_)(outer:List Env)(s:ge)(H:Hp):Prop where
 frames:A.frames=Z outer
 mod:Mod K mg base
 bs:∀b o,base.get? b=Z o->s.heap.get? b=Z o/\H b=U
 bsz:base.objs.size<=s.heap.objs.size
 funs:s.heap.FunFrames base outer
 frf:∀b∈frs outer,H b=U
 hok:Č P w H s.heap
 bare:Zk s.gens
def CE(a:List Env)(P:n_)(w:y_)(H:Hp)(s:ge)(Q:VK)(u:R)(b:ge):Prop:=∃v c,b.os=s.os/\Zk b.gens/\Un (frs a) [] H c s.heap b.heap/\Č P w c b.heap/\Ô v u/\Q v c
def CR(c:Ļ)(a:List Env)(P:n_)(w:y_)(H:Hp)(s:ge)(Q:VK)(E:XK)(r:Zs)(b:ge):Prop:=match r with|.ok (.ret u)=>CE a P w H s Q u b|.ok _=>False|.error e=>c a H s E e b
structure î(P:n_)(w:y_)(K:d_)(mg:Str->Option R)(base:O_)(CX:Ļ)(k:Nat)(f:O)(fd:UP)(ps:List Str)(sp:Sp):Prop where
 len:∀vs H Q E,sp vs H Q E->vs.length=ps.length
 run:∀(A:x_)(outer:List Env)(s:ge)(H:Hp)(args:Args)(us:List R)(vs:List V)(Q:VK)(E:XK),Ú k A->Ŀ P w K mg base A outer s H->abH s fd args (ps.zip us)->Ë vs us->sp vs H Q E->WH (w_ P w) A (.call (.ref f) args) (CR CX outer P w H s Q E) s
variable{Ä:UP}
def î.mono{f:Ļ}{d:Sp}(F:î n j v Χ ε f b e Ä u d)(h:b<=o):î n j v Χ ε f o e Ä u d:=⟨F.len,λA a s H c i g Q E k=>F.run A a s H c i g Q E (k.mono h)⟩
def Ŀ.make{a:List Env}(e:Ŀ n j v Χ ε s a d f)(C:O)(b:List R)(c:List (Str×R)):Ŀ n j v Χ ε (s.under (.builtin "type.__call__" ⟨.ref C::b,c⟩)) a d f:=⟨by first|exact e.frames|(simpa[Z5,Code.envs,abF,pushEnvs]using e.frames),e.mod,e.bs,e.bsz,e.funs,e.frf,e.hok,e.bare⟩
def Ê.env0(I:Ê a δ Τ f d):Ŀ a.prog a.w a.K a.mg a.base a.A a.stack d f:=⟨I.ok.frames,I.ok.mod,I.bs,TX I.ok.bsz I.sz,I.stack,I.stkFree,I.hok,I.bare⟩
def Ê.after{i:ge}(I:Ê a δ Τ f d)(h:CE a.stack a.prog a.w f d Æ ψ i):EP a δ Τ Æ ψ i:=by obtain⟨v,n,os,e,un,k,r,q⟩:=h;obtain⟨m,g,c,t,j⟩:=i;obtain rfl:j=d.os:=os;exact⟨v,n,I.call (h':=m) (g':=g) (d':=c) (t':=t) (ch:=[]) un k e (λb z=>absurd z (by simp)),r,q⟩
def Pn(d:Sp)(a:List V)(E:XK)(t:TA):TE:=λb H Q=>t b H λc e=>d (c++a) e Q E
def Kx(C:O)(m:Str)(g:Sp)(b:List V)(E:XK)(f:TE)(t:TA):TE:=λc H Q=>f c H λx d=>∃a h fs,x=.ref a/\d a=Z (.ins C h fs)/\fs.lookup m=U/\t c d λe i=>g (x::(e++b)) i Q E
def Po(C:O)(f:Sp)(c:List V)(E:XK)(t:TA):TE:=λd H Q=>t d H λe b=>∀x a,b x=U->b a=U->a≠x->f (.ref x::(e++c)) (Û (Û b a (.own x)) x (.ins C a [])) (λv g=>v=.non/\Q (.ref x) g) E
def ñ(K:d_)(d:UP)(b:List Str)(c:List R):Prop:=∀(s:ge)(a:List R),K.In s.heap->(a++c).length=b.length->abH s d ⟨a,[]⟩ (b.zip (a++c))
def ñ.all(h:∀a:List R,a.length=u.length->aby Ä ⟨a,[]⟩=pure (u.zip a)):ñ v Ä u []:=λs a _ b=>by rw[W3]at b⊢;exact .of_eq (h a b)
def mv(d:Ļ)(X:C)(E:XK):Prop:=∀(c:List (O×Obj))(b:St)(H:Hp)(s:ge)(e:R)(a:ge),Ê X c b H s->d X.stack H s E e a->X.xe e a
def ye{p:Ļ}{n:Sp}{c:XK}{j:List R}{m:List V}(F:î a.prog a.w a.K a.mg a.base p b e Ä u n)(v:Ú b a.A)(z:ñ a.K Ä u E)(y:Ë ν E)(s:mv p a c)(I:Ê a δ Τ f d)(r:Ë m j)(h:n (m++ν) f Æ c):q_ (w_ a.prog a.w) a.A (call (.ref e) j) (EP a δ Τ Æ) a.xe d:=by
 have o:Ë (m++ν) (j++E):=r.append y;have w:(j++E).length=u.length:=by rw[<-o.length];exact F.len _ _ _ _ h
 refine YX (VI (F.run a.A a.stack d f ⟨j,[]⟩ (j++E) (m++ν) Æ c v I.env0 (z d j I.kIn w) o h) λr q k=>?_);cases r with|error g=>exact s δ Τ f d g q I k|ok A=>cases A with|ret i=>exact I.after k|next=>exact UK k|brk=>exact UK k|cont=>exact UK k
def yf{n:Ļ}{j:Sp}{d:XK}{t:TA}(F:î a.prog a.w a.K a.mg a.base n b e Ä u j)(v:Ú b a.A)(B:Gl a c)(w:a.mg c=Z (.ref e))(y:Vl a.K (.ref e)=L)(hb:ñ a.K Ä u E)(hd:Ë ν E)(p:mv n a d)(ha:PA a (g::A) t)(i:(c==("__debug__":Str))=D:=by decide)(P:k_ (g::A) a.env=(D,eval g a.env)::k_ A a.env:=by rfl)(f:(TF z (k_ A a.env)).any (·.1)=D:=by rfl):PE a (.Call (.Name c k) (g::A) [] z) (Pn j ν d t):=by intro f' s o H Q I h;refine UV (mi I B w ?_ i);refine Y0 (h₀:=a.base) I.ok.mod.kin y (á (ha z f' s o H _ I h) λus s1⟨vs,H1,m,r,q⟩=>⟨m.kIn,?_⟩) P f;exact ye F v hb hd p m r q
def Ge{CX:Ļ}{p:Sp}{f:XK}{t:TA}{v:Sem Bool}(he:PE a w Φ)(j:ţ a.K y)(P:JH a.K y c e)(F:î a.prog a.w a.K a.mg a.base CX b e Ä u p)(hr:Ú b a.A)(hb:ñ a.K Ä u E)(hd:Ë ν E)(hx:mv CX a f)(ha:PA a (g::A) t)(m:k_ (g::A) a.env=(D,eval g a.env)::k_ A a.env:=by rfl)(n:(TF k (k_ A a.env)).any (·.1)=D:=by rfl)(ht:eval (.Call (.Attribute w c z) (g::A) [] k) a.env=(do
 let B<-eval w a.env
 aaV z.atName let(e,first)<-Xk [B] (aaW B c v)callWith k e first (TF k (k_ (g::A) a.env)) (Va k (Us [] a.env))):=by rfl):PE a (.Call (.Attribute w c z) (g::A) [] k) (Kx y c p ν f Φ t):=by intro f' s o H Q I h;refine aap (pl:=v) (á (he f' s o H _ I h) λi s1⟨x,H1,I1,rx,d,dx,fs,ex,ea,l,q⟩=>?_) ht;subst ex;obtain rfl:i=z_ d:=rx;refine oh I1 ea j P l ?_;refine Y0 (first:=[.ref d]) (h₀:=a.base) I.ok.mod.kin P.kp (á (ha k f' s1 o H1 _ I1 q) λus s2⟨vs,H2,I2,r,q2⟩=>⟨I2.kIn,?_⟩) m n;exact ye (j:=.ref d::us) (m:=.ref d::vs) F hr hb hd hx I2 (.cons rfl r) q2
def BU{v:Ļ}{n:Sp}{f:XK}{o:Sem Bool}(he:PE a g Φ)(j:ţ a.K y)(r:JH a.K y c e)(F:î a.prog a.w a.K a.mg a.base v b e Ä u n)(hr:Ú b a.A)(hb:ñ a.K Ä u E)(hd:Ë ν E)(B:mv v a f)(P:eval (.Call (.Attribute g c z) [] [] k) a.env=(do
 let p<-eval g a.env
 aaV z.atName let(e,first)<-Xk [p] (aaW p c o)callWith k e first (TF k (k_ [] a.env)) (Va k (Us [] a.env))):=by rfl):PE a (.Call (.Attribute g c z) [] [] k) (Kx y c n ν f Φ RF):=by intro f' s w H Q I h;refine aap (pl:=o) (á (he f' s w H _ I h) λi s1⟨x,H1,m,A,d,dx,fs,ex,ea,l,q⟩=>?_) P;subst ex;obtain rfl:i=z_ d:=A;refine oh m ea j r l ?_;exact PySem.W.callWith_K0 (first:=[.ref d]) m.kIn r.kp (ye (j:=[.ref d]) (m:=[.ref d]) F hr hb hd B m (.cons rfl .nil) q)
structure Mk(K:d_)(C f:O):Prop where
 makes:acb K C=L
 init:UZ K (.ref C) "__init__"=Z (Z (.ref f))fn:ZY K (.ref f)=L
 kp:Vl K (.ref C)=L
def BV{w:Ļ}{p:Sp}{g:XK}{k:List R}{o:List V}(M:Mk a.K y e)(F:î a.prog a.w a.K a.mg a.base w b e Ä u p)(P:Ú (b+1) a.A)(hb:ñ a.K Ä u E)(hd:Ë ν E)(H:mv w a g)(I:Ê a δ Τ f d)(r:Ë o k)(h:∀x m,f x=U->f m=U->m≠x->p (.ref x::(o++ν)) (Û (Û f m (.own x)) x (.ins y m [])) (λv H2=>v=.non/\Æ (.ref x) H2) g):q_ (w_ a.prog a.w) a.A (call (.ref y) k) (EP a δ Τ Æ) a.xe d:=by
 have s:=h (d.heap.objs.size+1) d.heap.objs.size (I.hok.fresh (VR _)) (I.hok.fresh (o_ _)) (A_ (U6 _));have n:=Ê.made (e:=y) I;have q:Ë (V.ref (d.heap.objs.size+1)::(o++ν)) (z_ (d.heap.objs.size+1)::(k++E)):=.cons rfl (r.append hd);have hl:(z_ (d.heap.objs.size+1)::k++E).length=u.length:=by have c:=q.length;rw[F.len _ _ _ _ s]at c;exact c.symm
 refine YX (BS (y:=e) I.kIn M.makes M.init (beq_iff_eq.mp M.fn) (VI (F.run _ a.stack _ _ ⟨z_ (d.heap.objs.size+1)::k,[]⟩ (z_ (d.heap.objs.size+1)::(k++E)) _ _ g (P.make y k []) (n.env0.make y k []) (hb _ (z_ (d.heap.objs.size+1)::k) n.kIn hl) q s) λr z j=>?_));cases r with|error c=>exact H δ Τ _ _ c z n j|ok fl=>cases fl with|ret i=>obtain⟨v,H',I3,A,ev,B⟩:=n.after j;subst ev;exact⟨A,⟨V.ref (d.heap.objs.size+1),H',I3,rfl,B⟩⟩|next=>exact UK j|brk=>exact UK j|cont=>exact UK j
def Gf{n:Ļ}{j:Sp}{d:XK}{t:TA}(M:Mk a.K y e)(F:î a.prog a.w a.K a.mg a.base n b e Ä u j)(v:Ú (b+1) a.A)(B:Gl a c)(w:a.mg c=Z (.ref y))(hb:ñ a.K Ä u E)(hd:Ë ν E)(p:mv n a d)(ha:PA a (g::A) t)(i:(c==("__debug__":Str))=D:=by decide)(P:k_ (g::A) a.env=(D,eval g a.env)::k_ A a.env:=by rfl)(f:(TF z (k_ A a.env)).any (·.1)=D:=by rfl):PE a (.Call (.Name c k) (g::A) [] z) (Po y j ν d t):=by intro f' s o H Q I h;refine UV (mi I B w ?_ i);refine Y0 (h₀:=a.base) I.ok.mod.kin M.kp (á (ha z f' s o H _ I h) λus s1⟨vs,H1,m,r,q⟩=>⟨m.kIn,?_⟩) P f;exact BV M F v hb hd p m r q
structure iH(N P:List Str)(sc:VD):Prop where
 kind:sc.kind=.function
 co:sc.isCoroutine=D
 gen:sc.isGenerator=D
 nd:N.Nodup
 pre:N.take P.length=P
 par:∀x∈P,sc.names.lookup x=Z .local\/sc.names.lookup x=Z .cell
 nofree:∀y∈sc.names,y.2≠.free
def qM{a:Str->Option WM}{x:Str}:∀{binds:List (Str×R)}{m:Str->Option R},(∀v,(x,v)∉binds)->K' a binds m x=m x
 |[],_,_=>rfl|(n,v)::r,m,h=>by
  unfold K';rw[qM λw b=>h w (r_ _ b)];split
  · have:x≠n:=by rintro rfl;exact h v on
    simp[this]
  ·rfl
def qN{a:Str->Option WM}{x:Str}:∀{binds:List (Str×R)}{m:Str->Option R},(∀v,(x,v)∉binds)->P' a binds m x=m x
 |[],_,_=>rfl|(n,v)::r,m,h=>by
  unfold P';rw[qN λw b=>h w (r_ _ b)];split;·rfl
  · have:x≠n:=by rintro rfl;exact h v on
    simp[this]
def qO{a:Str->Option WM}{x:Str}{v:R}:∀{P:List Str}{b:List R}{i:Nat}{m:Str->Option R},P.Nodup->P[i]?=Z x->b[i]?=Z v->a x=Z .local->K' a (P.zip b) m x=Z v|[],_,_,_,_,h,_,_=>by simp at h|_::_,[],_,_,_,_,h,_=>by simp at h|p::P,w::b,0,m,e,d,c,f=>by simp at d c;subst d;subst c;show K' a ((p,w)::P.zip b) m p=_;unfold K';rw[qM λv g=>(U0.mp e).1 (aak g).1,if_pos f];simp|p::P,w::b,i+1,m,e,d,c,f=>by show K' a ((p,w)::P.zip b) m x=_;unfold K';exact qO (i:=i) (U0.mp e).2 (by simpa using d) (by simpa using c) f
def qP{a:Str->Option WM}{x:Str}{v:R}:∀{P:List Str}{b:List R}{i:Nat}{m:Str->Option R},P.Nodup->P[i]?=Z x->b[i]?=Z v->a x≠Z .local->P' a (P.zip b) m x=Z v|[],_,_,_,_,h,_,_=>by simp at h|_::_,[],_,_,_,_,h,_=>by simp at h|p::P,w::b,0,m,e,d,c,f=>by simp at d c;subst d;subst c;show P' a ((p,w)::P.zip b) m p=_;unfold P';rw[qN λv g=>(U0.mp e).1 (aak g).1,if_neg f];simp|p::P,w::b,i+1,m,e,d,c,f=>by show P' a ((p,w)::P.zip b) m x=_;unfold P';exact qP (i:=i) (U0.mp e).2 (by simpa using d) (by simpa using c) f
def start(N:List Str)(a:List V):St:=a.map Z++Ud (N.length-a.length) U
def uZ(g:Ļ)(P:n_)(w:y_)(K:d_)(mg:Str->Option R)(base:O_)(N:List Str)(b:Str)(a:VD)(f:O)(d:R)(A:x_)(outer:List Env)(s:ge)(H:Hp)(E:XK):C where prog:=P;w:=w;K:=K;mg:=mg;base:=base;A:=A.deeper (Xv b a s.heap.objs.size f d);N:=N;s₀:=s;H₀:=H;env:=Xv b a s.heap.objs.size f d;outer:=outer;stack:=Xv b a s.heap.objs.size f d::outer;ex:=[];calm:=L;fn:=λ_=>L;pn:=[];xe:=λe h=>q_ (w_ P w) (A.deeper (Xv b a s.heap.objs.size f d)) (leaving (Xv b a s.heap.objs.size f d) e) (λ_ c=>g outer H s E e c) (λi c=>g outer H s E i c) h
variable{τ:VD}
def u0(h:τ.names.lookup c=Z .cell):∃a,(UL b τ.names []).lookup c=Z a:=by have q:=ZZ τ.names b [] (.inl h);exact WE.mp q
def yg{CX:Ļ}{ps:List Str}{B:List Env}{s1:ge}{o:XK}(S:iH u ps τ)(hd:s.handled=U)(P:Ŀ n j v Χ ε s B d f)(hl:ν.length=ps.length)(r:Ë ν E)(x:InCallC d d.heap.objs.size (K' (Xv c τ d.heap.objs.size e ψ).kindOf (ps.zip E) λ_=>U) (UL (d.heap.objs.size+1) τ.names []) (P' (Xv c τ d.heap.objs.size e ψ).kindOf (ps.zip E) λ_=>U) s1):Ê (uZ CX n j v Χ ε u c τ e ψ s B d f o) [] (start u ν) f s1:=by
 have c':ps.length<=u.length:=by have:=congrArg YE S.pre;rw[ZR]at this;omega
 obtain⟨h1,tk,rfl,hk⟩:=x.done;have a':∀b:O,b∉(uZ CX n j v Χ ε u c τ e ψ s B d f o).ex:=λb z=>absurd (show b∈([]:List O)from z) (by simp);refine⟨⟨P.mod,S.kind,rfl,rfl,o_ _,λy z g h1 H=>?_,λy hy=>?_,λy g _ h=>?_,λ_=>hd,Around.frames_deeper P.frames,.inr ⟨rfl,rfl⟩,λb z=>absurd z (a' b),P.bs,P.bsz,λb _ _=>a' b,λb z=>absurd z (a' b),P.funs,P.frf⟩,rfl,P.bare,Un.kept hk,⟨_,x.toInCall.ns,λi y w h1 H h3=>?_⟩,λy g h=>⟨_,x.cell y g h⟩,P.hok.fresh (o_ _),λy g h=>?_,λp hp=>absurd (show p∈([]:List (O×Obj))from hp) (by simp),P.hok.kept hk,?_⟩;·exact name_of_addr x.apart (WG h1) (WG H)
 · have hy:τ.names.lookup y=Z .cell\/τ.names.lookup y=Z .free:=hy;rcases hy with hy|hy;·exact u0 hy
   ·exact absurd rfl (S.nofree _ (WG hy))
 ·exact WV (x.above y g (WG h))
 · have hi:i<ν.length:=by
    unfold start at H;by_cases hi:i<ν.length;·exact hi
    ·rw[P_ (by simpa using hi)]at H;rw[XY]at H;split at H<;>cases H
   have ha:ν[i]?=Z w:=by unfold start at H;rw[M_ (by simpa using hi),J_]at H;cases m:ν[i]? with|none=>rw[m]at H;cases H|some a=>rw[m]at H;cases H;rfl
   obtain⟨A,hu,rv⟩:=r.get ha;have hp:ps[i]?=Z y:=by rw[<-S.pre,Zy (by omega)];exact h1
   have b':ps.Nodup:=by rw[<-S.pre];exact S.nd.sublist (List.take_sublist _ _)
   refine⟨A,rv,?_⟩;rcases S.par y (S_ hp)with k|k;·exact .inl ⟨k,qO b' hp hu k⟩
   ·obtain⟨g,m⟩:=u0 (b:=d.heap.objs.size+1) k;refine .inr ⟨.inl k,g,m,?_⟩;have q:=x.cell y g m;rw[qP b' hp hu (by show τ.names.lookup y≠_;rw[k];decide)]at q;exact q
 ·exact P.hok.fresh (WV (x.above y g (WG h)))
 ·unfold start;show _=u.length;rw[Uw,N_,VE];omega
def Gg{CX:Ļ}{P:n_}{w:y_}{K:d_}{mg:Str->Option R}{h:O_}{k:Nat}{f:O}{B d:Str}{i:Arguments}{j:List UH}{a:VD}{dV kV f' pm g ct oc:R}{an od:Option O}{g':Array (Option R)}{N ps:List Str}{sp:Sp}(lk:K.lookup f=Z ⟨oc,od,.func (VJ B d i j a dV kV f' pm an g ct),g'⟩)(i':X6 K g d=L)(S:iH N ps a)(c':∀m H Q E,sp m H Q E->m.length=ps.length)(b':∀(A:x_)(c:List Env)(s:ge)(H:Hp)(m:List V)(Q:VK)(E:XK),Ú k (A.deeper (Xv d a s.heap.objs.size f g))->sp m H Q E->∃t,ĳ (uZ CX P w K mg h N d a f g A c s H E) j t/\t {nx:=λ_ z=>Q .non z,rt:=Q} (start N m) H):î P w K mg h CX (k+1) f (VJ B d i j a dV kV f' pm an g ct) ps sp:=by
 refine⟨c',λA c s H k' us m Q E hr e0 hb r d'=>?_⟩;have hl:=c' _ _ _ _ d';have KX:K.In s.heap:=e0.mod.kin.keeps λb o e=>(e0.bs b o e).1;have h':s.heap.NoLimit:=e0.mod.nolimit.keeps λb o e=>(e0.bs b o e).1;have a':∀y∈ps.zip us,a.names.lookup y.1=Z .local\/(a.names.lookup y.1=Z .cell/\((UL (s.heap.objs.size+1) a.names []).lookup y.1).isSome=L):=λ⟨n,v⟩hy=>by
  rcases S.par n (aak hy).1 with q|q;·exact .inl q
  ·exact .inr ⟨q,ZZ _ _ _ (.inl q)⟩
 refine codeAny_call_function hr.depth (KX _ _ lk) rfl S.co S.gen rfl (PySem.W.codeRec_of KX i') (hb _ _ _ _ ?_);refine wpAny_newFunctionEnv_cells S.kind a' λl' he s1 x=>?_;subst he;refine⟨h'.keeps x.toInCall.keep,codeAny_func ?_⟩;obtain⟨t,ht,hq⟩:=b' A c s H m Q E (hr.deeper _) d';have I:Ê (uZ CX P w K mg h N d a f g A c s H E) [] (start N m) H s1:=yg S hr.hd e0 hl r x;refine Ur (ht [] s1 (start N m) H _ I hq) (λfl s' hs=>?_) λe s' hs=>hs;have e':∀{p:St}{z:Hp}{v:V}{u:R},Ê (uZ CX P w K mg h N d a f g A c s H E) [] p z s'->Ô v u->Q v z->CE c P w H s Q u s':=λ{p z v u}J rv q=>⟨v,z,J.os,J.bare,J.base,J.hok,rv,q⟩;cases fl with|ret u=>obtain⟨v,p,z,J,rv,q⟩:=hs;exact e' J rv q|next=>obtain⟨p,z,J,q⟩:=hs;exact e' (v:=V.non) (u:=C_) J rfl q|brk=>obtain⟨_,_,_,q⟩:=hs;exact UK q|cont=>obtain⟨_,_,_,q⟩:=hs;exact UK q
def tCB(r:List V->Hp->VK->Prop)(t:TA):TE:=λa H Q=>t a H λb c=>r b c Q
def hJ{t:TA}{f:String}{r:List V->Hp->VK->Prop}(B:õ a (.builtin f) r)(w:Gl a c)(v:a.mg c=U)(q:Vn c=Z (.builtin f))(E:PA a (g::A) t)(u:c≠"__name__":=by decide)(d:(c==("__debug__":Str))=D:=by decide)(y:k_ (g::A) a.env=(D,eval g a.env)::k_ A a.env:=by rfl)(b:(TF z (k_ A a.env)).any (·.1)=D:=by rfl):PE a (.Call (.Name c k) (g::A) [] z) (tCB r t):=by intro i s e H Q I h;refine UV (gF I w v q ?_ u d);exact WN (á (E z i s e H _ I h) λm n⟨j,H1,P,o,p⟩=>B i n e H1 j m Q P o p) y b
def mw{t:TA}{T:String}{r:List V->Hp->VK->Prop}(y:õ a (.type T) r)(v:Gl a c)(u:a.mg c=U)(p:Vn c=Z (.type T))(B:PA a (g::A) t)(q:c≠"__name__":=by decide)(d:(c==("__debug__":Str))=D:=by decide)(w:k_ (g::A) a.env=(D,eval g a.env)::k_ A a.env:=by rfl)(b:(TF z (k_ A a.env)).any (·.1)=D:=by rfl):PE a (.Call (.Name c k) (g::A) [] z) (tCB r t):=by intro f s e H Q I h;refine UV (gF I v u p ?_ q d);exact UM (á (B z f s e H _ I h) λj m⟨i,P,E,n,o⟩=>y f m e P i j Q E n o) w b
end L2
variable{ν:List L2.V}{E:List R}{f:L2.Hp}{e y:O}{ε:O_}{Α:L2.Hp}{ω:List O}{a:L2.C}{δ:List (O×Obj)}{Ã:List (Option L2.V)}{u:List Str}{Å:WX}{s:x_}{θ:R->ge->Prop}{c:Str}{υ:L2.V}{ψ:R}{k:Pos}{Τ:L2.St}{Ω:R->ge->Prop}{g:u_}{Φ:L2.TE}{w:u_}{A:List u_}{v:d_}{Ψ:List UH}{Η:UH}{o:Nat}{z:Pos}{Β:Array R}{p Ε:Int}{H À:Bool}{m:Str}{Æ:L2.VK}{Χ:Str->Option R}{Ä:UP}{τ:VD}
namespace HT
def cat_tup{c:List R}(B:L' d.heap e E.toArray)(H:L' d.heap y c.toArray)(u:E≠[])(h1:c=[]->Ω (.ref e) d)(P:c≠[]->Ω (.ref d.heap.objs.size) {d with heap:=d.heap.push {cls:=.type "tuple",data:=.seq (E++c).toArray}})(p:E.length+c.length<=sizeLine):q_ (w_ n j) s (Wn .Add (.ref e) (.ref y)) Ω θ d:=by
 obtain⟨⟨cls,z,data,q⟩,o,w,a,v⟩:=id B;obtain⟨⟨A,k,data2,g⟩,f,i,r,h⟩:=id H;simp only at w v i h;subst w v i h;have b:E.toArray++c.toArray=(E++c).toArray:=by simp
 by_cases m:c=[]
 ·exact abw ⟨_,o,rfl⟩ ⟨_,f,rfl⟩ ZD abc X_ XT (Xy _ _) (tuple_addW1 e y E.toArray c.toArray a r z k q g (by simpa using u) (by simp[m])) ⟨o,f,h1 m⟩
 ·refine abw ⟨_,o,rfl⟩ ⟨_,f,rfl⟩ ZD abc X_ XT (Xy _ _) (tuple_addW2 e y E.toArray c.toArray a r z k q g (by simpa using u) (by simpa using m) (by rw[I_,I_];exact p)) ⟨o,f,?_⟩;rw[b];exact P m
def sIx(n d:Nat):Option Int->Nat|none=>d|some v=>if v<0 then(v+(n:Int)).toNat else min v.toNat n
def Ky(n d:Nat)(b:d<=n)(o:Option Int):sIx n d o<=n:=by cases o with|none=>exact b|some v=>
 show(if v<0 then(v+(n:Int)).toNat else min v.toNat n)<=n;by_cases a:v<0;·rw[if_pos a];omega
 ·rw[if_neg a];exact ab0 _ _
def yh(v:Int)(n d:Nat):(if v<0 then max (v+(n:Int)) 0 else min v (n:Int))=((sIx n d (Z v):Nat):Int):=by
 show(if v<0 then max (v+(n:Int)) 0 else min v (n:Int))=(((if v<0 then(v+(n:Int)).toNat else min v.toNat n):Nat):Int);by_cases a:v<0;·simp only[if_pos a];omega
 ·simp only[if_neg a];omega
def wH(a b:Option Int)(n:Nat):Xr a b 1 (n:Int)=(((sIx n 0 a:Nat):Int),((sIx n n b:Nat):Int)):=by
 have c:¬((1:Int)<0):=by omega
 unfold Xr;simp only[c,if_false];refine Prod.ext ?_ ?_;·cases a with|none=>rfl|some v=>exact yh v n 0
 ·cases b with|none=>rfl|some v=>exact yh v n n
def wI(i j:Nat):Wg (i:Int) (j:Int) 1=j-i:=by
 unfold Wg;have a:(1:Int)>0:=by omega
 simp only[a,if_true,Int.ediv_one];split<;>omega
variable{Δ:Option Int}
def oj{Q:Option Int->ge->Prop}(p:Z3 ψ Δ)(h:Q Δ d):q_ (w_ n j) s (Builtin.Slice.slicePartIndex ψ) Q θ d:=by cases p with|none=>exact slicePart_none h|int i t=>exact slicePart_int h
variable{Ι:Option Int}
def sliceApplied_gen{f:R}{Q:Int×Int×Nat->ge->Prop}(k:d.heap.IsSliceOf e ψ f .none)(i:Z3 ψ Δ)(g:Z3 f Ι)(h:Q (((sIx b 0 Δ:Nat):Int),1,sIx b b Ι-sIx b 0 Δ) d):q_ (w_ n j) s (Y6 (.ref e) (pure (b:Int))) Q θ d:=by obtain⟨os,a,m,c⟩:=id k;unfold Y6 Builtin.Slice.sliceFields;refine ck (ck (U_ a c (x:=ψ) rfl (ck (U_ a c (x:=f) rfl (ck (U_ a c (x:=.none) rfl (h_ ?_)))))));refine ck (slicePart_none ?_);show q_ _ _ (if((1:Int)==0)=L then _ else _) _ _ d;rw[if_neg (by decide)];refine ck (oj i (ck (oj g (ck (h_ ?_)))));show q_ _ _ (match Xr Δ Ι 1 (b:Int)with|(Δ,Ι)=>pure (Δ,(1:Int),Wg Δ Ι 1)) _ _ d;rw[wH Δ Ι b];show q_ _ _ (pure (((sIx b 0 Δ:Nat):Int),(1:Int),Wg ((sIx b 0 Δ:Nat):Int) ((sIx b b Ι:Nat):Int) 1)) _ _ d;rw[wI];exact h_ h
def BW(a:Array R)(i k:Nat):((rl k).filterMap λ(m:Nat)=>a[((i:Int)+(m:Int)*1).toNat]?).toArray=((a.toList.drop i).take k).toArray:=by
 have e:(λ(m:Nat)=>a[((i:Int)+(m:Int)*1).toNat]?)=λm=>a[i+m]?:=by
  funext m;have:((i:Int)+(m:Int)*1).toNat=i+m:=by omega
  rw[this]
 rw[e];have:=pick_run a i k;rw[Za]at this;have b:((λx=>a[x]?)∘λx=>i+x)=λm=>a[i+m]?:=rfl;rw[b]at this;rw[this]
def getItem_tuple_cut{k:R}(b:L' d.heap e Β)(m:d.heap.IsSliceOf y ψ k .none)(p:Z3 ψ Δ)(o:Z3 k Ι)(r:¬(sIx Β.size 0 Δ=0/\sIx Β.size Β.size Ι=Β.size))(h:Ω (.ref d.heap.objs.size) {d with heap:=d.heap.push {cls:=.type "tuple",data:=.seq ((Β.toList.drop (sIx Β.size 0 Δ)).take (sIx Β.size Β.size Ι-sIx Β.size 0 Δ)).toArray}})(u:Β.size<=sizeLine):q_ (w_ n j) s (ZX (.ref e) (.ref y)) Ω θ d:=by
 have a:sizeOk (.seq ((Β.toList.drop (sIx Β.size 0 Δ)).take (sIx Β.size Β.size Ι-sIx Β.size 0 Δ)).toArray):=by show((Β.toList.drop (sIx Β.size 0 Δ)).take (sIx Β.size Β.size Ι-sIx Β.size 0 Δ)).toArray.size<=sizeLine;rw[I_,ZR,Yx,UG];omega
 have A:sIx Β.size Β.size Ι<=Β.size:=Ky _ _ (o_ _) Ι;obtain⟨os,c,g,v⟩:=id m;have i:d.TypeIs (.ref y) "slice":=⟨os,c,g⟩;unfold ZX;try with_reducible refine Uu ?_
 first|refine ck (h_ ?_)|skip
 refine ck (wpAny_sequenceKey b.typeIs (by decide) ?_);refine ck (Uc (name:=b_ "__getitem__") b.typeIs UN (Ub UN b.typeIs entry_tuple_getitem ?_ (args_tuple_getitem _ _)));show q_ _ _ (Y5 (.ref e)>>=_) _ _ d;refine ck (tupleItemsOf_ b ?_);refine ck (Wm i ?_);rw[if_pos (by decide)];refine ck (sliceApplied_gen m p o ?_);have f:¬((((sIx Β.size 0 Δ:Nat):Int)==0&&(1:Int)==1&&(sIx Β.size Β.size Ι-sIx Β.size 0 Δ)==Β.size)=L):=by intro q;rw[pi,pi]at q;have z:((sIx Β.size 0 Δ:Nat):Int)=0:=X0 q.1.1;have w:sIx Β.size Β.size Ι-sIx Β.size 0 Δ=Β.size:=X0 q.2;exact r ⟨by omega,by omega⟩
 show q_ _ _ (if(((sIx Β.size 0 Δ:Nat):Int)==0&&(1:Int)==1&&(sIx Β.size Β.size Ι-sIx Β.size 0 Δ)==Β.size)=L then _ else _) _ _ d;rw[if_neg f,BW];first|exact ck (m:=WC _) (TJ (h_ ⟨_,rfl,h_ h⟩) a)|exact ck (m:=WC _) (TJ (ck (h_ (h_ ⟨_,rfl,h_ h⟩))) a)|exact ck (ck (m:=WC _) (TJ (h_ (h_ ⟨_,rfl,h_ h⟩)) a))|exact ck (ck (m:=WC _) (TJ (h_ ⟨_,rfl,h_ h⟩) a))
end HT
variable{Δ Ι:Option Int}
namespace L2
abbrev TO:=St->Hp->(Option Int->Hp->Prop)->Prop
def PO(X:C)(e:Option u_)(t:TO):Prop:=∀(b:List (O×Obj))(s:ge)(a:St)(H:Hp)(Q:Option Int->Hp->Prop),Ê X b a H s->t a H Q->q_ (w_ X.prog X.w) X.A (evalPart e X.env) (λu d=>∃o c,Ê X b a c d/\Z3 u o/\Q o c) X.xe s
def Gh:TO:=λ_ H Q=>Q U H
def Pp(t:TE):TO:=λa H Q=>t a H λx b=>∃i,x=.int i/\Q (Z i) b
def Gi:PO a U Gh:=by intro c s b H Q I h;rw[evalPart_none];exact h_ ⟨U,H,I,.none,h⟩
def Gj(h:PE a g Φ):PO a (Z g) (Pp Φ):=by intro f s b H Q I e;rw[evalPart_some];refine á (h f s b H _ I e) λu m⟨x,k,j,c,d⟩=>?_;obtain⟨i,rfl,q⟩:=d;obtain⟨t,rfl⟩:=c;exact⟨Z i,k,j,.int i t,q⟩
def ŭ(X:C)(r:V->Option Int->Option Int->Hp->VK->Prop):Prop:=∀(f:List (O×Obj))(s:ge)(a:St)(H:Hp)(x:V)(v c b:R)(lo e:Option Int)(d:O)(Q:VK),Ê X f a H s->Ô x v->s.heap.IsSliceOf d c b .none->Z3 c lo->Z3 b e->r x lo e H Q->∃T id,typeLookup (.type T) "__getitem__"=pure (Z (.builtin id))/\s.TypeIs v T/\q_ (w_ X.prog X.w) X.A (ZX v (.ref d)) (EP X f a Q) X.xe s
def ŭ.or{r i:V->Option Int->Option Int->Hp->VK->Prop}(h:ŭ a r)(n:ŭ a i):ŭ a (λx lo b H Q=>r x lo b H Q\/i x lo b H Q):=by
 intro m s c H x v e d lo b f Q I g k pl j q;rcases q with q|q;·exact h m s c H x v e d lo b f Q I g k pl j q
 ·exact n m s c H x v e d lo b f Q I g k pl j q
def tSl(r:V->Option Int->Option Int->Hp->VK->Prop)(d:TE)(b c:TO):TE:=λa H Q=>d a H λx g=>b a g λl f=>c a f λu e=>r x l u e Q
def u3{j m:Option u_}{n o:TO}{r:V->Option Int->Option Int->Hp->VK->Prop}(hr:ŭ a r)(he:PE a g Φ)(hl:PO a j n)(hu:PO a m o):PE a (.Subscript g (.Slice j m U z) k) (tSl r Φ n o):=by intro e s d H Q I h;refine Subscript_ (á (he e s d H _ I h) λv y⟨x,H1,I1,A,P⟩=>?_);refine wpAny_Slice (á (hl e y d H1 _ I1 P) λi w⟨l,H2,I2,pl,E⟩=>á (hu e w d H2 _ I2 E) λf c⟨u,p,I3,pu,B⟩=>?_);rw[evalPart_none];refine h_ ?_;have I4:Ê a e d p {c with heap:=c.heap.push {cls:=.type "slice",data:=.fields #[i,f,.none]}}:=I3.kept (t':=c.toks) λb ob q=>i_ _ q;obtain⟨T,id,hT,ht,hg⟩:=hr e {c with heap:=c.heap.push {cls:=.type "slice",data:=.fields #[i,f,.none]}} d p x v i f l u c.heap.objs.size Q I4 A (Heap.IsSliceOf.new ..) pl pu B;show q_ (w_ a.prog a.w) a.A (subscriptTail g (.Slice j m U z) v (.ref c.heap.objs.size)) (EP a e d Q) a.xe {c with heap:=c.heap.push {cls:=.type "slice",data:=.fields #[i,f,.none]}};exact tail_any (ops:=[.ref c.heap.objs.size,v]) ht hT hg (by with_unfolding_all rfl)
def BX(a:List V)(b c:Option Int):List V:=(a.drop (HT.sIx a.length 0 b)).take (HT.sIx a.length a.length c-HT.sIx a.length 0 b)
def mx(a:List V)(b c:Option Int):(BX a b c).length<=a.length:=by unfold BX;rw[ZR,Yx];omega
def SM(K:d_):V->Option Int->Option Int->Hp->VK->Prop:=λx lo c H Q=>∃a b,x=.ref a/\ð K H a b/\¬(HT.sIx b.length 0 lo=0/\HT.sIx b.length b.length c=b.length)/\∀p,H p=U->Q (.ref p) (Û H p (.tup (BX b lo c)))
def sl_tup:ŭ a (SM a.K):=by
 intro B s u H x v y w lo f z Q I k p pl m h;obtain⟨c,e,rfl,n,o,q⟩:=h;cases k;obtain⟨g,r,j,i⟩:=I.tuple n;have d:g.toArray.size=e.length:=by rw[I_];exact r.length.symm
 refine⟨"tuple",_,UN.lookup,j.typeIs,?_⟩;refine HT.getItem_tuple_cut j p pl m (by rw[d];exact o) ?_ (by rw[d];exact i);rw[d];refine⟨.ref s.heap.objs.size,_,I.laid (t':=s.toks) (o:=.tup (BX e lo f)) (λb A q=>i_ _ q) (o_ _) ?_,rfl,q _ (I.hok.fresh (o_ _))⟩;exact⟨TX (mx e lo f) i,_,(r.drop (HT.sIx e.length 0 lo)).take (HT.sIx e.length e.length f-HT.sIx e.length 0 lo),acN _ _⟩
def Kz(K:d_):R2:=λx y H Q=>∃a b d c,x=.ref a/\y=.ref b/\ð K H a d/\ð K H b c/\d≠[]/\d.length+c.length<=sizeLine/\(c=[]->Q (.ref a) H)/\(c≠[]->∀p,H p=U->Q (.ref p) (Û H p (.tup (d++c))))
def Ë.nil_iff(r:Ë ν E):E=[]↔ν=[]:=by cases r with|nil=>simp|cons _ _=>simp
def op_catT:û a (Wn .Add) (Kz a.K):=by intro f' s σ H x y v u Q I m k h;obtain⟨c,b,j,i,rfl,rfl,E,B,A,f,o,n⟩:=h;cases m;cases k;obtain⟨P,e,r,_⟩:=I.tuple E;obtain⟨g,d,p,_⟩:=I.tuple B;refine HT.cat_tup r p (λz=>A (e.nil_iff.mp z)) (λz=>⟨.ref c,H,I,rfl,o (d.nil_iff.mp z)⟩) (λz=>?_) (by rw[<-e.length,<-d.length];exact f);refine⟨.ref s.heap.objs.size,_,I.laid (t':=s.toks) (o:=.tup (j++i)) (λb ob q=>i_ _ q) (o_ _) ?_,rfl,n (λw=>z (d.nil_iff.mpr w)) _ (I.hok.fresh (o_ _))⟩;exact⟨by rw[Uw];exact f,_,e.append d,acN _ _⟩
def Ž(n:Nat)(i:Int):Option Nat:=if 0<=i then(if i<n then Z i.toNat else U)else if-(n:Int)<=i then Z (i+n).toNat else U
def rw(a:List P)(i:Int):Option P:=(Ž a.length i).bind λj=>a[j]?
def yi(h:Ž b p=Z o):seqIndex? p b=Z o/\o<b/\-(b:Int)<=p/\p<b:=by
 unfold Ž at h;by_cases c:0<=p
 · rw[if_pos c]at h;by_cases a:p<b;·rw[if_pos a]at h;have e:p.toNat=o:=Uk h;exact⟨by rw[ab7 c a,e],by omega,by omega,a⟩
   ·rw[if_neg a]at h;cases h
 · rw[if_neg c]at h;by_cases a:-(b:Int)<=p;·rw[if_pos a]at h;have e:(p+b).toNat=o:=Uk h;exact⟨by rw[seqIndex_neg (by omega) a,e],by omega,a,by omega⟩
   ·rw[if_neg a]at h;cases h
def tK{a:List P}(h:rw a p=Z È):∃j,seqIndex? p a.length=Z j/\a[j]?=Z È/\j<a.length/\-(a.length:Int)<=p/\p<a.length:=by unfold rw at h;cases e:Ž a.length p with|none=>rw[e]at h;cases h|some j=>rw[e]at h;obtain⟨f,d,c,b⟩:=yi e;exact⟨j,f,h,d,c,b⟩
def yj(b:u_):Prop:=∀o i,ab5 b D o i=operate [o,i] (ZX o i)
def Ŭ(X:C)(r:R2):Prop:=∀(b a:u_)(d:List (O×Obj))(s:ge)(c:St)(H:Hp)(x y:V)(v u:R)(Q:VK),Ê X d c H s->Ô x v->Ô y u->r x y H Q->ab5 a D v u=operate [v,u] (ZX v u)->q_ (w_ X.prog X.w) X.A (subscriptTail b a v u) (EP X d c Q) X.xe s
def Ŋ(X:C)(e:String)(r:V->List V->Hp->VK->Prop):Prop:=∀(d:List (O×Obj))(s:ge)(a:St)(H:Hp)(x:V)(b:List V)(v:R)(c:List R)(Q:VK),Ê X d a H s->Ô x v->Ë b c->r x b H Q->q_ (w_ X.prog X.w) X.A (call (.builtin e) (v::c)) (EP X d a Q) X.xe s
def Ŭ.or{r g:R2}(h:Ŭ a r)(k:Ŭ a g):Ŭ a (λx y H Q=>r x y H Q\/g x y H Q):=by
 intro b c j s d H x y v u Q I f e q i;rcases q with q|q;·exact h b c j s d H x y v u Q I f e q i
 ·exact k b c j s d H x y v u Q I f e q i
def Pq{b:TE}{r:R2}(j:Ŭ a r)(n:PE a g Φ)(m:PE a w b)(i:yj w):PE a (.Subscript g w k) (ż r Φ b):=by intro o s c H Q I h;exact Subscript_ (Pg n m I h λv u d x y z p f e q=>j g w o d c z x y v u Q p f e q (i _ _))
def RG(K:d_):R2:=λx y H Q=>∃p a i v,x=.ref p/\y=.int i/\ă K H p a/\rw a i=Z v/\Q v H
def RH(K:d_):R2:=λx y H Q=>∃p a i v,x=.ref p/\y=.int i/\ð K H p a/\rw a i=Z v/\Q v H
def RI:R2:=λx y H Q=>∃z i c,x=.str z/\y=.int i/\z.length<=sizeLine/\rw z.cps.toList i=Z c/\Q (.str ⟨#[c]⟩) H
def ix_list:Ŭ a (RG a.K):=by
 intro g k A s m H x y v u Q I rx P h n;obtain⟨p,xs,i,z,rfl,rfl,hq,he,q⟩:=h;cases rx;obtain⟨t,rfl⟩:=P;obtain⟨f,r,pl,hz⟩:=I.list hq;obtain⟨j,c,h2,h3,h4,h5⟩:=tK he;obtain⟨w,B,e⟩:=r.get h2;have hl:=r.length;have hn:=qL;have b:EP a A m Q w s:=⟨z,H,I,e,q⟩;by_cases o:0<=i
 · have d:i.toNat=j:=by rw[ab7 o h5]at c;exact Uk c
   exact item_listR pl.isList o (by omega) (by rw[d];simpa using B) b n
 · have d:(i+(f.toArray.size:Int)).toNat=j:=by rw[seqIndex_neg (by omega) h4]at c;rw[I_,<-hl];exact Uk c
   exact Z6 (x:=w) pl.isList.typeIs slot_list_getitem.lookup (wpAny_getItem_list_neg (Q:=λr E=>r=w/\EP a A m Q r E) pl.isList (by omega) (by rw[I_]<;>omega) (by omega) (by rw[d];simpa using B) ⟨rfl,b⟩) n
def ix_tup:Ŭ a (RH a.K):=by intro d e g s f H x y v u Q I n m h o;obtain⟨p,xs,i,z,rfl,rfl,A,E,q⟩:=h;cases n;obtain⟨t,rfl⟩:=m;obtain⟨a',r,pl,hz⟩:=I.tuple A;obtain⟨j,h1,P,h3,h4,h5⟩:=tK E;obtain⟨w,ew,b⟩:=r.get P;have B:=r.length;have hn:=qL;have c:EP a g f Q w s:=⟨z,H,I,b,q⟩;exact Z6 (x:=w) pl.typeIs slot_tuple_getitem.lookup (getItem_tuple (j:=j) (Q:=λr k=>r=w/\EP a g f Q r k) pl (by omega) (by omega) (by rw[I_,<-B];exact h1) (by simpa using ew) ⟨rfl,c⟩) o
def KB:Ŭ a RI:=by
 intro b d f' s B H x y v u Q I g f h k;obtain⟨z,i,c,rfl,rfl,P,n,q⟩:=h;obtain⟨t,rfl⟩:=g;obtain⟨E,rfl⟩:=f;obtain⟨j,e,r,h3,p,o⟩:=tK n;have m:z.cps.toList.length=z.length:=by simp[Y2]
 rw[m]at e p o;have hn:=qL;exact tail_any (XE s z t) slot_str_getitem.lookup (getItem_str (c:=c) (by have A:uk (i< -(2^63:Int))=D:=decide_eq_false (by omega);have w:uk (i>=2^63)=D:=decide_eq_false (by omega);rw[A,w,Zz]) (by rw[e];simpa using r) ⟨.str ⟨#[c]⟩,H,I.tok _,⟨_,rfl⟩,q⟩) k
def rIx(K:d_):R2:=λx y H Q=>RG K x y H Q\/RH K x y H Q\/RI x y H Q
def KC:Ŭ a (rIx a.K):=ix_list.or (ix_tup.or KB)
def wJ(a:List R)(n j:Nat)(u:R):TQ (·.setIfInBounds j u) {cls:=.type "list",data:=.seq a.toArray n}={cls:=.type "list",data:=.seq (a.set j u).toArray n}:=by simp[TQ]
def Ê.lst(I:Ê a δ Τ f d)(h:f e=Z (.lst ν)):∃(c:List R)(n:Nat),Ë ν c/\d.heap.get? e=Z {cls:=.type "list",data:=.seq c.toArray n}/\ν.length<=sizeLine:=by obtain⟨z,c,n,r,b⟩:=I.hok e _ h;exact⟨c,n,r,b,z⟩
def Ê.lstUpd{k:List V}{j:List R}{c:Obj->Obj}(I:Ê a δ Τ f d)(h:f e=Z (.lst ν))(p:d.heap.get? e=Z {cls:=.type "list",data:=.seq E.toArray b})(m:c {cls:=.type "list",data:=.seq E.toArray b}={cls:=.type "list",data:=.seq j.toArray o})(r:Ë k j)(n:k.length<=sizeLine)(t:Nat):Ê a δ Τ (Û f e (.lst k)) {d with heap:=d.heap.update e c,toks:=t}:=by
 have g:(d.heap.update e c).get? e=Z {cls:=.type "list",data:=.seq j.toArray o}:=by rw[U8 c p (by rw[m]<;>rfl),m]
 refine I.write (x:=e) (e:=e) (by rw[h];trivial) (.inl rfl) (λi u s q=>(V1 _ _ (VB s)).trans q) ⟨_,g⟩ ?_;exact⟨n,j,o,r,g⟩
def Pr:V->V->V->Hp->(Hp->Prop)->Prop:=λo i v H Q=>∃p a k j,o=.ref p/\i=.int k/\H p=Z (.lst a)/\Ž a.length k=Z j/\Q (Û H p (.lst (a.set j v)))
def BY:RA a Pr:=by
 intro f' s A H o i v ov iv u Q I P ri E h;obtain⟨p,B,k,j,rfl,rfl,g,hj,q⟩:=h;cases P;obtain⟨t,rfl⟩:=ri;obtain⟨b,n,r,d,hz⟩:=I.lst g;obtain⟨c,h2,w,m⟩:=yi hj;have e:=r.length;have hn:=qL;have z:Ê a f' A (Û H p (.lst (B.set j v))) {s with heap:=s.heap.update p (TQ (·.setIfInBounds j u))}:=I.lstUpd g d (wJ b n j u) (r.set E j) (by rw[Uf];exact hz) s.toks;by_cases y:0<=k
 · have f:k.toNat=j:=by rw[ab7 y m]at c;exact Uk c
   exact PySem.W.ki_setAt d y (by omega) (by rw[I_,<-e];exact m) (by rw[f];exact⟨_,z,q⟩)
 · have f:(k+(b.toArray.size:Int)).toNat=j:=by rw[seqIndex_neg (by omega) w]at c;rw[I_,<-e];exact Uk c
   exact PySem.W.ki_setBack d (by omega) (by rw[I_,<-e];exact w) (by omega) (by rw[f];exact⟨_,z,q⟩)
def qQ(a b:Option Int)(n:Nat):(XR a b U n).1=((HT.sIx n 0 a:Nat):Int)/\(XR a b U n).2.1=((HT.sIx n n b:Nat):Int)/\(XR a b U n).2.2=1:=by
 refine⟨?_,?_,rfl⟩;·cases a with|none=>simp[XR,HT.sIx]|some i=>
  simp only[XR,HT.sIx,abZ,show(1:Int)>0 by decide,if_true];by_cases h:i<0;·simp only[h,if_true]<;>omega
  ·simp only[h,if_false]<;>omega
 ·cases b with|none=>simp[XR,HT.sIx]|some i=>
  simp only[XR,HT.sIx,abZ,show(1:Int)>0 by decide,if_true];by_cases h:i<0;·simp only[h,if_true]<;>omega
  ·simp only[h,if_false]<;>omega
def pb(a:List R)(b c:Option Int):slicePick a.toArray b c U=((a.drop (HT.sIx a.length 0 b)).take (HT.sIx a.length a.length c-HT.sIx a.length 0 b)).toArray:=by obtain⟨f,e,d⟩:=qQ b c a.toArray.size;unfold slicePick;rw[f,e,d];simp only[sliceRange_one,pick_run,I_]<;>rfl
def SN(K:d_):V->Option Int->Option Int->Hp->VK->Prop:=λx lo c H Q=>∃a b,x=.ref a/\ă K H a b/\∀p,H p=U->Q (.ref p) (Û H p (.lst (BX b lo c)))
def yk:ŭ a (SN a.K):=by intro A s p H x v w u lo f y Q I i n pl j h;obtain⟨c,d,rfl,m,q⟩:=h;cases i;obtain⟨o,r,g,k⟩:=I.list m;have e:=r.length;refine⟨"list",_,slot_list_getitem.lookup,g.isList.typeIs,?_⟩;refine wpAny_getItem_list_slice g.isList n pl j .none (by simp) ?_ (by rw[I_]<;>omega);rw[pb,<-e];refine⟨.ref s.heap.objs.size,_,I.laid (t':=s.toks) (o:=.lst (BX d lo f)) (λb z q=>i_ _ q) (o_ _) ?_,rfl,q _ (I.hok.fresh (o_ _))⟩;exact⟨TX (mx d lo f) k,_,0,(r.drop (HT.sIx d.length 0 lo)).take (HT.sIx d.length d.length f-HT.sIx d.length 0 lo),m_ _ rfl⟩
def jH:V->Bool|.non=>L|.bl _=>L|.int _=>L|.str _=>L|_=>D
def ŀ:V->V->Bool|.non,.non=>L|.bl a,.bl b=>a==b|.bl a,.int b=>(if a then 1 else 0)==b|.int a,.bl b=>a==(if b then 1 else 0)|.int a,.int b=>a==b|.str a,.str b=>a==b|_,_=>D
def KF{x:V}{v:R}(f:Ô υ ψ)(c:Ô x v)(h:jH υ=L)(g:jH x=L):SeqAt.EqAt s d ψ v (ŀ υ x):=by cases υ with
 |non=>cases f;cases x with|non=>cases c;exact SeqAt.EqAt.same _|bl b=>cases c;exact SeqAt.EqAt.none_bool b|int b=>obtain⟨t,rfl⟩:=c;exact SeqAt.EqAt.none_int b t|str b=>obtain⟨t,rfl⟩:=c;exact SeqAt.EqAt.none_str b t|_=>exact absurd (show D=L from g) D_
 |bl a=>cases f;cases x with|non=>cases c;exact SeqAt.EqAt.bool_none a|bl b=>cases c;exact aaD a b|int b=>obtain⟨t,rfl⟩:=c;exact SeqAt.EqAt.bool_int a b t|str b=>obtain⟨t,rfl⟩:=c;exact SeqAt.EqAt.bool_str a b t|_=>exact absurd (show D=L from g) D_
 |int a=>obtain⟨e,rfl⟩:=f;cases x with|non=>cases c;exact SeqAt.EqAt.int_none a e|bl b=>cases c;exact SeqAt.EqAt.int_bool a e b|int b=>obtain⟨t,rfl⟩:=c;exact SeqAt.EqAt.int_int a e b t|str b=>obtain⟨t,rfl⟩:=c;exact abk a e b t|_=>exact absurd (show D=L from g) D_
 |str a=>obtain⟨e,rfl⟩:=f;cases x with|non=>cases c;exact SeqAt.EqAt.str_none a e|bl b=>cases c;exact SeqAt.EqAt.str_bool a e b|int b=>obtain⟨t,rfl⟩:=c;exact abj a e b t|str b=>obtain⟨t,rfl⟩:=c;exact SeqAt.EqAt.str_str a e b t|_=>exact absurd (show D=L from g) D_
 |_=>exact absurd (show D=L from h) D_
def ĺ(x:V)(u:R):Bool:=match u with|.none=>ŀ .non x|.bool b=>ŀ (.bl b) x|.int i _=>ŀ (.int i) x|.str z _=>ŀ (.str z) x|_=>D
def ym{y:V}(r:Ô y ψ)(f:jH y=L):ĺ υ ψ=ŀ y υ:=by cases y with|non=>cases r;rfl|bl b=>cases r;rfl|int i=>obtain⟨t,rfl⟩:=r;rfl|str z=>obtain⟨t,rfl⟩:=r;rfl|_=>exact absurd (show D=L from f) D_
def my{x:V}:∀{a:List V}{b:List R},Ë a b->a.all jH=L->b.any (ĺ x)=a.any λy=>ŀ y x|_,_,.nil,_=>rfl|y::a,u::b,.cons r t,f=>by rw[VN,pi]at f;rw[Vw,Vw,ym r f.1,my t f.2]
def ji{A:x_}{s:ge}{x:V}{v:R}(d:Ô x v)(e:jH x=L):∀{b:List V}{c:List R},Ë b c->b.all jH=L->∀u∈c,SeqAt.EqAt A s u v (ĺ x u)
 |_,_,.nil,_=>λu a=>by cases a|y::b,u::c,.cons r t,f=>λg a=>by
  rw[VN,pi]at f;rcases v_.mp a with rfl|a;·rw[ym r f.1];exact KF r d f.1 e
  ·exact ji d e t f.2 g a
def inV(x:V)(a:List V):Bool:=a.any λy=>ŀ y x
def rIn(K:d_)(b:Bool):R2:=λx y H Q=>∃p a,y=.ref p/\(ă K H p a\/ð K H p a)/\jH x=L/\a.all jH=L/\Q (.bl (if b then !inV x a else inV x a)) H
def yn:û a (TZ .In) (rIn a.K D):=by
 intro m s j H x y v u Q I e g h;obtain⟨p,k,rfl,c,f,fs,q⟩:=h;cases g;rcases c with c|c;·obtain⟨b,r,pl,i⟩:=I.list c;refine SeqAt.in_listAt (ĺ x) pl.isList (λw d=>ji e f r fs w (by simpa using d)) ⟨.bl _,H,I,rfl,?_⟩;rw[show b.toArray.any (ĺ x)=b.any (ĺ x)by simp,my r fs];exact q
 ·obtain⟨b,r,pl,i⟩:=I.tuple c;refine SeqAt.in_tupleAt (ĺ x) pl (λw d=>ji e f r fs w (by simpa using d)) ⟨.bl _,H,I,rfl,?_⟩;rw[show b.toArray.any (ĺ x)=b.any (ĺ x)by simp,my r fs];exact q
def qR:û a (TZ .NotIn) (rIn a.K L):=by
 intro m s j H x y v u Q I e g h;obtain⟨p,k,rfl,c,f,fs,q⟩:=h;cases g;rcases c with c|c;·obtain⟨b,r,pl,i⟩:=I.list c;refine SeqAt.notIn_listAt (ĺ x) pl.isList (λw d=>ji e f r fs w (by simpa using d)) ⟨.bl _,H,I,rfl,?_⟩;rw[show b.toArray.any (ĺ x)=b.any (ĺ x)by simp,my r fs];exact q
 ·obtain⟨b,r,pl,i⟩:=I.tuple c;refine SeqAt.notIn_tupleAt (ĺ x) pl (λw d=>ji e f r fs w (by simpa using d)) ⟨.bl _,H,I,rfl,?_⟩;rw[show b.toArray.any (ĺ x)=b.any (ĺ x)by simp,my r fs];exact q
def op_notIn_str:û a (TZ .NotIn) (λx y H Q=>∃i j,x=.str i/\y=.str j/\Q (.bl (!(!(Um j i 0 j.length 1).isEmpty))) H):=by intro f s d H x y v u Q I c b h;obtain⟨i,j,rfl,rfl,q⟩:=h;obtain⟨t,rfl⟩:=c;obtain⟨e,rfl⟩:=b;exact notIn_str ⟨.bl _,H,I,rfl,q⟩
def õ.or{r f:List V->Hp->VK->Prop}(h:õ a ψ r)(i:õ a ψ f):õ a ψ (λb H Q=>r b H Q\/f b H Q):=by
 intro g s c H b d Q I e q;rcases q with q|q;·exact h g s c H b d Q I e q
 ·exact i g s c H b d Q I e q
def pc:õ a (.type "tuple") (λk H Q=>∃p d,k=[.ref p]/\((ă a.K H p d/\∀l,H l=U->Q (.ref l) (Û H l (.tup d)))\/(ð a.K H p d/\Q (.ref p) H))):=by
 intro n s j H k B Q I r h;obtain⟨p,d,rfl,h⟩:=h;obtain⟨u,rfl,y⟩:=fq r;cases y;rcases h with⟨i,q⟩|⟨i,q⟩
 ·obtain⟨c,g,pl,m⟩:=I.list i;have w:=g.length;refine call_tuple_list pl.isList (λf z=>?_) (by simp only[I_]<;>omega);have v:Ê a n j H {s with heap:=f}:=I.kept (t':=s.toks) z;have A:Ê a n j (Û H f.objs.size (.tup d)) {s with heap:=f.push {cls:=.type "tuple",data:=.seq c.toArray}}:=v.laid (t':=s.toks) (λb o e=>i_ _ e) (o_ _) (show â a.prog a.w _ _ _ (.tup d)from⟨m,c,g,acN _ _⟩);exact⟨.ref f.objs.size,_,A,rfl,q _ (v.hok.fresh (o_ _))⟩
 ·obtain⟨c,g,pl,m⟩:=I.tuple i;exact call_tuple_same pl ⟨.ref p,H,I,rfl,q⟩
def tyV(K:d_)(T:String)(x:V)(H:Hp):Prop:=match x with|.str _=>T="str"|.int _=>T="int"|.ref p=>(T="list"/\∃b,ă K H p b)\/(T="tuple"/\∃o,K.lookup p=Z o/\o.cls=.type "tuple"/\o.dict=U)\/(T="dict"/\((∃a,H p=Z (.dK a))\/∃a,H p=Z (.dT a)))\/(T="set"/\∃S n,H p=Z (.set S n))|_=>False
def KG{T:String}(I:Ê a δ Τ f d)(r:Ô υ ψ)(j:tyV a.K T υ f):d.TypeIs ψ T/\∀b,ψ=.ref b->∃s,d.heap.get? b=Z s/\s.dict=U:=by cases υ with
 |str z=>obtain⟨t,rfl⟩:=r;cases(show T="str"from j);exact⟨XE d z t,λ_ e=>nomatch e⟩|int i=>obtain⟨t,rfl⟩:=r;cases(show T="int"from j);exact⟨typeIs_int d i t,λ_ e=>nomatch e⟩|ref p=>
 cases r;rcases j with⟨rfl,y,u⟩|⟨rfl,o,g,v,k⟩|⟨rfl,g⟩|⟨rfl,S,n,g⟩;·obtain⟨w,_,pl,_⟩:=I.list u;refine⟨pl.isList.typeIs,λb e=>?_⟩;cases e;obtain⟨o,n,e,c,k,_⟩:=pl;exact⟨o,e,k⟩
 ·refine⟨⟨o,I.kIn p o g,v⟩,λb e=>?_⟩;cases e;exact⟨o,I.kIn _ o g,k⟩
 · have z:∃o,d.heap.get? p=Z o/\o.ExactDict:=by
    rcases g with⟨q,g⟩|⟨q,g⟩;·obtain⟨_,_,_,_,o,_,_,e,h,_⟩:=I.hok p _ g;exact⟨o,e,h⟩
    ·obtain⟨_,_,_,_,o,_,_,e,h,_⟩:=I.hok p _ g;exact⟨o,e,h⟩
   obtain⟨o,e,h⟩:=z;refine⟨⟨o,e,h.1⟩,λb m=>?_⟩;cases m;exact⟨o,e,h.2.1⟩
 ·obtain⟨o,_,_,_,e,h,_⟩:=I.hok p _ g;refine⟨⟨o,e,h.1⟩,λb m=>?_⟩;cases m;exact⟨o,e,h.2.1⟩|_=>exact UK j
def tBM(K:d_)(T:String)(r:V->List V->Hp->VK->Prop)(d:TE)(t:TA):TE:=λa H Q=>d a H λx b=>tyV K T x b/\t a b λc e=>r x c e Q
def BZ{t:TA}{T j:String}{r:V->List V->Hp->VK->Prop}(pa:PlainAttrs T)(f:Slot T c j)(o:aci (.builtin j)=pure (.type "method_descriptor"))(hm:Ŋ a j r)(ho:PE a g Φ)(ha:PA a (w::A) t)(e:UQ g c a.env (eval g a.env)=eval g a.env:=by rfl)(i:((TF z (k_ (w::A) a.env)).all (λx=>!x.1)&&(Va z (Us [] a.env)).all (λx=>x.1.isSome)&&uk ((w::A).length+([]:List V0).length+(if([]:List V0).isEmpty then 0 else 1)<30))=L:=by rfl)(d:(k.endLine==z.line)=L:=by rfl)(hs:k_ (w::A) a.env=(D,eval w a.env)::k_ A a.env:=by rfl)(b:(TF z (k_ A a.env)).any (·.1)=D:=by rfl):PE a (.Call (.Attribute g c k) (w::A) [] z) (tBM a.K T r Φ t):=by intro n s m H Q I h;refine wpAny_Call_method_late e i d rfl (á (ho n s m H _ I h) λv P⟨x,H1,q,p,B,q1⟩=>?_);obtain⟨h1,h2⟩:=KG q p B;refine⟨T,j,pa,f,o,h1,h2,?_⟩;have hA:=ha z n P m H1 _ q q1;rw[hs]at hA⊢;refine Yc (by show(D||(TF z (k_ A a.env)).any (·.1))=D;rw[b]<;>rfl) (aaK ?_);exact á hA λy E⟨u,H2,I2,r2,q2⟩=>hm n E m H2 x u v y Q I2 p r2 q2
def MtM(X:C)(e:String)(r:V->List V->Hp->VK->Prop):Prop:=∀(d:List (O×Obj))(s:ge)(a:St)(H:Hp)(x:V)(b:List V)(v:R)(c:List R)(Q:VK),Ê X d a H s->Ô x v->Ë b c->r x b H Q->q_ (w_ X.prog X.w) X.A (call (.builtin e) (v::c)) (EP X d a Q) X.xe s
def Ë.one:∀{x:V}{a:List R},Ë [x] a->∃u,a=[u]/\Ô x u|_,_,.cons r .nil=>⟨_,rfl,r⟩
def Ë.two:∀{x y:V}{a:List R},Ë [x,y] a->∃u v,a=[u,v]/\Ô x u/\Ô y v|_,_,_,.cons r (.cons q .nil)=>⟨_,_,rfl,r,q⟩
def Ê.lset{h:List V}{its':List R}{c:Array R->Array R}(I:Ê a δ Τ f d)(p:f e=Z (.lst ν))(g:d.heap.get? e=Z {cls:=.type "list",data:=.seq E.toArray b})(m:c E.toArray=its'.toArray)(j:Ë h its')(i:h.length<=sizeLine):Ê a δ Τ (Û f e (.lst h)) {d with heap:=d.heap.update e (TQ c),toks:=o}:=by have q:=abW g c;rw[m]at q;refine I.write (x:=e) (e:=e) (by rw[p];exact trivial) (.inl rfl) (λr u n k=>(V1 d.heap (TQ c) (VB n)).trans k) ⟨_,q⟩ ?_;exact⟨i,its',_,j,q⟩
def Ê.lnew{ys:List V}{its:List R}{t':Nat}(I:Ê a δ Τ f d)(c:Ë ys its)(b:ys.length<=sizeLine):Ê a δ Τ (Û f d.heap.objs.size (.lst ys)) {d with heap:=d.heap.push {cls:=.type "list",data:=.seq its.toArray},toks:=t'}:=I.laid (λ_ _ q=>i_ _ q) (o_ _) ⟨b,its,0,c,m_ _ rfl⟩
def Ê.fresh(I:Ê a δ Τ f d):f d.heap.objs.size=U:=I.hok.fresh (o_ _)
def Ê.lstM{l:O}{xs:List V}(I:Ê a δ Τ f d)(c:f l=Z (.lst xs)):xs.length<=sizeLine/\∃(b:List R)(n:Nat),Ë xs b/\xs.length=b.length/\d.heap.get? l=Z {cls:=.type "list",data:=.seq b.toArray n}:=by obtain⟨z,b,n,r,e⟩:=I.hok l _ c;exact⟨z,b,n,r,r.length,e⟩
def Gk:V->List V->Hp->VK->Prop:=λx b H Q=>∃l a y,x=.ref l/\b=[y]/\H l=Z (.lst a)/\a.length<sizeLine/\Q .non (Û H l (.lst (a++[y])))
def qS:MtM a "list.append" Gk:=by intro w s i H x k v m Q I d f h;obtain⟨l,j,y,rfl,rfl,c,o,q⟩:=h;cases d;obtain⟨u,rfl,g⟩:=f.one;obtain⟨z,b,n,r,p,e⟩:=I.lstM c;refine Yw W7 ⟨_,e,rfl⟩ aa3 (aaJ _ _) (abv l b.toArray n u (by rw[I_];omega)) ⟨e,?_⟩;refine⟨.non,_,I.lset (its':=b++[u]) c e (by simp) (r.append (.cons g .nil)) ?_,rfl,q⟩;rw[Uw,aat];omega
def RJ:R2:=λx y H Q=>∃l b c a,x=.ref l/\y=.ref b/\H l=Z (.lst c)/\H b=Z (.lst a)/\c.length+a.length<=sizeLine/\∀p,H p=U->Q (.ref p) (Û H p (.lst (c++a)))
def KH:û a (Wn .Add) RJ:=by
 intro f' s p H x y v u Q I g f h;obtain⟨l,b,B,w,rfl,rfl,j,hB,P,q⟩:=h;cases g;cases f;obtain⟨z,d,n,r,hl,e⟩:=I.lstM j;obtain⟨A,c,E,i,o,m⟩:=I.lstM hB;refine PySem.P.add_list e m ?_ (by rw[I_,I_];omega);have k:d.toArray++c.toArray=(d++c).toArray:=by simp
 rw[k];exact⟨.ref _,_,I.lnew (t':=s.toks) (r.append i) (by rw[Uw];omega),rfl,q _ I.fresh⟩
end L2
namespace Att
open PySem.W PySem.Calls
def mz{P:ŵ}:∀(c:List Int)(d:List R),WellAll P ε d (c.map WData.int)->aa0 d c:=by intro c;induction c with|nil=>intro d w;rw[YU]at w;cases w;exact .nil|cons n c e=>intro d w;rw[F_]at w;cases w with|cons a b=>cases a;exact .cons _ _ (e _ b)
def yo{l:OpenLaw}(w:l.most=Z b){P:ŵ}{h:O_}{args:List WData}{e:List R}(f:l.row.toRowW.claim.pre args=L)(m:WellAll P h e args):∃a n c,e=[z_ a]/\args=[WData.list (c.map WData.int)]/\h.get? a=Z {cls:=.type "list",data:=.seq n.toArray}/\aa0 n c/\c.length<=b:=by
 have ģ:WShape.hasAll [] args [.list .int]=L:=(pre_splitW f).1;have o:l.pre.holds [] {args:=args}=L:=(pre_splitW f).2;obtain⟨d,r,rfl,A,z⟩:=hasAllW_cons ģ;obtain rfl:=hasAllW_nil z;obtain⟨B,rfl,y⟩:=hasW_list A;obtain⟨c,rfl⟩:=items_int y;have g:c.length<=b:=by
  unfold OpenLaw.pre at o;have k:(WTm.not (.lt (.lit (.int (b:Int))) (.len (.arg 0)))).holds [] {args:=[.list (c.map .int)]}=L:=by have k:=(holds_andW o).1;rw[w]at k;exact k
  have j:=condW_of k (w_not (w_lt w_lit (w_len_list (w_arg rfl))));rw[N_]at j;refine Nat.le_of_not_lt λq=>?_;have u:(b:Int)<((c.length:Nat):Int):=by omega
  first|(rw[decide_eq_true u]at j;exact absurd j (by decide))|(simp at j;omega)
 cases m with|cons s p=>cases p;cases s with|list v i=>exact⟨_,_,c,rfl,rfl,v,mz c _ i,g⟩
def yp(l:OpenLaw)(args:List WData):l.row.toRowW.claim.post args (.bool L) args=L:=postW_of (r:=l.row.toRowW) (X:=(L==L)) (show WShape.has [] (.bool L) .bool=L by first|rfl|decide|simp[WShape.has,WShape.arms,WShape.armsAll]) (show(WTm.eq .res (.lit (.bool L))).value [] {args:=args,res:=Z (.bool L),after:=args}=Z (.bool (L==L))from w_eq_bool (w_res rfl) w_lit) rfl
def attach_call{l:OpenLaw}{XP:(Str->Option R)->O_->Prop}{YP:y_->O_->Prop}{d:DefRec}(hn:l.most=Z b)(P:d.params.defaults=[])(q:∀(w:y_)(e c:ge)(y B:Str->Option R)(j:O)(o:Obj)(A z g:R)(a:O)(i:List R)(v:List Int),Ground n u [] XP w e y B c.heap->YP w c.heap->c.heap.get? j=Z o->o.data=.func (docDef d.name d.params d.body d.scope A z g)->c.heap.CodeRec z d.name->y d.name=Z (.ref j)->c.heap.get? a=Z {cls:=.type "list",data:=.seq i.toArray}->aa0 i v->v.length<=b->c.gens=#[]->WH (w_ l.prog w) aaX (.call (.ref j) ⟨[.ref a],[]⟩) (λr s=>r=.ok (.ret (.bool L))/\OldK c.heap s.heap/\s.os=c.os/\Zk s.gens) c):WalkO n u XP YP l.row.toRowW d [] (λf i=>acp f i):=by intro w e c y B G Y j o A z g dV kV ho hd a' hD H hg d' b' as k c' e' E f';obtain rfl:dV=.none:=Dflts.none hD P;obtain rfl:kV=.none:=Dflts.noKw hD;obtain⟨a,i,v,rfl,rfl,m,h,p⟩:=yo hn k E;refine enter_call (VI (q w e c y B j o A z g a i v G Y ho (fd_plain hd) a' H m h p hg) λr s hq=>?_);obtain⟨rfl,h2,h3,h4⟩:=hq;exact⟨.inl ⟨.bool L,.bool L,[],rfl,λ_=>rfl,.bool L,yp l _,λ_=>⟨Zm,λ_ hm=>(nomatch hm)⟩⟩,h2,h3,h4⟩
def RK(h:O_)(b d:O):List (O×Obj):=(rl h.objs.size).filterMap λa=>if a=b\/a=d then U else(h.get? a).map λo=>(a,o)
end Att
namespace L2
def iI:∀{a:List R}{b:List Int},aa0 a b->Ë (b.map V.int) a|_,_,.nil=>.nil|_,_,.cons n t h=>.cons ⟨t,rfl⟩ (iI h)
def OM(H:Hp):Prop:=∀b,H b=U\/∃o a,H b=Z (.frz o (.lst a))
def B0{mb:Str->Option R}{CX:Ļ}{sp:Sp}{ns:List Int}(KX:v.In d.heap)(f':d.heap.Ns R_ Χ)(w:d.heap.Ns abh mb)(o':∀c:Str,c≠"__name__"->mb c=Vn c)(k':d.heap.NoLimit)(hg:d.gens=#[])(ha:d.heap.get? y=Z {cls:=.type "list",data:=.seq E.toArray})(hi:aa0 E ns)(hl:ns.length<=sizeLine)(hr:Ú b aaX)(F:∀B:O_,v.In B->B.Ns R_ Χ->î n j v Χ B CX b e Ä [c] sp)(b':∀(s:ge)(u:R),abH s Ä ⟨[u],[]⟩ [(c,u)])(n':∀H:Hp,OM H->ă v H y (ns.map V.int)->sp [.ref y] H (λi _=>i=.bl L) λ_ _ _=>False)(p':∀H f A,CX [] H d (λ_ _ _=>False) f A->False):WH (w_ n j) aaX (.call (.ref e) ⟨[.ref y],[]⟩) (λr A=>r=.ok (.ret (.bool L))/\OldK d.heap A.heap/\A.os=d.os/\Zk A.gens) d:=by
 have rv:=iI hi;have h':=hi.length;have a':∀H:Hp,OM H->ă v H y (ns.map V.int)->Č n j H d.heap->(∀a,H a≠U->a=y)->(H y≠U->v.lookup y=U)->WH (w_ n j) aaX (.call (.ref e) ⟨[.ref y],[]⟩) (λr A=>r=.ok (.ret (.bool L))/\OldK d.heap A.heap/\A.os=d.os/\Zk A.gens) d:=by
  intro H hO hS c' hA hK;have p:∀{a:O}{o:Obj},d.heap.get? a=Z o->H a=U->(BL d.heap H).get? a=Z o:=λf k=>BM f k;have m':∀{a:O}{o:Obj}{es:Array DictEntry}{ep:Nat},d.heap.get? a=Z o->o.data=.dict es ep->H a=U:=λ{a o es ep}f g=>by cases q:H a with|none=>rfl|some u=>have e':a=y:=hA a (by rw[q];simp);subst e';rw[ha]at f;cases f;have d':Data.seq E.toArray _=Wi es ep:=g;cases d'
  have P:∀{a:O}{m:Str->Option R},d.heap.Ns a m->(BL d.heap H).Ns a m:=λ{a m}⟨o,es,ep,f,g,r⟩=>⟨o,es,ep,p f (m' f g),g,r⟩;have g':v.In (BL d.heap H):=λa o f=>p (KX a o f) (by cases q:H a with|none=>rfl|some u=>have e':a=y:=hA a (by rw[q];simp);subst e';rw[hK (by rw[q];simp)]at f;cases f);have hM:Mod v Χ (BL d.heap H):=⟨g',P f',⟨mb,P w,o'⟩,let⟨mc,h1,h2⟩:=k';⟨mc,P h1,h2⟩⟩;have e0:Ŀ n j v Χ (BL d.heap H) aaX [] d H:=⟨rfl,hM,λa o f=>F3 f,Yh (xK _ _),trivial,λa w=>absurd (show a∈([]:List O)from w) (by simp),c',.of_eq hg⟩;refine VI ((F _ g' (P f')).run aaX [] d H ⟨[.ref y],[]⟩ [.ref y] [.ref y] _ _ hr e0 (b' d (.ref y)) (.cons rfl .nil) (n' H hO hS)) λr A h=>?_;cases r with|error f=>exact(p' H f A h).elim|ok fl=>cases fl with|next=>exact UK h|brk=>exact UK h|cont=>exact UK h|ret u=>obtain⟨i,H',os,l',un,i',r',q⟩:=h;have q':i=.bl L:=q;subst q';obtain rfl:u=H_ L:=r';refine⟨rfl,OldK.of_keep λa o f=>?_,os,l'⟩;cases q:H a with|none=>exact un.keep a o f q (by intro z;exact absurd (show a∈([]:List O)from z) (by simp)) (by simp)|some u=>
    rcases hO a with z|⟨ob,xs,z⟩;·rw[q]at z;cases z
    ·have z2:=un.frzs a ob _ z;obtain⟨e1,_⟩:=c' a _ z;obtain⟨e2,_⟩:=i' a _ z2;rw[f]at e1;cases e1;exact e2
 cases hk:v.lookup y with|some o=>have f:=KX y o hk;rw[ha]at f;cases f;refine a' (λ_=>U) (λ_=>.inl rfl) (.inr ⟨_,E.toArray,_,hk,rfl,rfl,rfl,by rw[I_,h'];exact hl,by simpa using rv⟩) (λa u z=>by have z':(U:Option HO)=Z u:=z;cases z') (λa z=>absurd rfl z) λz=>absurd rfl z|none=>
  refine a' (λa=>if a=y then Z (.frz {cls:=.type "list",data:=.seq E.toArray} (.lst (ns.map V.int)))else U) (λa=>?_) (.inl (.inr ⟨{cls:=.type "list",data:=.seq E.toArray},if_pos rfl⟩)) (λa u z=>?_) (λa z=>?_) λ_=>hk
  · by_cases w:a=y;·exact .inr ⟨_,_,if_pos w⟩
    ·exact .inl (if_neg w)
  · by_cases w:a=y;·have z':=(if_pos w).symm.trans z;cases z';subst w;exact⟨ha,by rw[N_];exact hl,E,_,rv,ha⟩
    ·have z':=(if_neg w).symm.trans z;cases z'
  · by_cases w:a=y;·exact w
    ·exact absurd (if_neg w) z
def walk_of{l:aag}{XP:(Str->Option R)->O_->Prop}{YP:y_->O_->Prop}{d:DefRec}{K:ŵ->d_}{CX:y_->Ļ}{sp:y_->Sp}(hn:l.most=Z b)(P:b<=sizeLine)(b':d.params.defaults=[])(hr:Ú o aaX)(hY:∀(w:y_)(h:O_),YP w h->(K w.params).In h)(F:∀(w:y_)(p:Str->Option R)(z:O)(h:O_),(K w.params).In h->h.Ns R_ p->p d.name=Z (.ref z)->∃B:UP,(∀(s:ge)(g:R),abH s B ⟨[g],[]⟩ [(c,g)])/\∀j:O_,(K w.params).In j->j.Ns R_ p->î l.prog w (K w.params) p j (CX w) o z B [c] (sp w))(E:∀(w:y_)(H:Hp)(a:O)(y:List Int),y.length<=b->OM H->ă (K w.params) H a (y.map V.int)->sp w [.ref a] H (λv _=>v=.bl L) λ_ _ _=>False)(c':∀(w:y_)(H:Hp)(s:ge)(e:R)(A:ge),CX w [] H s (λ_ _ _=>False) e A->False):acG n u XP YP l.row.toRowW d [] (λf vs=>acp f vs):=by refine Att.attach_call hn b' λw d' q p mb z i pm cd f' a vs y G Y ho hd e' a' r m k hg=>?_;have KX:=hY w _ Y;obtain⟨B,hb,hF⟩:=F w p z _ KX G.T.g a';exact B0 KX G.T.g G.T.b G.T.builtins G.T.nolimit hg r m (TX k P) hr hF hb (λH hO hS=>E w H a y k hO hS) λH e A=>c' w H q e A
def bf(s:UH)(j:Nat):UH:=match s with|.ClassDef _ _ _ a _ _ _ _ _ _ _=>a.getD j (.Pass ⟨0,0,0,0⟩)|_=>.Pass ⟨0,0,0,0⟩
def hU(s:UH):Arguments:=match s with|.FunctionDef _ a _ _ _ _ _ _ _ _=>a|_=>{posonlyargs:=[],args:=[],vararg:=U,kwonlyargs:=[],kw_defaults:=[],kwarg:=U,defaults:=[]}
def cr(s:UH):List UH:=match s with|.FunctionDef _ _ b _ _ _ _ _ _ _=>b|_=>[]
def aH(s:UH):VD:=match s with|.FunctionDef _ _ _ _ _ _ a _ _ _=>a|_=>{kind:=.function,names:=[],isGenerator:=D,isCoroutine:=D}
abbrev Ē:Ļ:=λ_ _ _ _ _ _=>False
abbrev E0:XK:=λ_ _ _=>False
def yq:mv Ē a E0:=λ_ _ _ _ _ _ _ h=>h.elim
structure ı(K:d_)(x qual:Str)(st:UH)(f:O)(fd:UP):Prop where
 ex:∃(oc:R)(od:Option O)(kV doc pm:R)(an:Option O)(cdv ct:R)(osl:Array (Option R)),fd=VJ x qual (hU st) (cr st) (aH st) .none kV doc pm an cdv ct/\K.lookup f=Z ⟨oc,od,.func fd,osl⟩/\X6 K cdv qual=L
 kp:Vl K (.ref f)=L
def ı.ok{k:List Str}{i:Sp}(F:ı v c m Η e Ä)(S:iH u k (aH Η))(o:∀f H Q E,i f H Q E->f.length=k.length)(g:∀(d:R)(A:x_)(a:List Env)(s:ge)(H:Hp)(f:List V)(Q:VK)(E:XK),Ú b (A.deeper (Xv m (aH Η) s.heap.objs.size e d))->i f H Q E->∃t,ĳ (uZ Ē n j v Χ ε u m (aH Η) e d A a s H E).nox (cr Η) t/\t {nx:=λ_ z=>Q .non z,rt:=Q} (start u f) H):î n j v Χ ε Ē (b+1) e Ä k i:=by obtain⟨oc,od,kV,P,pm,an,d,ct,B,rfl,w,r⟩:=F.ex;refine Gg w r S o λA a s H f Q E y p=>?_;obtain⟨t,h,q⟩:=g d A a s H f Q E y p;exact⟨t,h.nox,q⟩
def ı.binds(F:ı v c m Η e Ä)(h:∀(kV a f:R)(i:Option O)(b g:R)(d:List R),d.length=u.length->aby (VJ c m (hU Η) (cr Η) (aH Η) .none kV a f i b g) ⟨d,[]⟩=pure (u.zip d)):ñ v Ä u []:=by obtain⟨o,n,kV,a,f,i,b,g,j,rfl,p,k⟩:=F.ex;exact .all (h kV a f i b g)
def Es{n j:Option O}{f:Array (Option R)}{h d g b i:R}(l:v.lookup e=Z ⟨ψ,n,.func (VJ c m (hU Η) (cr Η) (aH Η) .none h d g j b i),f⟩)(a:X6 v b m=L)(k:Vl v (.ref e)=L):ı v c m Η e (VJ c m (hU Η) (cr Η) (aH Η) .none h d g j b i):=⟨⟨ψ,n,h,d,g,j,b,i,f,rfl,l,a⟩,k⟩
def Et{A B:Prop}(h:B):if D=L then A else B:=by rw[if_neg D_];exact h
def Eu{A B:Prop}(h:A):if L=L then A else B:=by rw[if_pos rfl];exact h
def Í(H a:Hp):Prop:=∀b o,H b=Z o->a b=Z o
def Í.refl(H:Hp):Í H H:=λ_ _ h=>h
def Í.trans{d:Hp}(a:Í f Α)(b:Í Α d):Í f d:=λc o h=>b c o (a c o h)
end L2
namespace FD
open L2
inductive N where|non|bl(b:Bool)|int(i:Int)|str(x:Str)|tup(xs:List N)|lst(xs:List N)|scr(ns:List Int)|exn(c:Nat)|obj(k:Nat)(xs:List N)
def ŋ:Nat->Str|0=>"Keeper"|_=>"Desk"
def ĉ:Nat->List Str|0=>["table","each","most","jar","latest"]|_=>["table","jar","done","undone"]
def KE:Nat->Str|0=>"NoName"|1=>"NoTable"|2=>"NoPath"|3=>"NoAsk"|4=>"NoNote"|5=>"NoJar"|6=>"NoNumber"|7=>"NoText"|8=>"NoStep"|_=>"JarError"
def ŷ(K:d_)(H:Hp)(a:O)(c:List V):Prop:=(∃o,H a=Z (.frz o (.lst c)))\/∃(o:Obj)(b:Array R)(n:Nat),K.lookup a=Z o/\o.cls=.type "list"/\o.dict=U/\o.data=.seq b n/\b.size<=sizeLine/\Ë c b.toList
def ŷ.l(h:ŷ v f e ν):ă v f e ν:=h.elim (λh=>.inl (.inr h)) .inr
mutual
def Ð(K:d_)(H:Hp):N->V->Prop|.non,v=>v=.non|.bl b,v=>v=.bl b|.int i,v=>v=.int i|.str x,v=>v=.str x|.tup e,v=>∃a g,v=.ref a/\H a=Z (.tup g)/\S K H e g|.lst e,v=>∃a g,v=.ref a/\H a=Z (.lst g)/\S K H e g|.scr j,v=>∃a,v=.ref a/\ŷ K H a (j.map V.int)|.exn c,v=>∃a o u C,v=.ref a/\H a=Z (.frz o u)/\o.cls=.ref C/\Vc K R_ (KE c)=Z (Z (.ref C))|.obj k e,v=>∃a C m f,v=.ref a/\H a=Z (.ins C m ((ĉ k).zip f))/\Vc K R_ (ŋ k)=Z (Z (.ref C))/\S K H e f/\e.length<=(ĉ k).length
def S(K:d_)(H:Hp):List N->List V->Prop|[],f=>f=[]|d::e,f=>∃v h,f=v::h/\Ð K H d v/\S K H e h
end
mutual
theorem Ð.mono{K:d_}{H j:Hp}(e:Í H j):∀(d:N)(v:V),Ð K H d v->Ð K j d v|.non,_,h=>h|.bl _,_,h=>h|.int _,_,h=>h|.str _,_,h=>h|.tup b,v,h=>by obtain⟨a,f,r,h,q⟩:∃a f,v=.ref a/\H a=Z (.tup f)/\S K H b f:=h;exact⟨a,f,r,e _ _ h,S.mono e b f q⟩|.lst b,v,h=>by obtain⟨a,f,r,h,q⟩:∃a f,v=.ref a/\H a=Z (.lst f)/\S K H b f:=h;exact⟨a,f,r,e _ _ h,S.mono e b f q⟩|.scr p,v,h=>by obtain⟨a,r,h⟩:∃a,v=.ref a/\ŷ K H a (p.map V.int):=h;exact⟨a,r,h.imp (λ⟨o,h⟩=>⟨o,e _ _ h⟩) id⟩|.exn c,v,h=>by obtain⟨a,o,u,C,r,h,q⟩:∃a o u C,v=.ref a/\H a=Z (.frz o u)/\o.cls=.ref C/\Vc K R_ (KE c)=Z (Z (.ref C)):=h;exact⟨a,o,u,C,r,e _ _ h,q⟩|.obj k b,v,h=>by obtain⟨a,C,m,g,r,h,n,q,l⟩:∃a C m g,v=.ref a/\H a=Z (.ins C m ((ĉ k).zip g))/\Vc K R_ (ŋ k)=Z (Z (.ref C))/\S K H b g/\b.length<=(ĉ k).length:=h;exact⟨a,C,m,g,r,e _ _ h,n,S.mono e b g q,l⟩theorem S.mono{K:d_}{H j:Hp}(e:Í H j):∀(b:List N)(g:List V),S K H b g->S K j b g|[],_,h=>h|d::b,g,h=>by obtain⟨v,i,r,h,q⟩:∃v i,g=v::i/\Ð K H d v/\S K H b i:=h;exact⟨v,i,r,Ð.mono e d v h,S.mono e b i q⟩end
def S.nil:S v f [] []:=rfl
def S.cons{K:d_}{H:Hp}{d b v a}(h:Ð K H d v)(t:S K H b a):S K H (d::b) (v::a):=⟨v,a,rfl,h,t⟩
def S.length{K:d_}{H:Hp}:∀{b:List N}{a:List V},S K H b a->a.length=b.length|[],a,h=>by cases(show a=[]from h);rfl|d::b,a,h=>by obtain⟨v,c,r,_,q⟩:∃v c,a=v::c/\Ð K H d v/\S K H b c:=h;subst r;show c.length+1=b.length+1;rw[S.length q]
def S.get{K:d_}{H:Hp}:∀{b:List N}{a:List V}{i:Nat}{v:V},S K H b a->a[i]?=Z v->∃d,b[i]?=Z d/\Ð K H d v|[],a,i,v,h,e=>by cases(show a=[]from h);simp at e|d::b,a,i,v,h,e=>by obtain⟨m,c,r,g,q⟩:∃v c,a=v::c/\Ð K H d v/\S K H b c:=h;subst r;cases i with|zero=>simp at e;subst e;exact⟨d,rfl,g⟩|succ i=>obtain⟨k,j,f⟩:=S.get (i:=i) q (by simpa using e);exact⟨k,by simpa using j,f⟩
def S.get'{K:d_}{H:Hp}:∀{b:List N}{a:List V}{i:Nat}{d:N},S K H b a->b[i]?=Z d->∃v,a[i]?=Z v/\Ð K H d v|[],a,i,v,h,e=>by simp at e|d::b,a,i,n,h,e=>by obtain⟨f,c,r,j,q⟩:∃v c,a=v::c/\Ð K H d v/\S K H b c:=h;subst r;cases i with|zero=>simp at e;subst e;exact⟨f,rfl,j⟩|succ i=>obtain⟨m,k,g⟩:=S.get' (i:=i) q (by simpa using e);exact⟨m,by simpa using k,g⟩
def S.append{K:d_}{H:Hp}:∀{e c:List N}{b a:List V},S K H e b->S K H c a->S K H (e++c) (b++a)|[],c,b,a,h,q=>by cases(show b=[]from h);exact q|d::e,c,b,a,h,q=>by obtain⟨g,f,r,i,t⟩:∃v a,b=v::a/\Ð K H d v/\S K H e a:=h;subst r;exact⟨g,f++a,rfl,i,S.append t q⟩
def S.take{K:d_}{H:Hp}:∀{b:List N}{a:List V}(n:Nat),S K H b a->S K H (b.take n) (a.take n)|b,a,0,_=>by simp[S]|[],a,n+1,h=>by cases(show a=[]from h);exact rfl|d::b,a,n+1,h=>by obtain⟨f,c,r,g,t⟩:∃v e,a=v::e/\Ð K H d v/\S K H b e:=h;subst r;exact⟨f,c.take n,rfl,g,S.take n t⟩
def S.drop{K:d_}{H:Hp}:∀{b:List N}{a:List V}(n:Nat),S K H b a->S K H (b.drop n) (a.drop n)|b,a,0,h=>h|[],a,n+1,h=>by cases(show a=[]from h);exact rfl|d::b,a,n+1,h=>by obtain⟨f,e,r,g,t⟩:∃v c,a=v::c/\Ð K H d v/\S K H b c:=h;subst r;exact S.drop n t
variable{r:List N}
def Ð.lstE(h:Ð v f (.lst r) υ):∃a b,υ=.ref a/\f a=Z (.lst b)/\S v f r b:=h
def Ð.tupE(h:Ð v f (.tup r) υ):∃a b,υ=.ref a/\f a=Z (.tup b)/\S v f r b:=h
def Ð.exnE(h:Ð v f (.exn b) υ):∃a o u C,υ=.ref a/\f a=Z (.frz o u)/\o.cls=.ref C/\Vc v R_ (KE b)=Z (Z (.ref C)):=h
def Ð.objE(h:Ð v f (.obj b r) υ):∃a C d c,υ=.ref a/\f a=Z (.ins C d ((ĉ b).zip c))/\Vc v R_ (ŋ b)=Z (Z (.ref C))/\S v f r c/\r.length<=(ĉ b).length:=h
def Ð.scrE{b:List Int}(h:Ð v f (.scr b) υ):∃a,υ=.ref a/\ă v f a (b.map V.int):=let⟨a,r,h⟩:∃a,υ=.ref a/\ŷ v f a (b.map V.int):=h;⟨a,r,h.l⟩
def aC(h:f e=U)(o:HO):Í f (Û f e o):=λb u q=>by rw[aB (aE q h)];exact q
abbrev Ev:=List (Option N)
structure Ø(K:d_)(H:Hp)(σ:L2.St)(ρ:Ev):Prop where
 len:σ.length=ρ.length
 at':∀(i:Nat)(d:N),ρ[i]?=Z (Z d)->∃v,σ[i]?=Z (Z v)/\Ð K H d v
variable{Ν:L2.St}{ζ:Ev}
def Ø.mono(E:Ø v f Ν ζ)(e:Í f Α):Ø v Α Ν ζ:=⟨E.len,λi d h=>let⟨a,c,b⟩:=E.at' i d h;⟨a,c,Ð.mono e d a b⟩⟩
variable{i:N}
def Ø.set(E:Ø v f Ν ζ)(r:Ð v f i υ):Ø v f (Ν.set b (Z υ)) (ζ.set b (Z i)):=by
 refine⟨by rw[Uf,Uf];exact E.len,λj d h=>?_⟩;by_cases a:b=j
 · subst a;by_cases c:b<ζ.length;·rw[K_ c]at h;cases h;exact⟨υ,by rw[K_ (by rw[E.len];exact c)],r⟩
   ·rw[Uo (by rw[Uf];omega)]at h;cases h
 ·rw[E_ a]at h;rw[E_ a];exact E.at' j d h
def fgt(b:List Nat)(a:Ev):Ev:=b.foldl (λr j=>r.set j U) a
def Ø.fgt1(j:Nat)(E:Ø v f Ν ζ):Ø v f Ν (ζ.set j U):=by
 refine⟨by rw[Uf];exact E.len,λi d h=>?_⟩;by_cases a:j=i
 · subst a;by_cases b:j<ζ.length;·rw[K_ b]at h;cases h
   ·rw[Uo (by rw[Uf];omega)]at h;cases h
 ·rw[E_ a]at h;exact E.at' i d h
def Ø.fgt{K:d_}{H:Hp}{b:L2.St}:∀(a:List Nat){c:Ev},Ø K H b c->Ø K H b (fgt a c)|[],_,E=>E|j::a,_,E=>Ø.fgt a (E.fgt1 j)
inductive Rs(α:Type)where|ok(a:α)|exc(c:Nat)
abbrev Ó:=List N->Option (Rs N)
inductive Fl where|nx(ρ:Ev)|rt(d:N)|exc(c:Nat)
def Fly(N:O->Prop)(H:Hp)(e:O)(c:R)(h:O_):Prop:=H e=U/\N e/\∃b a g,h.get? e=Z b/\b.cls=c/\b.data=.fields a/\a[0]?=Z g/\(a[1]?=Z .none\/∃T f d,a[1]?=Z (.ref T)/\T≠e/\H T=U/\N T/\h.get? T=Z f/\f.data=.fields d/\d[3]?=Z .none)
def SO(X:C)(a:O):Prop:=X.s₀.heap.get? a=U/\∀p∈X.pn,p.1≠a
def KI(X:C)(H:Hp)(c:Nat)(e:R)(s:ge):Prop:=∃a b,e=.ref a/\Vc X.K R_ (KE c)=Z (Z (.ref b))/\Fly (SO X) H a (.ref b) s.heap
def XW(X:C)(c:Nat)(H:Hp):Prop:=∀d b a s e,Í H a->Ê X d b a s->KI X a c e s->X.xe e s
def XW.mono(h:XW a b f)(e:Í f Α):XW a b Α:=λd c i s x g I q=>h d c i s x (e.trans g) I q
def ê(X:C)(H:Hp)(o:Option (Rs N))(Q:VK):Prop:=match o with|none=>False|some (.exc c)=>XW X c H|some (.ok d)=>∀v a,Í H a->Ð X.K a d v->Q v a
def ý(X:C)(H:Hp)(o:Option (Rs Bool))(Q:Bool->Hp->Prop):Prop:=match o with|none=>False|some (.exc c)=>XW X c H|some (.ok d)=>∀a,Í H a->Q d a
def ç(X:C)(H:Hp)(o:Option (Rs (List N)))(Q:List V->Hp->Prop):Prop:=match o with|none=>False|some (.exc c)=>XW X c H|some (.ok d)=>∀b a,Í H a->S X.K a d b->Q b a
def ó(X:C)(H:Hp)(o:Option Fl)(a:uV):Prop:=match o with|none=>False|some (.exc c)=>XW X c H|some (.rt d)=>∀v b,Í H b->Ð X.K b d v->a.rt v b|some (.nx f)=>∀e b,Í H b->Ø X.K b e f->a.nx e b
def Ö{b:Type}(o:Option (Rs P))(k:P->Option (Rs b)):Option (Rs b):=match o with|none=>U|some (.exc c)=>Z (.exc c)|some (.ok a)=>k a
def cH(o:Option (Rs P))(k:P->Option Fl):Option Fl:=match o with|none=>U|some (.exc c)=>Z (.exc c)|some (.ok a)=>k a
def sq(o:Option Fl)(k:Ev->Option Fl):Option Fl:=match o with|some (.nx a)=>k a|o=>o
def ê.mono(e:Í f Α):∀{o:Option (Rs N)},ê a f o Æ->ê a Α o Æ|none,h=>h|some (.exc _),h=>XW.mono h e|some (.ok _),h=>λv c b r=>h v c (e.trans b) r
def ý.mono{b:Bool->Hp->Prop}(e:Í f Α):∀{o:Option (Rs Bool)},ý a f o b->ý a Α o b|none,h=>h|some (.exc _),h=>XW.mono h e|some (.ok _),h=>λd c=>h d (e.trans c)
def ç.mono{b:List V->Hp->Prop}(e:Í f Α):∀{o:Option (Rs (List N))},ç a f o b->ç a Α o b|none,h=>h|some (.exc _),h=>XW.mono h e|some (.ok _),h=>λv d c r=>h v d (e.trans c) r
def ó.mono{b:uV}(e:Í f Α):∀{o:Option Fl},ó a f o b->ó a Α o b|none,h=>h|some (.exc _),h=>XW.mono h e|some (.rt _),h=>λv d c r=>h v d (e.trans c) r|some (.nx _),h=>λv d c r=>h v d (e.trans c) r
def ê.bind{o:Option (Rs N)}{k:N->Option (Rs N)}{P:VK}(h:ê a f (Ö o k) Æ)(c:∀d v b,Í f b->Ð a.K b d v->ê a b (k d) Æ->P v b):ê a f o P:=by match o,h with|some (.exc _),h=>exact h|some (.ok d),h=>exactλv g e r=>c d v g e r (ê.mono e h)
def ê.bindB{c:Bool->Hp->Prop}{o:Option (Rs N)}{k:N->Option (Rs Bool)}(h:ý a f (Ö o k) c)(g:∀d v b,Í f b->Ð a.K b d v->ý a b (k d) c->Æ v b):ê a f o Æ:=by match o,h with|some (.exc _),h=>exact h|some (.ok d),h=>exactλv i e r=>g d v i e r (ý.mono e h)
def ê.bindA{c:List V->Hp->Prop}{o:Option (Rs N)}{k:N->Option (Rs (List N))}(h:ç a f (Ö o k) c)(g:∀d v b,Í f b->Ð a.K b d v->ç a b (k d) c->Æ v b):ê a f o Æ:=by match o,h with|some (.exc _),h=>exact h|some (.ok d),h=>exactλv i e r=>g d v i e r (ç.mono e h)
def ê.bindS{b:uV}{o:Option (Rs N)}{k:N->Option Fl}(h:ó a f (cH o k) b)(g:∀d v c,Í f c->Ð a.K c d v->ó a c (k d) b->Æ v c):ê a f o Æ:=by match o,h with|some (.exc _),h=>exact h|some (.ok d),h=>exactλv i e r=>g d v i e r (ó.mono e h)
def ý.bind{o:Option (Rs Bool)}{k:Bool->Option (Rs N)}{P:Bool->Hp->Prop}(h:ê a f (Ö o k) Æ)(g:∀b c,Í f c->ê a c (k b) Æ->P b c):ý a f o P:=by match o,h with|some (.exc _),h=>exact h|some (.ok d),h=>exactλi e=>g d i e (ê.mono e h)
def ý.bindB{g:Bool->Hp->Prop}{o:Option (Rs Bool)}{k:Bool->Option (Rs Bool)}{P:Bool->Hp->Prop}(h:ý a f (Ö o k) g)(i:∀b c,Í f c->ý a c (k b) g->P b c):ý a f o P:=by match o,h with|some (.exc _),h=>exact h|some (.ok d),h=>exactλj e=>i d j e (ý.mono e h)
def ý.bindS{c:uV}{o:Option (Rs Bool)}{k:Bool->Option Fl}{P:Bool->Hp->Prop}(h:ó a f (cH o k) c)(i:∀b g,Í f g->ó a g (k b) c->P b g):ý a f o P:=by match o,h with|some (.exc _),h=>exact h|some (.ok d),h=>exactλj e=>i d j e (ó.mono e h)
variable{Â:Ó}
def ç.bind{o:Option (Rs (List N))}{P:List V->Hp->Prop}(h:ê a f (Ö o Â) Æ)(i:∀g c b,Í f b->S a.K b g c->ê a b (Â g) Æ->P c b):ç a f o P:=by match o,h with|some (.exc _),h=>exact h|some (.ok d),h=>exactλv j e r=>i d v j e r (ê.mono e h)
def ç.bindA{i:List V->Hp->Prop}{o:Option (Rs (List N))}{k:List N->Option (Rs (List N))}{P:List V->Hp->Prop}(h:ç a f (Ö o k) i)(j:∀g c b,Í f b->S a.K b g c->ç a b (k g) i->P c b):ç a f o P:=by match o,h with|some (.exc _),h=>exact h|some (.ok d),h=>exactλv m e r=>j d v m e r (ç.mono e h)
abbrev Ò:=Ev->Option (Rs N)
abbrev å:=Ev->Option (Rs Bool)
abbrev Þ:=Ev->Option (Rs (List N))
abbrev Õ:=Ev->Option Fl
abbrev é:Õ:=λa=>Z (.nx a)
def tF(X:C)(f:Ò):TE:=λb H Q=>∃a,Ø X.K H b a/\ê X H (f a) Q
def tT(X:C)(f:å):TT:=λb H Q=>∃a,Ø X.K H b a/\ý X H (f a) Q
def tA(X:C)(f:Þ):TA:=λb H Q=>∃a,Ø X.K H b a/\ç X H (f a) Q
def tS(X:C)(f:Õ):TS:=λa c H=>∃b,Ø X.K H c b/\ó X H (f b) a
structure FE(X:C)(e:u_)(f:Ò):Prop where h:PE X e (tF X f)
structure FT(X:C)(e:u_)(f:å):Prop where h:PT X e (tT X f)
structure FW(X:C)(e:u_)(f:å):Prop where h:PW X e (tT X f)
structure FA(X:C)(es:List u_)(f:Þ):Prop where h:PA X es (tA X f)
structure FS(X:C)(st:UH)(f:Õ):Prop where h:PS X st (tS X f)
structure Ģ(X:C)(st:List UH)(f:Õ):Prop where h:ĳ X st (tS X f)
variable{B:Ò}
def dv(h:PE a g Φ)(w:∀b H Q c,Ø a.K H b c->ê a H (B c) Q->Φ b H Q):FE a g B:=⟨λd s b H Q I⟨c,E,o⟩=>h d s b H Q I (w b H Q c E o)⟩
variable{Ο:å}
def Gm{t:TT}(h:PT a g t)(w:∀b H Q c,Ø a.K H b c->ý a H (Ο c) Q->t b H Q):FT a g Ο:=⟨λd s b H Q I⟨c,E,o⟩=>h d s b H Q I (w b H Q c E o)⟩
def KJ{t:TT}(h:PW a g t)(w:∀b H Q c,Ø a.K H b c->ý a H (Ο c) Q->t b H Q):FW a g Ο:=⟨λd e s b H Q I⟨c,E,o⟩=>h d e s b H Q I (w b H Q c E o)⟩
variable{Υ:Õ}
def qT{t:TS}(h:PS a Η t)(w:∀b c H d,Ø a.K H c d->ó a H (Υ d) b->t b c H):FS a Η Υ:=⟨λe s c H b I⟨d,E,o⟩=>h e s c H b I (w b c H d E o)⟩
def Ew{t:TS}(h:ĳ a Ψ t)(w:∀b c H d,Ø a.K H c d->ó a H (Υ d) b->t b c H):Ģ a Ψ Υ:=⟨λe s c H b I⟨d,E,o⟩=>h e s c H b I (w b c H d E o)⟩
def FW.ft(h:FW a g Ο):FT a g Ο:=⟨h.h _⟩
def Y(i:Nat):Ò:=λa=>match a[i]? with|some (Z d)=>Z (.ok d)|_=>U
def fC(d:N):Ò:=λ_=>Z (.ok d)
def KL(i:Nat)(h:PE a g (xM i)):FE a g (Y i):=dv h λf H Q j E o=>by
 unfold Y at o;split at o;·rename_i d b;obtain⟨v,e,c⟩:=E.at' i d b;exact⟨v,e,o v H (.refl H) c⟩
 ·exact o.elim
def ī(h:a.env.kindOf c=Z .globalImplicit):Gl a c:=h
def Ps(i:Nat){x:Str}(e:a.N[i]?=Z x:=by lk)(c:a.env.scope.names.lookup x=Z .local:=by lk)(d:(x==("__debug__":Str))=D:=by lk)(b:(x==("__classdict__":Str))=D:=by lk):FE a (.Name x k) (Y i):=KL i (xN e (.inl c) d b)
def Pu(i:Nat){x:Str}(e:a.N[i]?=Z x:=by lk)(c:a.env.scope.names.lookup x=Z .cell:=by lk)(d:(x==("__debug__":Str))=D:=by lk)(b:(x==("__classdict__":Str))=D:=by lk):FE a (.Name x k) (Y i):=KL i (xN e (.inr (.inl c)) d b)
def JI(h:PE a g (tC υ))(r:∀K H,Ð K H i υ):FE a g (fC i):=dv h λ_ H _ _ _ o=>o υ H (.refl H) (r a.K H)
def KM{i j}:FE a (.Constant (.int i) j k) (fC (.int i)):=JI Ke λ_ _=>rfl
def Pv{b j}:FE a (.Constant (.bool b) j k) (fC (.bl b)):=JI O5 λ_ _=>rfl
def KN{j}:FE a (.Constant .none j k) (fC .non):=JI Kf λ_ _=>rfl
def KO{x j}:FE a (.Constant (.str x) j k) (fC (.str x)):=JI Kg λ_ _=>rfl
def Go{t:Tok}(d:Gl a c)(b:a.mg c=Z (.int p t))(e:(c==("__debug__":Str))=D:=by lk):FE a (.Name c k) (fC (.int p)):=JI (xO (υ:=.int p) d b ⟨t,rfl⟩ e) λ_ _=>rfl
def Gp{t:Tok}(d:Gl a c)(b:a.mg c=Z (.str m t))(e:(c==("__debug__":Str))=D:=by lk):FE a (.Name c k) (fC (.str m)):=JI (xO (υ:=.str m) d b ⟨t,rfl⟩ e) λ_ _=>rfl
def I(g:N->N->Option (Rs N))(c b:Ò):Ò:=λa=>Ö (c a) λx=>Ö (b a) λy=>g x y
def Ĕ(X:C)(r:R2)(g:N->N->Option (Rs N)):Prop:=∀b a x y H Q,Ð X.K H b x->Ð X.K H a y->ê X H (g b a) Q->r x y H Q
variable{Ç:Ò}
def two{r:R2}{g:N->N->Option (Rs N)}(j:Ĕ a r g){c:L2.St}{H:Hp}{Q:VK}{b:Ev}(E:Ø a.K H c b)(o:ê a H (I g B Ç b) Q):ż r (tF a B) (tF a Ç) c H Q:=⟨b,E,ê.bind o λd x q m f i=>⟨b,E.mono m,ê.bind i λn y p k e h=>j d n x y p Q (Ð.mono k d x f) e h⟩⟩
def wK{c:Operator}{r:R2}{b:N->N->Option (Rs N)}(d:û a (Wn c) r)(e:Ĕ a r b)(h:FE a g B)(f:FE a w Ç):FE a (.BinOp g c w k) (I b B Ç):=dv (Ph d h.h f.h) λ_ _ _ _ E o=>two e E o
def ls{c:ź}{r:R2}{b:N->N->Option (Rs N)}(d:û a (TZ c) r)(f:Ĕ a r b)(i:FE a g B)(h:FE a w Ç)(e:Q_ c w=D):FE a (.Compare g [c] [w] k) (I b B Ç):=dv (xY d i.h h.h e) λ_ _ _ _ E o=>two f E o
def ā:N->Option (Rs Bool)|.bl b=>Z (.ok b)|_=>U
def fB(f:Ò):å:=λa=>Ö (f a) ā
def u4{c:Bool->Hp->Prop}(r:Ð a.K f i υ)(o:ý a f (ā i) c):∃k,υ=.bl k/\c k f:=by cases i with|bl b=>exact⟨b,r,o f (.refl f)⟩|_=>exact o.elim
def jz{c:ź}{r:R2}{b:N->N->Option (Rs N)}(i:û a (TZ c) r)(m:Ĕ a r b)(p:FE a g B)(n:FE a w Ç)(j:Q_ c w=D):FT a (.Compare g [c] [w] k) (fB (I b B Ç)):=Gm (tJ i p.h n.h j) λf H Q q E o=>by show ż r (tF a B) (tF a Ç) f H _;refine two m E ?_;exact ê.bindB o λd v s e r h=>u4 r h
def KP(h:FE a g B)(f:∀Ü,isTrue g a.env Ü=(do let v<-Ü;aaV g.pos;Xk [v] (truthy v)):=by intro _;lk):FT a g (fB B):=Gm (Kh h.h f) λi H Q b E o=>⟨b,E,ê.bindB o λd v j e r c=>u4 r c⟩
def mB(f g:å):å:=λa=>Ö (f a) λk=>if k then g a else Z (.ok D)
def Ċ(f g:å):å:=λa=>Ö (f a) λk=>if k then Z (.ok L)else g a
def cx(f:å):å:=λa=>Ö (f a) λk=>Z (.ok (!k))
def Gq(b:FT a g Ο):FW a (.BoolOp .And [g] k) Ο:=⟨F6 b.h⟩
def KQ(b:FT a g Ο):FW a (.BoolOp .Or [g] k) Ο:=⟨Ki b.h⟩
def Ex{f:å}(j:FT a g Ο)(i:FW a (.BoolOp .And (w::A) k) f):FW a (.BoolOp .And (g::w::A) k) (mB Ο f):=KJ (Kj j.h i.h) λm H Q c E o=>⟨c,E,ý.bindB o λb h e d=>by cases b with|true=>exact Eu ⟨c,E.mono e,d⟩|false=>exact Et (d h (.refl h))⟩
def KR{f:å}(j:FT a g Ο)(i:FW a (.BoolOp .Or (w::A) k) f):FW a (.BoolOp .Or (g::w::A) k) (Ċ Ο f):=KJ (O6 j.h i.h) λm H Q c E o=>⟨c,E,ý.bindB o λb h e d=>by cases b with|true=>exact Eu (d h (.refl h))|false=>exact Et ⟨c,E.mono e,d⟩⟩
def KS(h:FT a g Ο):FT a (.UnaryOp .Not g k) (cx Ο):=Gm (Kk h.h) λi H Q d E o=>⟨d,E,ý.bindB o λb c e f=>f c (.refl c)⟩
def kG(f g:Ò):Ò:=λa=>Ö (f a) λx=>Ö (ā x) λk=>if k then g a else Z (.ok (.bl D))
def Ĩ(f g:Ò):Ò:=λa=>Ö (f a) λx=>Ö (ā x) λk=>if k then Z (.ok (.bl L))else g a
def ON(f:Ò):Ò:=λa=>Ö (f a) λx=>Ö (ā x) λk=>Z (.ok (.bl (!k)))
def tL{k:Bool->Option (Rs N)}(r:Ð a.K f i υ)(o:ê a f (Ö (ā i) k) Æ):∃b,υ=.bl b/\ê a f (k b) Æ:=by cases i with|bl b=>exact⟨b,r,o⟩|_=>exact o.elim
def KU{b}(c:FE a g B):FE a (.BoolOp b [g] k) B:=⟨Ek c.h⟩
def KW(m:FE a g B)(j:FE a (.BoolOp .And (w::A) k) Ç):FE a (.BoolOp .And (g::w::A) k) (kG B Ç):=dv (El m.h j.h) λn H Q c E o=>⟨c,E,ê.bind o λd v h e r i=>by obtain⟨b,rfl,f⟩:=tL r i;refine⟨b,rfl,?_⟩;cases b with|true=>exact Eu ⟨c,E.mono e,f⟩|false=>exact Et (f (.bl D) h (.refl h) rfl)⟩
def Pw(m:FE a g B)(j:FE a (.BoolOp .Or (w::A) k) Ç):FE a (.BoolOp .Or (g::w::A) k) (Ĩ B Ç):=dv (O9 m.h j.h) λn H Q c E o=>⟨c,E,ê.bind o λd v h e r i=>by obtain⟨b,rfl,f⟩:=tL r i;refine⟨b,rfl,?_⟩;cases b with|true=>exact Eu (f (.bl L) h (.refl h) rfl)|false=>exact Et ⟨c,E.mono e,f⟩⟩
def KY(j:FE a g B):FE a (.UnaryOp .Not g k) (ON B):=dv (Kl j.h) λm H Q f E o=>⟨f,E,ê.bind o λd v c e r i=>by obtain⟨b,rfl,h⟩:=tL r i;exact⟨b,rfl,h (.bl (!b)) c (.refl c) rfl⟩⟩
def ķ(c:å)(f g:Ò):Ò:=λa=>Ö (c a) λk=>if k then f a else g a
def Px{c:u_}(h:FT a c Ο)(j:FE a g B)(i:FE a w Ç):FE a (.IfExp c g w k) (ķ Ο B Ç):=dv (BN h.h j.h i.h) λm H Q d E o=>⟨d,E,ý.bind o λb n e f=>by cases b with|true=>exact Eu ⟨d,E.mono e,f⟩|false=>exact Et ⟨d,E.mono e,f⟩⟩
def eZ:Þ:=λ_=>Z (.ok [])
def aR(f:Ò)(g:Þ):Þ:=λa=>Ö (f a) λx=>Ö (g a) λb=>Z (.ok (x::b))
abbrev ao(f:Ò):Þ:=aR f eZ
abbrev bJ(f g:Ò):Þ:=aR f (ao g)
abbrev dU(f g h:Ò):Þ:=aR f (bJ g h)
abbrev qU(f g h k:Ò):Þ:=aR f (dU g h k)
abbrev qG(f g h k l:Ò):Þ:=aR f (qU g h k l)
abbrev wL(f g h k l m:Ò):Þ:=aR f (qG g h k l m)
abbrev X(i:Int):Ò:=fC (.int i)
abbrev Ï(x:Str):Ò:=fC (.str x)
variable{ξ:Þ}
def KZ{t:TA}(h:PA a A t)(w:∀b H Q c,Ø a.K H b c->ç a H (ξ c) Q->t b H Q):FA a A ξ:=⟨λpos d s b H Q I⟨c,E,o⟩=>h pos d s b H Q I (w b H Q c E o)⟩
def Ey:FA a [] eZ:=KZ uY λ_ H _ _ _ o=>o [] H (.refl H) rfl
def yr(m:FE a g B)(k:FA a A ξ)(j:k_ (g::A) a.env=(D,eval g a.env)::k_ A a.env:=by lk):FA a (g::A) (aR B ξ):=KZ (kJ m.h k.h j) λp H Q b E o=>⟨b,E,ê.bindA o λd v s g r i=>⟨b,E.mono g,ç.bindA i λq c e n f h=>h (v::c) e (.refl e) ⟨v,c,rfl,Ð.mono n d v r,f⟩⟩⟩
def ju(g:Þ):Ò:=λb=>Ö (g b) λa=>if a.length<=100000 then Z (.ok (.lst a))else U
def iC(g:Þ):Ò:=λb=>Ö (g b) λa=>if a.length<=100000 then Z (.ok (.tup a))else U
def bX(h:b<=100000):b<=sizeLine:=TX h (by rw[Xd];decide)
def K0(h:FA a A ξ):FE a (.List A k) (ju ξ):=dv (yd h.h) λj H Q f E o=>⟨f,E,ç.bind o λm g n e c b=>by
 split at b;·rename_i i;refine⟨by rw[c.length];exact bX i,λp d=>b (.ref p) _ (aC d _) ⟨p,g,rfl,au,S.mono (aC d _) _ _ c⟩⟩
 ·exact b.elim⟩
def K1{b}(h:FA a A ξ):FE a (.Tuple A b k) (iC ξ):=dv (Kw h.h) λm H Q g E o=>⟨g,E,ç.bind o λn i q e d c=>by
 split at c;·rename_i j;refine⟨by rw[d.length];exact bX j,λp f=>c (.ref p) _ (aC f _) ⟨p,i,rfl,au,S.mono (aC f _) _ _ d⟩⟩
 ·exact c.elim⟩
def Gr:Ģ a [] (λc=>Z (.nx c)):=Ew tz λb d H c E o=>o d H (.refl H) E
def aJ(f g:Õ):Õ:=λa=>sq (f a) g
def B5{g:Õ}(k:FS a Η Υ)(j:Ģ a Ψ g):Ģ a (Η::Ψ) (aJ Υ g):=Ew (gh k.h j.h) λb p H i E o=>⟨i,E,by unfold aJ at o;match f:Υ i with|none=>rw[f]at o;exact o.elim|some (.exc c)=>rw[f]at o;exact o|some (.rt d)=>rw[f]at o;exact o|some (.nx h)=>rw[f]at o;exactλn q e m=>⟨h,m,ó.mono e o⟩⟩
def Gs(b:FS a Η Υ):Ģ a [Η] Υ:=⟨o7 b.h⟩
def aI(f:Ò):Õ:=λa=>cH (f a) λd=>Z (.rt d)
def K2(h:FE a g B):FS a (.Return (Z g) k) (aI B):=qT (xP h.h) λb i H e E o=>⟨e,E,ê.bindS o λd v c g r f=>f v c (.refl c) r⟩
def Py:Õ:=λ_=>Z (.rt .non)
def ff(f:Ò):Õ:=λa=>cH (f a) λ_=>Z (.nx a)
def Gu(j:FE a g B)(i:UD g U k.line a.env=pure D:=by lk):FS a (.Expr g k) (ff B):=qT (tE j.h i) λb e H f E o=>⟨f,E,ê.bindS o λd v c g r h=>h e c (.refl c) (E.mono g)⟩
def ce(i:Nat)(f:Ò):Õ:=λa=>cH (f a) λd=>Z (.nx (a.set i (Z d)))
def K3(i:Nat){x:Str}{c:Pos}(s:a.N.Nodup)(n:a.N[i]?=Z x)(j:ĸ a.env.scope x)(q:FE a g B)(m:UD g (Z (.Name x c)) k.line a.env=pure D:=by lk)(p:a.fn x=L\/a.env.scope.names.lookup x=Z .local:=by first|exact .inl rfl|exact .inr rfl|assumption):FS a (.Assign [.Name x c] g k) (ce i B):=qT (nZ s n j q.h m p) λb u H f E o=>⟨f,E,ê.bindS o λd v e g r h=>h _ e (.refl e) ((E.mono g).set r)⟩
def bg(c:å)(f g:Õ):Õ:=λa=>cH (c a) λk=>if k then f a else g a
def Pz{b:Õ}{i:List UH}(j:FT a g Ο)(n:Ģ a Ψ Υ)(m:Ģ a i b):FS a (.If g Ψ i k) (bg Ο Υ b):=qT (F7 j.h n.h m.h) λd p H f E o=>⟨f,E,ý.bindS o λc q e h=>by cases c with|true=>exact Eu ⟨f,E.mono e,h⟩|false=>exact Et ⟨f,E.mono e,h⟩⟩
def fG:Õ:=λ_=>U
def B6:FS a Η fG:=qT BO λ_ _ _ _ _ o=>o
def Its(z:Str):It:=⟨λi _=>i<z.cps.size,λi H x a=>a=H/\∃c,z.cps[i]?=Z c/\x=.str ⟨#[c]⟩,λi _=>i=z.cps.size⟩
def qV(c:s.handled=U)(I:O)(x:Str)(t:Tok){a:String}(b:a="str_ascii_iterator"\/a="str_iterator"):Walks n j s I [I] [I] x.cps.size (SignAt x) (λi h=>h.IsStrIter I a x t i):=by
 rcases b with rfl|rfl;·exact Walks.strAscii c I x t
 ·exact Walks.strWide c I x t
def B7(z:Str)(t:Tok)(m:O){P:String}(p:P="str_ascii_iterator"\/P="str_iterator"):xR n j v g (Its z) [m] m (λi h=>h.IsStrIter m P z t i)where
 mem:=by simp
 obj:=λi h st b q=>by
  have e:b=m:=by simpa using q
  subst e;obtain⟨o,e,c,d⟩:=st;exact⟨o,e,λf z=>by rw[d]at z;cases z⟩
 keep:=λi h B st k=>let⟨o,ho,r⟩:=st;⟨o,k m (by simp) o ho,r⟩;item:=by intro X hP hw hK hc i f' s σ H E a y st hg;subst hP hw hK;obtain⟨f0,f1,I,f3,f4,f5⟩:=y m (by simp);have W:=qV (n:=X.prog) (j:=X.w) (a.ok.hd hc) m z t p;refine W.item i s _ _ hg st λf B tk hv w kk=>?_;obtain⟨c,u,b',rfl⟩:=hv;have I1:Ê X f' σ H {s with heap:=B,toks:=tk}:=a.turned (λb o q e=>kk b o (by simpa using q) e) f0 f1 f3 f4 f5;obtain⟨o,e,c',d⟩:=id w;refine⟨_,rfl,BP (d:={s with heap:=B,toks:=tk}) e c' d (by rcases p with rfl|rfl<;>decide) ⟨.str ⟨#[c]⟩,H,I1,⟨u,rfl⟩,⟨rfl,c,b',rfl⟩,w,λb q=>(y b q).1⟩⟩
 done:=by intro X hP hw hK hc i f' s σ H E a y st hg;subst hP hw hK;obtain⟨f0,f1,I,f3,f4,f5⟩:=y m (by simp);have W:=qV (n:=X.prog) (j:=X.w) (a.ok.hd hc) m z t p;have a':i=z.cps.size:=hg;subst a';exact W.done s _ _ st λB tk kk=>⟨rfl,a.turned (λb o q e=>kk b o (by simpa using q) e) f0 f1 f3 f4 f5⟩
 self:=λA i s Q E st h=>by
  rcases p with rfl|rfl;·exact wpAny_pyIter_striter_ascii st h
  ·exact wpAny_pyIter_striter_wide st h
structure Wk(K:d_)(J:It)(ds:List N)(H0:Hp):Prop where
 go:∀i H,Í H0 H->i<ds.length->J.go i H
 stop:∀H,Í H0 H->J.stop ds.length H
 yld:∀i H x H',Í H0 H->i<ds.length->J.yld i H x H'->H'=H/\∃d,ds[i]?=Z d/\Ð K H d x
def Į(X:C)(H:Hp)(o:Option (Rs (List N)))(R:It->Hp->Prop):Prop:=match o with|none=>False|some (.exc c)=>XW X c H|some (.ok b)=>∀J a,Í H a->Wk X.K J b a->R J a
structure FI(X:C)(tg iter:u_)(f:Þ):Prop where h:PI X tg iter λσ H R=>∃ρ,Ø X.K H σ ρ/\Į X H (f ρ) R
def Į.mono{R:It->Hp->Prop}(e:Í f Α):∀{o:Option (Rs (List N))},Į a f o R->Į a Α o R|none,h=>h|some (.exc _),h=>XW.mono h e|some (.ok _),h=>λv c b r=>h v c (e.trans b) r
def ġ(z:Str):List N:=z.cps.toList.map λc=>.str ⟨#[c]⟩
def items:N->Option (Rs (List N))|.lst a=>Z (.ok a)|.tup a=>Z (.ok a)|.str z=>Z (.ok (ġ z))|_=>U
def dO(f:Ò):Þ:=λa=>Ö (f a) items
def Gx(h:f e=Z (.lst ν))(b:S v f r ν):Wk v (Itl v e) r f where
 go:=λi g a c=>by
  have j:i<ν.length:=by rw[b.length];exact c
  exact⟨ν,ν[i],ă.of (a _ _ h),by simp[j]⟩
 stop:=λg a=>⟨ν,ă.of (a _ _ h),by rw[b.length];exact o_ _⟩;yld:=λi g x o a c y=>by obtain⟨n,y⟩:=y;obtain⟨d,m,k⟩:=S.get (S.mono a _ _ b) (y ν (ă.of (a _ _ h)));exact⟨n,d,m,k⟩
def K4(h:f e=Z (.tup ν))(b:S v f r ν):Wk v (Itt v e) r f where
 go:=λi g a c=>by
  have j:i<ν.length:=by rw[b.length];exact c
  exact⟨ν,ν[i],ð.of (a _ _ h),by simp[j]⟩
 stop:=λg a=>⟨ν,ð.of (a _ _ h),by rw[b.length];exact o_ _⟩;yld:=λi g x o a c y=>by obtain⟨n,y⟩:=y;obtain⟨d,m,k⟩:=S.get (S.mono a _ _ b) (y ν (ð.of (a _ _ h)));exact⟨n,d,m,k⟩
def K5:Wk v (Its c) (ġ c) f where
 go:=λi g e d=>by show i<c.cps.size;simpa[ġ]using d
 stop:=λg e=>by show(ġ c).length=c.cps.size;simp[ġ]
 yld:=λi g x k e d y=>by
  obtain⟨j,a,h,rfl⟩:=y;refine⟨j,.str ⟨#[a]⟩,?_,rfl⟩;have b:c.cps.toList[i]?=Z a:=by simpa using h
  rw[ġ,J_,b]<;>rfl
def rng(a:Int):Nat->List N|0=>[]|n+1=>.int a::rng (a+1) n
def jj:∀(n:Nat)(lo:Int),(rng lo n).length=n|0,_=>rfl|n+1,lo=>by show(rng (lo+1) n).length+1=n+1;rw[jj]
def yt:∀(n:Nat)(lo:Int)(i:Nat),i<n->(rng lo n)[i]?=Z (.int (lo+i))|0,_,_,h=>by omega|n+1,lo,0,_=>by simp[rng]|n+1,lo,i+1,h=>by have q:=yt n (lo+1) i (by omega);show(N.int lo::rng (lo+1) n)[i+1]?=_;rw[XZ,q];congr 2;omega
def u5:Wk v (X' p b) (rng p b) f where
 go:=λi c e a=>by rw[jj]at a;exact a
 stop:=λc e=>by show b<=(rng p b).length;rw[jj];exact o_ _
 yld:=λi c x g e a y=>by obtain⟨d,rfl⟩:=y;rw[jj]at a;exact⟨d,_,yt b p i a,rfl⟩
def K7(hl:FE a w B):FI a g w (dO B):=by
 constructor;intro f' s σ H R I h;obtain⟨ρ,E,o⟩:=h;have key:ê a H (B ρ) λx k=>∃d,Ð a.K k d x/\Į a k (items d) R:=by unfold dO at o;match hf:B ρ,o with|some (.exc c),o=>exact o|some (.ok d),o=>exactλv k e r=>⟨d,r,Į.mono e o⟩|none,o=>exact o
 refine á (hl.h f' s σ H _ I ⟨ρ,E,key⟩) λv j⟨x,k,y,r1,d,rd,q⟩=>?_;have n:∀(o:Obj)(P:Nat->O_->Prop)(J:It)(m:List N),xR a.prog a.w a.K g J [j.heap.objs.size] j.heap.objs.size P->P 0 (j.heap.push o)->Wk a.K J m k->(∀J H',Í k H'->Wk a.K J m H'->R J H')->PIE a f' σ g R (.ref j.heap.objs.size) {j with heap:=j.heap.push o}:=λo P J m T t0 i q=>by
  refine⟨j.heap.objs.size,[j.heap.objs.size],P,J,k,rfl,y.kept (t':=j.toks) λb o e=>i_ _ e,T,t0,λb hb=>?_,q J k (.refl k) i⟩;have e:b=j.heap.objs.size:=by simpa using hb
  subst e;exact y.fpOk (o_ _) (y.hok.fresh (o_ _))
 cases d with|lst m=>obtain⟨f,xs,rfl,u,h2⟩:=rd.lstE;cases r1;obtain⟨A,rv,p,hz⟩:=y.list (ă.of u);exact W9 p.isList (n _ _ (Itl a.K f) m (xS f _) ⟨_,m_ _ rfl,rfl,rfl⟩ (Gx u h2) q)|tup m=>obtain⟨f,xs,rfl,u,h2⟩:=rd.tupE;cases r1;obtain⟨A,rv,p,hz⟩:=y.tuple (ð.of u);exact WS (show j.heap.IsTuple f A.toArray from p) (n _ _ (Itt a.K f) m (oa f _) ⟨_,m_ _ rfl,rfl,rfl⟩ (K4 u h2) q)|str z=>
  cases(show x=.str z from rd);obtain⟨t,rfl⟩:=r1;have a':ab6 z="str_ascii_iterator"\/ab6 z="str_iterator":=by
   unfold ab6;split;·exact .inl rfl
   ·exact .inr rfl
  exact wpAny_pyIter_strU (n _ _ (Its z) (ġ z) (B7 z t _ a') ⟨_,m_ _ rfl,rfl,rfl⟩ K5 q)|_=>exact q.elim
def PB:List N->Option (Rs (List N))|[.int j]=>if-(2^62)<=j/\j<2^62 then Z (.ok (rng 0 j.toNat))else U|_=>U
def BH:List N->Option (Rs (List N))|[.int i,.int j]=>if-(2^62)<=i/\i<2^62/\-(2^62)<=j/\j<2^62 then Z (.ok (rng i (j-i).toNat))else U|_=>U
def om{R:It->Hp->Prop}{o:Option (Rs (List N))}{k:List N->Option (Rs (List N))}{P:List V->Hp->Prop}(h:Į a f (Ö o k) R)(i:∀g c b,Í f b->S a.K b g c->Į a b (k g) R->P c b):ç a f o P:=by match o,h with|some (.exc _),h=>exact h|some (.ok d),h=>exactλv j e r=>i d v j e r (Į.mono e h)
def yu(y:Gl a "range")(u:a.mg "range"=U)(A:FA a [w] ξ)(q:k_ [w] a.env=[(D,eval w a.env)]:=by lk):FI a g (.Call (.Name "range" z) [w] [] k) (λf=>Ö (ξ f) PB):=by
 constructor;intro B s m H R I h;obtain⟨f,E,o⟩:=h;refine qJ y u A.h q B s m H R I ⟨f,E,om o λP n d e p b=>?_⟩;unfold PB at b;split at b
 · rename_i j;split at b;·rename_i i;obtain⟨v,c,rfl,r,t⟩:∃v c,n=v::c/\Ð a.K d (.int j) v/\S a.K d [] c:=p;cases(show c=[]from t);cases(show v=.int j from r);exact⟨j,rfl,i.1,i.2,b _ d (.refl d) u5⟩
   ·exact b.elim
 ·exact b.elim
def yw{b:u_}(hg:Gl a "range")(hm:a.mg "range"=U)(ha:FA a [w,b] ξ)(hs:k_ [w,b] a.env=[(D,eval w a.env),(D,eval b a.env)]:=by lk)(q:k_ [b] a.env=[(D,eval b a.env)]:=by lk):FI a g (.Call (.Name "range" z) [w,b] [] k) (λn=>Ö (ξ n) BH):=by
 constructor;intro f' s u H R I h;obtain⟨n,E,o⟩:=h;refine xT hg hm ha.h hs q f' s u H R I ⟨n,E,om o λds y d e P c=>?_⟩;unfold BH at c;split at c
 · rename_i i j;split at c;·rename_i hj;obtain⟨v,m,rfl,r,t⟩:∃v m,y=v::m/\Ð a.K d (.int i) v/\S a.K d [.int j] m:=P;obtain⟨A,p,rfl,r2,B⟩:∃v f,m=v::f/\Ð a.K d (.int j) v/\S a.K d [] f:=t;cases(show p=[]from B);cases(show v=.int i from r);cases(show A=.int j from r2);exact⟨i,j,rfl,hj,c _ d (.refl d) u5⟩
   ·exact c.elim
 ·exact c.elim
def mC(i:Nat)(c:List Nat)(a:Õ):List N->Ev->Option Fl|[],b=>Z (.nx (fgt c b))|d::f,b=>match a ((fgt c b).set i (Z d))with|some (.nx e)=>mC i c a f e|o=>o
def Ez(i:Nat)(d:List Nat)(b:Þ)(a:Õ):Õ:=λc=>cH (b c) λe=>mC i d a e c
def iJ{a:List P}(h:a[b]?=Z È):a.drop b=È::a.drop (b+1):=by obtain⟨c,e⟩:=B_.mp h;rw[List.drop_eq_getElem_cons c,e]
def K8(i:Nat)(s:List Nat)(hp:W5 (w_ a.prog a.w) a.A a.env a.xe)(hc:a.calm=L)(hi:FI a g w ξ)(hg:PG a g (wB i))(hb:Ģ a Ψ Υ)(hs:∀x,TU w a.env x=pure x:=by intro _;lk):FS a (.For g w Ψ [] k) (Ez i s ξ Υ):=by refine qT (qK hp hc hi.h hg hb.h hs) λb σ H B E o=>⟨B,E,?_⟩;unfold Ez at o;match hf:ξ B,o with
 |none,o=>exact o|some (.exc c),o=>exact o|some (.ok j),o=>
 intro J H1 e1 wk;have o1:ó a H1 (mC i s Υ j B) b:=ó.mono e1 o;refine⟨λn m v p=>m=j.length-n/\n<=j.length/\Í H1 p/\∃h,Ø a.K p v h/\ó a p (mC i s Υ (j.drop n) h) b,⟨j.length,by simp,TN _,.refl H1,B,E.mono e1,by simpa using o1⟩,?_⟩;rintro n m v p⟨rfl,hn,e2,h,E',f⟩;by_cases z:n<j.length;·refine .inr ⟨wk.go n p e2 z,λu A=>Í H1 A/\∃e,Ø a.K A u e/\ó a A (mC i s Υ (j.drop (n+1)) e) b,λu A⟨P,e,E2,o2⟩=>⟨j.length-(n+1),by omega,rfl,z,P,e,E2,o2⟩,λx A y=>?_⟩;obtain⟨rfl,d,hd,rd⟩:=wk.yld n p x A e2 z y;rw[iJ hd]at f;show tS a Υ _ _ _;refine⟨(fgt s h).set i (Z d),(Ø.fgt s E').set rd,?_⟩;unfold mC at f;match q:Υ ((fgt s h).set i (Z d))with|none=>rw[q]at f;exact f|some (.exc c)=>rw[q]at f;exact f|some (.rt r)=>rw[q]at f;exact f|some (.nx e)=>rw[q]at f;exactλu H3 P E3=>⟨e2.trans P,e,E3,ó.mono P f⟩
 · have a':n=j.length:=by omega
   subst a';rw[Xq]at f;exact .inl ⟨wk.stop p e2,f v p (.refl p) (Ø.fgt s E')⟩
def Ĵ(K:d_)(F:Ó)(n:Nat):Sp:=λc H Q _=>∃a,S K H a c/\a.length=n/\match F a with|some (.ok d)=>∀v b,Í H b->Ð K b d v->Q v b|_=>False
def ae(F:Ó)(n:Nat)(g:Þ):Ò:=λb=>Ö (g b) λa=>if a.length=n then(match F a with|some (.ok d)=>Z (.ok d)|_=>U)else U
def Gy(G:î a.prog a.w a.K a.mg a.base Ē b e Ä u (Ĵ a.K Â o))(v:Ú b a.A)(P:Gl a c)(w:a.mg c=Z (.ref e))(B:Vl a.K (.ref e)=L)(hb:ñ a.K Ä u [])(ha:FA a (g::A) ξ)(n:(c==("__debug__":Str))=D:=by lk)(he:k_ (g::A) a.env=(D,eval g a.env)::k_ A a.env:=by lk)(m:(TF z (k_ A a.env)).any (·.1)=D:=by lk):FE a (.Call (.Name c k) (g::A) [] z) (ae Â o ξ):=dv (yf G v P w B hb .nil yq ha.h n he m) λσ H Q q E f=>⟨q,E,ç.bind f λp r H' g s i=>by
 show Ĵ a.K Â o (r++[]) H' Q E0;rw[W3];split at i
 ·rename_i y;refine⟨p,s,y,?_⟩;match j:Â p with|some (.ok d)=>rw[j]at i;exact i|some (.exc h)=>rw[j]at i;exact i|none=>rw[j]at i;exact i
 ·exact i.elim⟩
def F'(P:n_)(w:y_)(K:d_)(c:Str->Option R)(a:O_)(x:Str)(k:Nat)(b:List Str)(F:Ó):Prop:=∃f d,î P w K c a Ē k f d b (Ĵ K F b.length)/\c x=Z (.ref f)/\Vl K (.ref f)=L/\ñ K d b []
def B8(d:Nat)(m:List Str)(F:Ó)(h:F' a.prog a.w a.K a.mg a.base c d m F)(n:Ú o a.A)(r:d<=o)(s:Gl a c)(w:FA a (g::A) ξ)(p:b=m.length:=by lk)(j:(c==("__debug__":Str))=D:=by lk)(u:k_ (g::A) a.env=(D,eval g a.env)::k_ A a.env:=by lk)(e:(TF z (k_ A a.env)).any (·.1)=D:=by lk):FE a (.Call (.Name c k) (g::A) [] z) (ae F b ξ):=by subst p;obtain⟨f,y,G,q,i,v⟩:=h;exact Gy (G.mono r) n s q i v w j u e
def aS(m:Nat)(b:Õ):Ó:=λa=>match b (a.map Z++Ud (m-a.length) U)with|some (.nx _)=>Z (.ok .non)|some (.rt d)=>Z (.ok d)|_=>U
def wM(a:S v f r ν):Ø v f (L2.start u ν) (r.map Z++Ud (u.length-r.length) U):=by
 have j:=a.length;refine⟨by unfold L2.start;rw[Uw,Uw,N_,N_,VE,VE,j],λi d h=>?_⟩;by_cases e:i<r.length;·rw[M_ (by simpa using e),J_]at h;cases g:r[i]? with|none=>rw[g]at h;cases h|some n=>rw[g]at h;have c:Z (Z n)=Z (Z d):=h;injection c with c;injection c with c;subst c;obtain⟨b,m,k⟩:=a.get' g;refine⟨b,?_,k⟩;unfold L2.start;rw[M_ (by rw[N_,j];exact e),J_,m]<;>rfl
 ·rw[P_ (by simpa using e),XY]at h;split at h<;>cases h
def PC{N:List Str}(Fn:ı v c m Η e Ä)(S:iH N u (aH Η))(hb:∀(k:R)(A:x_)(i:List Env)(s:ge)(H:Hp)(E:XK),Ú b (A.deeper (Xv m (aH Η) s.heap.objs.size e k))->Ģ (uZ Ē n j v Χ ε N m (aH Η) e k A i s H E).nox (cr Η) Υ):î n j v Χ ε Ē (b+1) e Ä u (Ĵ v (aS N.length Υ) u.length):=by
 refine Fn.ok S (λz H Q E h=>?_) (λk A i s H z Q E P h=>?_);·obtain⟨o,r,y,_⟩:=h;rw[r.length,y]
 ·obtain⟨o,r,y,q⟩:=h;refine⟨_,(hb k A i s H E P).h,o.map Z++Ud (N.length-o.length) U,wM r,?_⟩;unfold aS at q;match p:Υ (o.map Z++Ud (N.length-o.length) U)with|none=>rw[p]at q;exact q.elim|some (.exc g)=>rw[p]at q;exact q.elim|some (.rt d)=>rw[p]at q;exactλf w a B=>q f w a B|some (.nx ρ)=>rw[p]at q;exactλa' w a _=>q .non w a rfl
def EA(N f:List Str)(g:Õ)(k:Â=aS N.length g)(h:o=f.length)(p:ı v c m Η e Ä)(S:iH N f (aH Η))(i:∀(d:R)(A:x_)(a:List Env)(s:ge)(H:Hp)(E:XK),Ú b (A.deeper (Xv m (aH Η) s.heap.objs.size e d))->Ģ (uZ Ē n j v Χ ε N m (aH Η) e d A a s H E).nox (cr Η) g):î n j v Χ ε Ē (b+1) e Ä f (Ĵ v Â o):=by subst k h;exact PC p S i
def lL(b:List (Str×WM))(c:Env)(a:List (Str×O)):List (Str×O):=match b with|[]=>a|(n,k)::r=>lL r c (if k==.free then(n,(c.cells.lookup n).getD 0)::a else a)
def oo{d:Env}{n:Str}{c:O}:∀(a:List (Str×WM))(b:List (Str×O)),(lL a d b).lookup n=Z c->b.lookup n=Z c\/((n,Vu)∈a/\c=(d.cells.lookup n).getD 0)
 |[],b,h=>.inl h|(m,k)::r,b,h=>by
  rcases oo r _ h with q|⟨j,i⟩
  · by_cases g:k=.free;·subst g;simp only[beq_self_eq_true,if_true]at q;rw[Uj]at q;cases f:n==m with
      |true=>
      rw[f]at q;have e:n=m:=by simpa using f
      subst e;exact .inr ⟨on,(Uk q).symm⟩|false=>rw[f]at q;exact .inl q
    · have o:(k==Vu)=D:=by simpa using g
      rw[o]at q;exact .inl (by simpa using q)
  ·exact .inr ⟨r_ _ j,i⟩
def qW{c:Env}{n:Str}:∀(b:List (Str×WM))(a:List (Str×O)),(a.lookup n).isSome=L->((lL b c a).lookup n).isSome=L
 |[],a,h=>h|(m,k)::r,a,h=>by
  refine qW r _ ?_;split;·rw[Uj];cases n==m with|true=>rfl|false=>exact h
  ·exact h
def pk{c:Env}{n:Str}:∀(a:List (Str×WM))(b:List (Str×O)),(n,Vu)∈a->((lL a c b).lookup n).isSome=L
 |[],b,h=>by cases h|(m,k)::r,b,h=>by
  rcases v_.mp h with e|q;·injection e with f d;subst f;subst d;refine qW r _ ?_;simp only[beq_self_eq_true,if_true,Uj];rfl
  ·exact pk r _ q
def gG{b:Type}{n:Str}{k:b}:∀{l:List (Str×b)},l.lookup n=Z k->(n,k)∈l|[],h=>by simp at h|(m,j)::r,h=>by rw[Uj]at h;cases a:n==m with
 |true=>
 rw[a]at h;have e:n=m:=by simpa using a
 subst e;have c:j=k:=Uk h;subst c;exact on|false=>rw[a]at h;exact r_ _ (gG h)
def lu{d:Env}{k:WM}(h:(acf τ d).names.lookup c=Z k):(c,k)∈τ.names\/(k=.cell/\(c,Vu)∈τ.names):=by
 have q:=gG h;unfold acf at q;obtain⟨⟨m,j⟩,f,e⟩:=G_.mp q;dsimp only at e;split at e
 · rename_i g;injection e with b a;subst b;have i:j=.free:=by rw[pi,pi]at g;simpa using g.1.1
   subst i;exact .inr ⟨a.symm,f⟩
 ·injection e with b a;subst b;subst a;exact .inl f
def lz{a:Env}:∀{b:List (Str×WM)}{n:Str},b.lookup n=Z .free->(b.map λ(n,k)=>if(k==Vu&&a.scope.kind==.function&&a.kindOf n==Z .cell)then(n,VM)else(n,k)).lookup n=Z .cell\/(b.map λ(n,k)=>if(k==Vu&&a.scope.kind==.function&&a.kindOf n==Z .cell)then(n,VM)else(n,k)).lookup n=Z .free
 |[],_,h=>by simp at h|(m,k)::r,n,h=>by have e:=@lz a r n;rw[Uj]at h;rw[F_];cases c:n==m with
 |true=>
 rw[c]at h;have f:k=.free:=Uk h;subst f;by_cases d:(Vu==Vu&&a.scope.kind==.function&&a.kindOf m==Z .cell)=L;·dsimp only;rw[if_pos d,Uj,c];exact .inl rfl
 ·dsimp only;rw[if_neg d,Uj,c];exact .inr rfl|false=>
 rw[c]at h;dsimp only;by_cases d:(k==Vu&&a.scope.kind==.function&&a.kindOf m==Z .cell)=L;·rw[if_pos d,Uj,c];exact e h
 ·rw[if_neg d,Uj,c];exact e h
def JJ(b:List (Str×Nat))(a:Ev):Ev:=U::b.map λc=>(a[c.2]?).join
def yx(a:Option å)(b:Ò)(c:Ev):List N->Option (List N)|[]=>Z []|d::f=>let e:=c.set 0 (Z d);match(match a with|none=>(Z (.ok L):Option (Rs Bool))|some t=>t e)with|some (.ok L)=>(match b e with|some (.ok y)=>(match yx a b c f with|some g=>Z (y::g)|none=>U)|_=>U)|some (.ok D)=>yx a b c f|_=>U
def cf(g:List (Str×Nat))(b:Þ)(a:Option å)(c:Ò):Ò:=λd=>Ö (b d) λf=>match yx a c (JJ g d) f with|some e=>if e.length<=100000/\f.length<=100000 then Z (.ok (.lst e))else U|none=>U
def LAt(h:O_)(a:O)(b:List R):Prop:=∃n,h.get? a=Z {cls:=.type "list",data:=.seq b.toArray n}
def wN(h:LAt d.heap e E)(g:E.length<=100000)(m:∀f,LAt f e (E++[ψ])->(∀b o,b≠e->d.heap.get? b=Z o->f.get? b=Z o)->Ω .none {d with heap:=f}):q_ (w_ n j) s (call (.builtin "list.append") [.ref e,ψ]) Ω θ d:=by
 obtain⟨c,a⟩:=h;refine Yw W7 ⟨_,a,rfl⟩ aa3 (aaJ _ _) (abv e E.toArray c ψ (by rw[I_];exact bX g)) ⟨a,?_⟩;have q:=abW a (·.push ψ);have p:E.toArray.push ψ=(E++[ψ]).toArray:=by simp
 rw[p]at q;exact m _ ⟨_,q⟩ λb o k i=>(V1 d.heap _ (VB k)).trans i
def yy(X:C)(a:List u_)(b:Option å):Prop:=match b with|none=>a=[]|some t=>∃c,a=[c]/\FT X c t
def Č.add{g:O_}{o:HO}(x:Č n j f ε)(m:f e=U)(p:f y=U)(k:∀b u,b≠y->ε.get? b=Z u->g.get? b=Z u)(h:â n j (Û f e o) g e o):Č n j (Û f e o) g:=λb u a=>by
 by_cases i:b=e;·subst i;rw[au]at a;cases a;exact h
 · rw[aB i]at a;refine(x b u a).stay (λc v d q=>k c v ?_ q) (λc q=>by rw[aB (aE q m)];exact q) λc r q=>by rw[aB (aE q m)];exact q
   rcases d with rfl|d;·exact aE a p
   ·exact aE d p
def Gz(h:b<o):b≠o:=by omega
def K9(h:b<o):b≠o+1:=by omega
def RL:b≠b+1:=by omega
def cY:N->N->Option (Rs N)|.int i,.int j=>Z (.ok (.int (i+j)))|.str x,.str y=>if x.length+y.length<=100000 then Z (.ok (.str (x++y)))else U|.lst a,.lst b=>if a.length+b.length<=100000 then Z (.ok (.lst (a++b)))else U|_,_=>U
def GA:R2:=λx y H Q=>ŕ (λi j=>.int (i+j)) x y H Q\/((∃i j,x=.str i/\y=.str j/\i.length+j.length<=sizeLine/\Q (.str (i++j)) H)\/RJ x y H Q)
def ų:û a (Wn .Add) GA:=op_add.or (op_add_str.or KH)
def La:Ĕ a GA cY:=by
 intro u s x y H Q f e o;cases u<;>cases s<;>try exact(show False from o).elim
 ·rename_i i j;exact .inl ⟨i,j,f,e,o _ H (.refl H) rfl⟩
 · rename_i i j;simp only[cY]at o;split at o;·rename_i d;exact .inr (.inl ⟨i,j,f,e,bX d,o _ H (.refl H) rfl⟩)
   ·exact o.elim
 · rename_i c b;simp only[cY]at o;split at o;·rename_i d;obtain⟨p,m,rfl,r,k⟩:=f.lstE;obtain⟨n,g,rfl,q,h⟩:=e.lstE;refine .inr (.inr ⟨p,n,m,g,rfl,rfl,r,q,by rw[k.length,h.length];exact bX d,λl d=>o _ _ (aC d _) ⟨l,_,rfl,au,S.mono (aC d _) _ _ (k.append h)⟩⟩)
   ·exact o.elim
def wO:N->N->Option (Rs N)|.int i,.int j=>Z (.ok (.int (i-j)))|_,_=>U
def PD:Ĕ a (ŕ λi j=>.int (i-j)) wO:=by
 intro e d x y H Q c b o;cases e<;>cases d<;>try exact(show False from o).elim
 rename_i i j;exact⟨i,j,c,b,o _ H (.refl H) rfl⟩
def mD:N->N->Option (Rs N)|.int i,.int j=>if(-18446744073709551616<i/\i<18446744073709551616)\/(-18446744073709551616<j/\j<18446744073709551616)then Z (.ok (.int (i*j)))else U|_,_=>U
def PF:Ĕ a (rI ũ λi j=>.int (i*j)) mD:=by
 intro e d x y H Q c b o;cases e<;>cases d<;>try exact(show False from o).elim
 rename_i i j;simp only[mD]at o;split at o;·rename_i h;exact⟨i,j,c,b,h,o _ H (.refl H) rfl⟩
 ·exact o.elim
def jW:N->N->Option (Rs N)|.int i,.int j=>if 0<j then Z (.ok (.int (i%j)))else U|_,_=>U
def PH:Ĕ a (rI (λ_ j=>0<j) λi j=>.int (i%j)) jW:=by
 intro e d x y H Q c b o;cases e<;>cases d<;>try exact(show False from o).elim
 rename_i i j;simp only[jW]at o;split at o;·rename_i h;exact⟨i,j,c,b,h,o _ H (.refl H) rfl⟩
 ·exact o.elim
def jZ:N->N->Option (Rs N)|.int i,.int j=>if 0<j/\j<1073741824 then Z (.ok (.int (i/j)))else U|_,_=>U
def Lb:Ĕ a (rI RD λi j=>.int (i/j)) jZ:=by
 intro e d x y H Q c b o;cases e<;>cases d<;>try exact(show False from o).elim
 rename_i i j;simp only[jZ]at o;split at o;·rename_i h;exact⟨i,j,c,b,h,o _ H (.refl H) rfl⟩
 ·exact o.elim
def Lc:N->Option (Rs N)|.int i=>Z (.ok (.int (-i)))|_=>U
def f1(g:N->Option (Rs N))(b:Ò):Ò:=λa=>Ö (b a) g
def Ld(h:FE a g B):FE a (.UnaryOp .USub g k) (f1 Lc B):=dv (Pi Ks h.h) λj H Q f E o=>⟨f,E,ê.bind o λd v c e r b=>by
 cases d<;>try exact(show False from b).elim
 rename_i i;exact⟨i,r,b _ c (.refl c) rfl⟩⟩
def seq(x y:Str):Bool:=x.cps.toList==y.cps.toList
def EB(x y:Str):(x==y)=seq x y:=by rw[U4];unfold seq;obtain⟨⟨a⟩⟩:=x;obtain⟨⟨b⟩⟩:=y;simp
def Ş:N->N->Option Bool|.non,.non=>Z L|.non,.int _=>Z D|.int _,.non=>Z D|.non,.bl _=>Z D|.bl _,.non=>Z D|.non,.str _=>Z D|.str _,.non=>Z D|.int i,.int j=>Z (i==j)|.bl i,.bl j=>Z (i==j)|.str i,.str j=>Z (seq i j)|.int _,.str _=>Z D|.str _,.int _=>Z D|.bl _,.str _=>Z D|.str _,.bl _=>Z D|_,_=>U
variable{η:N}
def EC{y:V}(b:Ð v f i υ)(a:Ð v f η y)(h:Ş i η=Z H):Pk υ y=L/\uk (υ=y)=H:=by cases i<;>cases η<;>(try cases h)<;>(try(cases b;cases a;exact⟨rfl,by first|rfl|exact tG|exact xU|(rw[tH,EB])|simp⟩))
def PJ(p:Int->Int->Bool):N->N->Option (Rs N)|.int i,.int j=>Z (.ok (.bl (p i j)))|_,_=>U
def Le(p:Int->Int->Bool):Ĕ a (ŕ λi j=>.bl (p i j)) (PJ p):=by
 intro e d x y H Q c b o;cases e<;>cases d<;>try exact(show False from o).elim
 rename_i i j;exact⟨i,j,c,b,o _ H (.refl H) rfl⟩
abbrev ť:=PJ λi j=>uk (j<i)
def ċ:N->N->Option (Rs N)|x,.non=>Z (.ok (.bl (match x with|.non=>L|_=>D)))|_,_=>U
def nI:N->N->Option (Rs N)|x,.non=>Z (.ok (.bl (match x with|.non=>D|_=>L)))|_,_=>U
def yz(r:Ð v f i υ):uk (υ=.non)=(match i with|.non=>L|_=>D):=by cases i with|non=>cases(show υ=.non from r);rfl|bl b=>cases(show υ=.bl b from r);rfl|int b=>cases(show υ=.int b from r);rfl|str b=>cases(show υ=.str b from r);rfl|tup d=>obtain⟨a,e,rfl,_⟩:=r.tupE;rfl|lst d=>obtain⟨a,e,rfl,_⟩:=r.lstE;rfl|scr d=>obtain⟨a,rfl,_⟩:=r.scrE;rfl|exn c=>obtain⟨a,_,_,_,rfl,_⟩:=r.exnE;rfl|obj k d=>obtain⟨a,_,_,_,rfl,_⟩:=r.objE;rfl
def Lf:Ĕ a (λx y H Q=>y=.non/\Q (.bl (uk (x=.non))) H) ċ:=by
 intro f e x y H Q c b o;cases e<;>try exact(show False from o).elim
 have q:=yz c;refine⟨b,?_⟩;have d:=o _ H (.refl H) rfl;cases f<;>(rw[q];exact d)
def ED:Ĕ a (λx y H Q=>y=.non/\Q (.bl (!uk (x=.non))) H) nI:=by
 intro f e x y H Q c b o;cases e<;>try exact(show False from o).elim
 have q:=yz c;refine⟨b,?_⟩;have d:=o _ H (.refl H) rfl;cases f<;>(rw[q];exact d)
def inS(x y:Str):Bool:=!(Um y x 0 y.length 1).isEmpty
def kK:N->Bool|.non=>L|.bl _=>L|.int _=>L|.str _=>L|_=>D
def eqF:N->N->Bool|.non,.non=>L|.bl a,.bl b=>a==b|.bl a,.int b=>(if a then 1 else 0)==b|.int a,.bl b=>a==(if b then 1 else 0)|.int a,.int b=>a==b|.str a,.str b=>seq a b|_,_=>D
def Ũ(x:N)(a:List N):Option Bool:=if kK x&&a.all kK then Z (a.any λy=>eqF y x)else U
def JK:N->N->Option Bool|.str x,.str y=>Z (inS x y)|x,.lst a=>Ũ x a|x,.tup a=>Ũ x a|_,_=>U
def ŏ(x y:N):Option (Rs N):=match JK x y with|some b=>Z (.ok (.bl b))|none=>U
def qX(x y:N):Option (Rs N):=match JK x y with|some b=>Z (.ok (.bl (!b)))|none=>U
def tM(r:Ð v f i υ)(h:kK i=L):jH υ=L:=by cases i<;>first|(cases h;done)|(cases r;rfl)
def pq{K:d_}{H:Hp}:∀{b:List N}{a:List V},S K H b a->b.all kK=L->a.all jH=L|[],a,r,_=>by cases(show a=[]from r);rfl|d::b,a,r,h=>by obtain⟨v,c,rfl,f,e⟩:∃v c,a=v::c/\Ð K H d v/\S K H b c:=r;rw[VN,pi]at h;rw[VN,pi];exact⟨tM f h.1,pq e h.2⟩
def EE{u:V}(r:Ð v f i υ)(q:Ð v f η u)(h:kK i=L)(a:kK η=L):ŀ υ u=eqF i η:=by cases i<;>first|(cases h;done)|(cases r;cases η<;>first|(cases a;done)|(cases q;first|rfl|exact EB _ _))
def EG{K:d_}{H:Hp}{e:N}{u:V}(q:Ð K H e u)(f:kK e=L):∀{b:List N}{a:List V},S K H b a->b.all kK=L->(a.any λy=>ŀ y u)=b.any λy=>eqF y e|[],a,r,_=>by cases(show a=[]from r);rfl|d::b,a,r,h=>by obtain⟨v,c,rfl,i,g⟩:∃v c,a=v::c/\Ð K H d v/\S K H b c:=r;rw[VN,pi]at h;rw[Vw,Vw,EE i q h.1 f,EG q f g h.2]
def u8(c:Ð v f i υ)(b:S v f r ν)(h:Ũ i r=Z H):jH υ=L/\ν.all jH=L/\inV υ ν=H:=by
 unfold Ũ at h;split at h;·rename_i a;rw[pi]at a;cases h;exact⟨tM c a.1,pq b a.2,EG c a.1 b a.2⟩
 ·cases h
def RM(K:d_):R2:=λx y H Q=>(∃i j,x=.str i/\y=.str j/\Q (.bl (!(Um j i 0 j.length 1).isEmpty)) H)\/rIn K D x y H Q
def tN(K:d_):R2:=λx y H Q=>(∃i j,x=.str i/\y=.str j/\Q (.bl (!(!(Um j i 0 j.length 1).isEmpty))) H)\/rIn K L x y H Q
def RN:û a (TZ .In) (RM a.K):=op_in_str.or yn
def Ņ:û a (TZ .NotIn) (tN a.K):=op_notIn_str.or qR
def RO:Ĕ a (RM a.K) ŏ:=by
 intro e r x y H Q j i o;unfold ŏ at o;split at o
 · rename_i b f;have q:=o _ H (.refl H) rfl;cases r<;>try(cases e<;>cases f;done)
   · rename_i z;cases e<;>try(cases f;done)
     rename_i p;cases f;exact .inl ⟨p,z,j,i,q⟩
   · rename_i g;have d:Ũ e g=Z b:=by cases e<;>exact f
     obtain⟨c,h,rfl,m,k⟩:=i.tupE;obtain⟨f1,I,n⟩:=u8 j k d;exact .inr ⟨c,h,rfl,.inr (ð.of m),f1,I,by rw[if_neg D_,n];exact q⟩
   · rename_i g;have d:Ũ e g=Z b:=by cases e<;>exact f
     obtain⟨c,h,rfl,m,k⟩:=i.lstE;obtain⟨f1,I,n⟩:=u8 j k d;exact .inr ⟨c,h,rfl,.inl (ă.of m),f1,I,by rw[if_neg D_,n];exact q⟩
 ·exact o.elim
def yA:Ĕ a (tN a.K) qX:=by
 intro e r x y H Q j i o;unfold qX at o;split at o
 · rename_i b f;have q:=o _ H (.refl H) rfl;cases r<;>try(cases e<;>cases f;done)
   · rename_i z;cases e<;>try(cases f;done)
     rename_i p;cases f;exact .inl ⟨p,z,j,i,q⟩
   · rename_i g;have d:Ũ e g=Z b:=by cases e<;>exact f
     obtain⟨c,h,rfl,m,k⟩:=i.tupE;obtain⟨f1,I,n⟩:=u8 j k d;exact .inr ⟨c,h,rfl,.inr (ð.of m),f1,I,by rw[if_pos rfl,n];exact q⟩
   · rename_i g;have d:Ũ e g=Z b:=by cases e<;>exact f
     obtain⟨c,h,rfl,m,k⟩:=i.lstE;obtain⟨f1,I,n⟩:=u8 j k d;exact .inr ⟨c,h,rfl,.inl (ă.of m),f1,I,by rw[if_pos rfl,n];exact q⟩
 ·exact o.elim
def Ă(a:List P)(i:Int):Option P:=if 0<=i then a[i.toNat]? else if-(a.length:Int)<=i then a[(i+a.length).toNat]? else U
def pv{a:List P}(h:Ă a p=Z È):rw a p=Z È:=by
 unfold Ă at h;unfold rw Ž;split at h
 · rename_i b;have d:p.toNat<a.length:=by obtain⟨q,_⟩:=B_.mp h;exact q
   rw[if_pos b,if_pos (by omega)];exact h
 · rename_i b;split at h;·rename_i c;rw[if_neg b,if_pos c];exact h
   ·cases h
def Ì:N->N->Option (Rs N)|.lst a,.int i=>(match Ă a i with|some d=>Z (.ok d)|none=>U)|.tup a,.int i=>(match Ă a i with|some d=>Z (.ok d)|none=>U)|.str z,.int i=>if z.length<=100000 then(match Ă z.cps.toList i with|some c=>Z (.ok (.str ⟨#[c]⟩))|none=>U)else U|.scr b,.int i=>(match Ă b i with|some d=>Z (.ok (.int d))|none=>U)|_,_=>U
def tP{d:Type}{b:List P}{a:List d}(h:a.length=b.length){i:Int}{x:P}(e:Ă b i=Z x):∃j:Nat,b[j]?=Z x/\∀y,a[j]?=Z y->Ă a i=Z y:=by
 unfold Ă at e;split at e;·rename_i c;exact⟨_,e,λy q=>by unfold Ă;rw[if_pos c];exact q⟩
 · rename_i c;split at e;·rename_i f;exact⟨_,e,λy q=>by unfold Ă;rw[if_neg c,h,if_pos f];exact q⟩
   ·cases e
def SQ:Ĕ a (rIx a.K) Ì:=by
 intro B A x y H Q n m o;cases B<;>cases A<;>try exact(show False from o).elim
 · rename_i z i;simp only[Ì]at o;split at o
   · rename_i u;split at o;·rename_i c w;exact .inr (.inr ⟨z,i,c,n,m,bX u,pv w,o _ H (.refl H) rfl⟩)
     ·exact o.elim
   ·exact o.elim
 · rename_i E i;simp only[Ì]at o;split at o;·rename_i d e;obtain⟨b,p,rfl,g,f⟩:=n.tupE;obtain⟨j,k,h⟩:=tP f.length e;obtain⟨v,r,q⟩:=f.get' k;exact .inr (.inl ⟨b,p,i,v,rfl,m,ð.of g,pv (h v r),o v H (.refl H) q⟩)
   ·exact o.elim
 · rename_i E i;simp only[Ì]at o;split at o;·rename_i d e;obtain⟨b,p,rfl,g,f⟩:=n.lstE;obtain⟨j,k,h⟩:=tP f.length e;obtain⟨v,r,q⟩:=f.get' k;exact .inl ⟨b,p,i,v,rfl,m,ă.of g,pv (h v r),o v H (.refl H) q⟩
   ·exact o.elim
 · rename_i s i;simp only[Ì]at o;split at o;·rename_i d e;obtain⟨b,rfl,g⟩:=n.scrE;obtain⟨j,k,h⟩:=tP (a:=s.map V.int) (by simp) e;exact .inl ⟨b,_,i,.int d,rfl,m,g,pv (h _ (by rw[J_,k]<;>rfl)),o _ H (.refl H) rfl⟩
   ·exact o.elim
def PK(d:FE a g B)(c:FE a w Ç)(b:yj w:=by intro _ _;lk):FE a (.Subscript g w k) (I Ì B Ç):=dv (Pq KC d.h c.h b) λ_ _ _ _ E o=>two SQ E o
abbrev j':=Ev->Option (Rs (Option Int))
def RP(X:C)(H:Hp)(o:Option (Rs (Option Int)))(Q:Option Int->Hp->Prop):Prop:=match o with|none=>False|some (.exc c)=>XW X c H|some (.ok d)=>∀a,Í H a->Q d a
structure FO(X:C)(e:Option u_)(f:j'):Prop where h:PO X e λσ H Q=>∃ρ,Ø X.K H σ ρ/\RP X H (f ρ) Q
def gp:j':=λ_=>Z (.ok U)
def toI:N->Option (Rs (Option Int))|.int i=>Z (.ok (Z i))|_=>U
def dr(f:Ò):j':=λa=>Ö (f a) toI
def GB:FO a U gp:=⟨λc s b H Q I⟨_,_,o⟩=>Gi c s b H Q I (o H (.refl H))⟩
def GC(h:FE a g B):FO a (Z g) (dr B):=⟨λf s e H Q I⟨b,E,o⟩=>Gj h.h f s e H Q I ⟨b,E,by unfold dr at o;match k:B b,o with
 |none,o=>exact o|some (.exc c),o=>exact o|some (.ok d),o=>
 intro v j g r;cases d<;>try exact(show False from o).elim
 rename_i i;exact⟨i,r,o j g⟩⟩⟩
def B9(a:List P)(b c:Option Int):List P:=(a.drop (HT.sIx a.length 0 b)).take (HT.sIx a.length a.length c-HT.sIx a.length 0 b)
def SS:V->Option Int->Option Int->Hp->VK->Prop:=λx lo a H Q=>∃z,x=.str z/\z.length<=sizeLine/\Q (.str (abS z lo a)) H
def Ŗ:ŭ a SS:=by intro o s m H x v r p lo h w Q I n e pl g q;obtain⟨z,rfl,d,q⟩:=q;obtain⟨t,rfl⟩:=n;refine⟨"str",_,F.slot_str_getitem.lookup,XE _ _ _,?_⟩;have c:∀(b:Tok)(k:Nat),EP a o m Q (.str (abS z lo h) b) {s with toks:=k}:=λb k=>⟨.str (abS z lo h),H,I.tok _,⟨_,rfl⟩,q⟩;cases pl with
 |none=>cases g with|none=>exact WI (l:=U) (u:=U) (st:=U) e rfl (YG ⟨TX (Z1 z _ _) d,λb k=>c b k⟩)|int j u=>exact WI (l:=U) (u:=Z (j,u)) (st:=U) e rfl (YG ⟨TX (Z1 z _ _) d,λb k=>c b k⟩)
 |int i f=>cases g with|none=>exact WI (l:=Z (i,f)) (u:=U) (st:=U) e rfl (YG ⟨TX (Z1 z _ _) d,λb k=>c b k⟩)|int j u=>exact WI (l:=Z (i,f)) (u:=Z (j,u)) (st:=U) e rfl (YG ⟨TX (Z1 z _ _) d,λb k=>c b k⟩)
def OO(x:N)(a b:Option Int):Option (Rs N):=match x with|.str z=>if z.length<=100000 then Z (.ok (.str (abS z a b)))else U|.lst c=>Z (.ok (.lst (B9 c a b)))|_=>U
def xB(e:Ò)(c d:j'):Ò:=λa=>Ö (e a) λx=>Ö (c a) λlo=>Ö (d a) λb=>OO x lo b
def j5{o:Option (Rs (Option Int))}{k:Option Int->Option (Rs N)}{P:Option Int->Hp->Prop}(h:ê a f (Ö o k) Æ)(g:∀b c,Í f c->ê a c (k b) Æ->P b c):RP a f o P:=by match o,h with|some (.exc _),h=>exact h|some (.ok d),h=>exactλi e=>g d i e (ê.mono e h)
def Lg{h j:Option u_}{n q:j'}(ha:FE a g B)(hl:FO a h n)(hh:FO a j q):FE a (.Subscript g (.Slice h j U k) z) (xB B n q):=dv (u3 (Ŗ.or yk) ha.h hl.h hh.h) λσ H Q e E o=>⟨e,E,ê.bind o λd v H1 s A o1=>⟨e,E.mono s,j5 o1 λl H2 r P=>⟨e,(E.mono s).mono r,j5 P λu w e3 c=>by
 have f:=Ð.mono e3 d v (Ð.mono r d v A);cases d<;>try exact(show False from c).elim
 · rename_i b;unfold OO at c;dsimp only at c;split at c;·rename_i hz;exact .inl ⟨b,f,bX hz,c _ w (.refl w) rfl⟩
   ·exact c.elim
 ·rename_i ds;obtain⟨a',y,rfl,h1,m⟩:=f.lstE;refine .inr ⟨a',y,rfl,ă.of h1,λp i=>c _ _ (aC i _) ⟨p,_,rfl,au,S.mono (aC i _) _ _ ?_⟩⟩;unfold BX B9;rw[m.length];exact(m.drop _).take _⟩⟩⟩
def fA:Ó|[.str z]=>if z.length<=100000 then Z (.ok (.int z.length))else U|[.lst a]=>Z (.ok (.int a.length))|[.tup a]=>Z (.ok (.int a.length))|[.scr b]=>Z (.ok (.int b.length))|_=>U
def Ý(g:Ó)(b:Þ):Ò:=λa=>Ö (b a) g
def dt(r:S v f [i] ν):∃a,ν=[a]/\Ð v f i a:=by obtain⟨a,b,rfl,d,c⟩:∃a b,ν=a::b/\Ð v f i a/\S v f [] b:=r;cases(show b=[]from c);exact⟨a,rfl,d⟩
def Cc(r:S v f [i,η] ν):∃a b,ν=[a,b]/\Ð v f i a/\Ð v f η b:=by obtain⟨a,c,rfl,g,e⟩:∃a c,ν=a::c/\Ð v f i a/\S v f [η] c:=r;obtain⟨b,rfl,d⟩:=dt e;exact⟨a,b,rfl,g,d⟩
def Lh(u:Gl a "len")(s:a.mg "len"=U)(y:FA a (g::A) ξ)(w:k_ (g::A) a.env=(D,eval g a.env)::k_ A a.env:=by lk)(m:(TF z (k_ A a.env)).any (·.1)=D:=by lk):FE a (.Call (.Name "len" k) (g::A) [] z) (Ý fA ξ):=dv (hJ BQ u s acq y.h (by decide) (by decide) w m) λB H Q n E o=>⟨n,E,ç.bind o λds P e e1 h d=>by
 unfold fA at d;split at d
 · rename_i c;split at d;·rename_i q;obtain⟨v,rfl,r⟩:=dt h;cases(show v=.str c from r);exact⟨_,_,rfl,⟨bX q,rfl⟩,d _ e (.refl e) rfl⟩
   ·exact d.elim
 ·rename_i p;obtain⟨v,rfl,r⟩:=dt h;obtain⟨b,i,rfl,f,j⟩:=r.lstE;exact⟨_,_,rfl,.inl ⟨i,ă.of f,rfl⟩,d _ e (.refl e) (by rw[j.length];rfl)⟩
 ·rename_i p;obtain⟨v,rfl,r⟩:=dt h;obtain⟨b,i,rfl,f,j⟩:=r.tupE;exact⟨_,_,rfl,.inr ⟨i,ð.of f,rfl⟩,d _ e (.refl e) (by rw[j.length];rfl)⟩
 ·rename_i ns;obtain⟨v,rfl,r⟩:=dt h;obtain⟨b,rfl,f⟩:=r.scrE;exact⟨_,_,rfl,.inl ⟨_,f,rfl⟩,d _ e (.refl e) (by rw[N_];rfl)⟩
 ·exact d.elim⟩
def j6:List N->Option (List Bool)|[]=>Z []|.bl b::r=>(match j6 r with|some bs=>Z (b::bs)|none=>U)|_=>U
def pB:Ó|[.lst a]=>(match j6 a with|some bs=>Z (.ok (.bl (bs.all id)))|none=>U)|_=>U
def pC{K:d_}{H:Hp}:∀{e:List N}{c:List V}{a:List R}{bs:List Bool},S K H e c->Ë c a->j6 e=Z bs->a=bs.map H_
 |[],c,a,bs,r,q,h=>by cases(show c=[]from r);cases q;cases h;rfl|d::e,c,a,bs,r,q,h=>by obtain⟨v,n,rfl,i,g⟩:∃v a,c=v::a/\Ð K H d v/\S K H e a:=r;cases q with|cons k j=>
 cases d<;>try(cases h;done)
 rename_i b;simp only[j6]at h;cases f:j6 e with|none=>rw[f]at h;cases h|some m=>rw[f]at h;cases h;cases(show v=.bl b from i);cases k;rw[pC g j f];rfl
def Cd:õ a (.builtin "all") (λy H Q=>∃c m bs p,y=[.ref c]/\H c=Z (.lst m)/\S a.K H p m/\j6 p=Z bs/\a.calm=L/\Q (.bl (bs.all id)) H):=by
 intro f' s σ H y us Q I r h;obtain⟨c,m,bs,p,rfl,h1,h2,h3,hc,q⟩:=h;obtain⟨u,rfl,P⟩:=fq r;cases P;obtain⟨z,a',n,E,hl,e⟩:=I.lstM h1;have j:=pC h2 E h3;subst j;have A:s.heap.IsList c (bs.map H_).toArray:=⟨_,e,rfl,_,rfl⟩;have w:c<s.heap.objs.size:=s_ e;refine call_all_walk (W9 A ?_);refine⟨s.heap.objs.size,[s.heap.objs.size,c],[s.heap.objs.size],(bs.map H_).toArray.size,_,_,λi=>(bs[i]?).getD L,rfl,abi (A:=a.A.in1) (I.ok.hd hc) _ c (A_ w) (bs.map H_).toArray,⟨⟨_,m_ _ rfl,rfl,rfl⟩,A.push _⟩,λi v B Q' E' hP hQ=>?_,λh' tk hk=>?_⟩
 · have d:(bs.map H_)[i]?=Z v:=by simpa using hP
   rw[J_]at d;cases g:bs[i]? with|none=>rw[g]at d;cases d|some b=>rw[g]at d;cases d;have k:Q' ((bs[i]?).getD L) B:=hQ;rw[g]at k;exact Vx k
 · have e2:((rl (bs.map H_).toArray.size).all λi=>(bs[i]?).getD L)=bs.all id:=by
    rw[I_,N_];rw[U4];simp only[Uz,Ux,id];constructor;·intro o b g;obtain⟨i,f,rfl⟩:=aaP.mp g;simpa[f]using o i f
    ·intro o i f;simp only[t_ f,abY];exact o _ (Xo f)
   rw[e2];refine⟨.bl _,H,I.kept λb x j=>hk b x (λhm=>?_) (i_ _ j),rfl,q⟩;rw[Ua.mp hm]at j;exact UR _ (s_ j)
def Li(q:a.calm=L)(n:Gl a "all")(m:a.mg "all"=U)(u:FA a (g::A) ξ)(p:k_ (g::A) a.env=(D,eval g a.env)::k_ A a.env:=by lk)(d:(TF z (k_ A a.env)).any (·.1)=D:=by lk):FE a (.Call (.Name "all" k) (g::A) [] z) (Ý pB ξ):=dv (hJ Cd n m PyProof.Rows.boot_all u.h (by decide) (by decide) p d) λB H Q f E o=>⟨f,E,ç.bind o λds P e e1 j c=>by
 unfold pB at c;split at c
 · rename_i h;split at c;·rename_i bs s;obtain⟨v,rfl,r⟩:=dt j;obtain⟨b,i,rfl,y,w⟩:=r.lstE;exact⟨b,i,bs,h,rfl,y,w,s,q,c _ e (.refl e) rfl⟩
   ·exact c.elim
 ·exact c.elim⟩
def tyD:N->String|.non=>"NoneType"|.bl _=>"bool"|.int _=>"int"|.str _=>"str"|.tup _=>"tuple"|.lst _=>"list"|.scr _=>"list"|.exn _=>"object"|.obj _ _=>"object"
def GD(r:Ð v f i υ)(m:∀e,i≠.scr e)(j:∀c,i≠.exn c)(n:∀k d,i≠.obj k d):uX v f υ (.type (tyD i)):=by cases i with|non=>cases(show υ=.non from r);exact .non|bl b=>cases(show υ=.bl b from r);exact .bl b|int b=>cases(show υ=.int b from r);exact .int b|str b=>cases(show υ=.str b from r);exact .str b|tup d=>obtain⟨a,g,rfl,h,_⟩:=r.tupE;exact .tup h|lst d=>obtain⟨a,g,rfl,h,_⟩:=r.lstE;exact .lst h|scr e=>exact absurd rfl (m e)|exn c=>exact absurd rfl (j c)|obj k d=>exact absurd rfl (n k d)
def Ce(T:String):õ a (.builtin "isinstance") (λd H Q=>∃x t b,d=[x,.ty T]/\uX a.K H x t/\WL a.K t (.type T)=Z b/\Q (.bl b) H):=by intro n s k H d m Q I r h;obtain⟨x,t,b,rfl,f,j,q⟩:=h;obtain⟨u,e,rfl,i,c⟩:=F9 r;cases(show e=l_ T from c);exact yc I i f j λg=>⟨.bl b,H,I.tok g,rfl,q⟩
def jX(a:N->Bool):N->Option (Rs N)|.scr _=>U|.exn _=>U|.obj _ _=>U|d=>Z (.ok (.bl (a d)))
variable{Λ:Pos}
def u9{T:String}{s:N->Bool}(hk:∀K d,WL K (.type (tyD d)) (.type T)=Z (s d))(hT:Vn (b_ T)=Z (.type T))(A:b_ T≠"__name__")(q:(b_ T==("__debug__":Str))=D)(hg:Gl a "isinstance")(P:a.mg "isinstance"=U)(p:Gl a (b_ T))(n:a.mg (b_ T)=U)(ha:FE a g B)(h:k_ [g,.Name (b_ T) Λ] a.env=(D,eval g a.env)::k_ [.Name (b_ T) Λ] a.env:=by lk)(j:k_ [.Name (b_ T) Λ] a.env=(D,eval (.Name (b_ T) Λ) a.env)::k_ [] a.env:=by lk)(m:(TF z (k_ [.Name (b_ T) Λ] a.env)).any (·.1)=D:=by lk):FE a (.Call (.Name "isinstance" k) [g,.Name (b_ T) Λ] [] z) (f1 (jX s) B):=dv (hJ (Ce T) hg P PyProof.Rows.boot_isinstance (kJ ha.h (kJ (F5 (υ:=.ty T) p n hT rfl A q) uY j) h) (by decide) (by decide) h m) λσ H Q w E o=>⟨w,E,ê.bind o λd v u e1 r i=>by show∃x t b,[v,V.ty T]=[x,.ty T]/\_;cases d with|scr y=>exact i.elim|exn c=>exact i.elim|obj f ds=>exact i.elim|_=>exact⟨v,_,_,rfl,GD r (λy e=>by cases e) (λc e=>by cases e) (λf ds e=>by cases e),hk a.K _,i _ u (.refl u) rfl⟩⟩
def qY:N->Bool|.str _=>L|_=>D
def GE(K:d_)(d:N):WL K (.type (tyD d)) (.type "str")=Z (qY d):=by cases d<;>lk
def tQ:N->Bool|.tup _=>L|_=>D
def GF(K:d_)(d:N):WL K (.type (tyD d)) (.type "tuple")=Z (tQ d):=by cases d<;>lk
def fH:N->Bool|.bl _=>L|_=>D
def Cf(K:d_)(d:N):WL K (.type (tyD d)) (.type "bool")=Z (fH d):=by cases d<;>lk
def fM(g:Str->Ó)(d:Ò)(c:Þ):Ò:=λa=>Ö (d a) λx=>match x with|.str i=>Ö (c a) λb=>g i b|_=>U
def qH(h:Str->Str->Bool):Str->Ó|x,[.str y]=>Z (.ok (.bl (h x y)))|_,_=>U
def OP(h:Str->Str->Int):Str->Ó|x,[.str y]=>Z (.ok (.int (h x y)))|_,_=>U
def GG(h:Str->Str->Bool):V->List V->Hp->VK->Prop:=λx a H Q=>∃i j,x=.str i/\a=[.str j]/\Q (.bl (h i j)) H
def Lj(h:Str->Str->Int):V->List V->Hp->VK->Prop:=λx a H Q=>∃i j,x=.str i/\a=[.str j]/\Q (.int (h i j)) H
def PM:Ŋ a "str.startswith" (GG Ug):=by intro m s e H x f v g Q I b d h;obtain⟨i,j,rfl,rfl,q⟩:=h;obtain⟨t,rfl⟩:=b;obtain⟨u,rfl,c⟩:=fq d;obtain⟨k,rfl⟩:=c;exact SC.startswith ⟨.bl _,H,I,rfl,q⟩
def PN:Ŋ a "str.endswith" (GG X7):=by intro m s e H x f v g Q I b d h;obtain⟨i,j,rfl,rfl,q⟩:=h;obtain⟨t,rfl⟩:=b;obtain⟨u,rfl,c⟩:=fq d;obtain⟨k,rfl⟩:=c;exact SC.endswith ⟨.bl _,H,I,rfl,q⟩
def Cg:Ŋ a "str.rfind" (Lj acL):=by intro m s e H x f v g Q I b d h;obtain⟨i,j,rfl,rfl,q⟩:=h;obtain⟨t,rfl⟩:=b;obtain⟨u,rfl,c⟩:=fq d;obtain⟨k,rfl⟩:=c;exact SC.rfind ⟨.int _,H,I.tok _,⟨_,rfl⟩,q⟩
def GH{p:String}{r:V->List V->Hp->VK->Prop}{b:Str->Ó}(j:Slot "str" c p)(q:aci (.builtin p)=pure (.type "method_descriptor"))(hm:Ŋ a p r)(hg:∀i o n H Q,S a.K H o n->ê a H (b i o) Q->r (.str i) n H Q)(ho:FE a w B)(ha:FA a (g::A) ξ)(h:UQ w c a.env (eval w a.env)=eval w a.env:=by lk)(m:((TF z (k_ (g::A) a.env)).all (λx=>!x.1)&&(Va z (Us [] a.env)).all (λx=>x.1.isSome)&&uk ((g::A).length+([]:List V0).length+(if([]:List V0).isEmpty then 0 else 1)<30))=L:=by lk)(f:(k.endLine==z.line)=L:=by lk)(hs:k_ (g::A) a.env=(D,eval g a.env)::k_ A a.env:=by lk)(e:(TF z (k_ A a.env)).any (·.1)=D:=by lk):FE a (.Call (.Attribute w c k) (g::A) [] z) (fM b B ξ):=dv (BZ PySem.F.plainAttrs_str j q hm ho.h ha.h h m f hs e) λσ H Q s E w=>⟨s,E,ê.bind w λd v H1 e1 rd u=>by
 cases d<;>try exact(show False from u).elim
 rename_i i;cases(show v=.str i from rd);exact⟨rfl,s,E.mono e1,ç.bind u λo n H2 e2 y P=>hg i o n H2 Q y P⟩⟩
def EH{h:Str->Str->Bool}(i:Str)(d:List N)(c:List V)(H:Hp)(Q:VK)(e:S a.K H d c)(o:ê a H (qH h i d) Q):GG h (.str i) c H Q:=by
 unfold qH at o;split at o;·rename_i j;obtain⟨w,rfl,b⟩:=dt e;cases(show w=.str j from b);exact⟨i,j,rfl,rfl,o _ H (.refl H) rfl⟩
 ·exact o.elim
def Ll{h:Str->Str->Int}(i:Str)(d:List N)(c:List V)(H:Hp)(Q:VK)(e:S a.K H d c)(o:ê a H (OP h i d) Q):Lj h (.str i) c H Q:=by
 unfold OP at o;split at o;·rename_i j;obtain⟨w,rfl,b⟩:=dt e;cases(show w=.str j from b);exact⟨i,j,rfl,rfl,o _ H (.refl H) rfl⟩
 ·exact o.elim
def RQ(K:d_):R2:=λx y H Q=>∃(a b:O)(c:List Int),x=.ref a/\y=.ref b/\ă K H a (c.map V.int)/\H b=Z (.lst [])/\Q (.bl c.isEmpty) H
def PP(f:a.A.units<cLine):û a (TZ .Eq) (RQ a.K):=by intro f' s σ H x y v u Q I o m h;obtain⟨c,b,e,rfl,rfl,B,A,q⟩:=h;cases o;cases m;obtain⟨d,r,pl,hz⟩:=I.list B;obtain⟨z2,k,n2,p,a',E⟩:=I.lstM A;cases p;have j:s.heap.IsList b #[]:=⟨_,E,rfl,_,rfl⟩;have g:=r.length;cases e with
 |nil=>
 have P:d=[]:=by cases d with|nil=>rfl|cons _ _=>simp at g
 subst P;exact SeqAt.eq_listAt (e:=λ_=>L) pl.isList j rfl f (λi w=>absurd w (by simp)) (by first|exact⟨.bl _,H,I,rfl,q⟩|(refine⟨.bl _,H,I,?_,q⟩;simp[Ô]))|cons n e=>
 refine SeqAt.eq_list_lengthsAt pl.isList j ?_ f ⟨.bl _,H,I,rfl,q⟩;have:0<d.length:=by rw[<-g];simp
 simp;exactλz=>by rw[z]at this;simp at this
def OQ:N->N->Option (Rs N)|.scr a,.lst []=>Z (.ok (.bl a.isEmpty))|_,_=>U
def PQ:Ĕ a (RQ a.K) OQ:=by
 intro m k x y H Q f e o;unfold OQ at o;split at o;·rename_i g;obtain⟨c,rfl,j⟩:=f.scrE;obtain⟨b,d,rfl,i,h⟩:=e.lstE;cases(show d=[]from h);exact⟨c,b,g,rfl,rfl,j,i,o _ H (.refl H) rfl⟩
 ·exact o.elim
def Lm:Vn (b_ "str")=Z (.type "str"):=PyProof.Rows.boot_str
def Ci:Vn (b_ "tuple")=Z (.type "tuple"):=by decide+kernel
def GI:Vn (b_ "bool")=Z (.type "bool"):=by decide+kernel
mutual
def du:N->PyData|.non=>.none|.bl b=>.bool b|.int i=>.int i|.str x=>.str x|.tup a=>.tuple (ä a)|.lst a=>.list (ä a)|.scr c=>.list (c.map PyData.int)|.exn _=>.dict []|.obj _ _=>.dict []def ä:List N->List PyData|[]=>[]|d::e=>du d::ä e
end
def oq{s:ge}:∀{b:List Int}{a:List R},Ë (b.map V.int) a->∃as,ReadsAll s.heap a (b.map PyData.int) as|[],a,r=>by cases r;exact⟨_,.nil⟩|n::b,a,r=>by cases r with|cons d c=>obtain⟨t,rfl⟩:=d;obtain⟨as,q⟩:=oq c;exact⟨_,.cons (.int n t) q⟩
mutual
theorem Ð.reads{X:C}{P:List (O×Obj)}{A:L2.St}{H:Hp}{s:ge}(I:Ê X P A H s):∀(d:N)(v:V)(u:R),Ð X.K H d v->Ô v u->(du d).canLay0=L->∃as,Reads s.heap u (du d) as|.non,v,u,r,q,f=>by cases(show v=.non from r);cases(show u=C_ from q);exact⟨_,.none⟩|.bl b,v,u,r,q,f=>by cases(show v=.bl b from r);cases(show u=H_ b from q);exact⟨_,.bool b⟩|.int i,v,u,r,q,f=>by cases(show v=.int i from r);obtain⟨t,rfl⟩:=(show∃t,u=ZF i t from q);exact⟨_,.int i t⟩|.str x,v,u,r,q,f=>by cases(show v=.str x from r);obtain⟨t,rfl⟩:=(show∃t,u=U5 x t from q);exact⟨_,.str x t⟩|.tup g,v,u,r,q,f=>by obtain⟨a,B,rfl,h,E⟩:=r.tupE;cases(show u=z_ a from q);obtain⟨j,p,⟨o,e,c,n,d⟩,hz⟩:=I.tuple (ð.of h);obtain⟨as,w⟩:=S.reads I g B j E p (by simpa[du,Uh]using f);exact⟨as,.tuple e c d (by simpa using w)⟩|.lst g,v,u,r,q,f=>by obtain⟨a,B,rfl,h,E⟩:=r.lstE;cases(show u=z_ a from q);obtain⟨z,j,n,p,hl,e⟩:=I.lstM h;obtain⟨as,w⟩:=S.reads I g B j E p (by simpa[du,Uh]using f);exact⟨a::as,.list e rfl rfl (by simpa using w)⟩|.scr ns,v,u,r,q,f=>by obtain⟨a,rfl,h⟩:=r.scrE;cases(show u=z_ a from q);obtain⟨j,p,⟨o,n,e,c,hd,d⟩,hz⟩:=I.list h;obtain⟨as,w⟩:=oq (s:=s) p;exact⟨a::as,.list e c d (by simpa using w)⟩|.exn c,v,u,r,q,f=>by simp[du,Uh]at f|.obj c g,v,u,r,q,f=>by simp[du,Uh]at f
theorem S.reads{X:C}{P:List (O×Obj)}{A:L2.St}{H:Hp}{s:ge}(I:Ê X P A H s):∀(g:List N)(m:List V)(k:List R),S X.K H g m->Ë m k->Vz (ä g)=L->∃as,ReadsAll s.heap k (ä g) as|[],m,k,r,q,_=>by cases(show m=[]from r);cases q;exact⟨_,.nil⟩|d::g,m,k,r,q,f=>by obtain⟨v,ws,rfl,r1,r2⟩:∃v k,m=v::k/\Ð X.K H d v/\S X.K H g k:=r;cases q with|cons q1 q2=>
 have y:(du d).canLay0=L/\Vz (ä g)=L:=by simpa[ä,Vz]using f
 obtain⟨as,a⟩:=Ð.reads I d v _ r1 q1 y.1;obtain⟨bs,b⟩:=S.reads I g ws _ r2 q2 y.2;exact⟨_,.cons a b⟩end
def okP(d:N):Bool:=SeqAt.shaped (du d)
def rPy(X:C)(c:Bool):R2:=λx y H Q=>∃b a,Ð X.K H b x/\Ð X.K H a y/\okP b=L/\okP a=L/\Q (.bl (if c then !UC (du b) (du a)else UC (du b) (du a))) H
def Ln(k:a.A.units+64<cLine):û a (TZ .Eq) (rPy a D):=by intro p s o H x y v u Q I e d h;obtain⟨n,m,j,i,c,b,q⟩:=h;obtain⟨as,g⟩:=Ð.reads I n x v j e (Vs.mp c).1;obtain⟨bs,f⟩:=Ð.reads I m y u i d (Vs.mp b).1;exact SeqAt.compareEq_shaped g f c b k ⟨.bl _,H,I,rfl,q⟩
def Lo(k:a.A.units+64<cLine):û a (TZ .NotEq) (rPy a L):=by intro p s o H x y v u Q I e d h;obtain⟨n,m,j,i,c,b,q⟩:=h;obtain⟨as,g⟩:=Ð.reads I n x v j e (Vs.mp c).1;obtain⟨bs,f⟩:=Ð.reads I m y u i d (Vs.mp b).1;exact SeqAt.compareNe_shaped g f c b k ⟨.bl _,H,I,rfl,q⟩
def à(x y:N):Option (Rs N):=match Ş x y with|some b=>Z (.ok (.bl b))|none=>if okP x&&okP y then Z (.ok (.bl (UC (du x) (du y))))else U
def ď(x y:N):Option (Rs N):=match Ş x y with|some b=>Z (.ok (.bl (!b)))|none=>if okP x&&okP y then Z (.ok (.bl (!UC (du x) (du y))))else U
def RS(X:C):R2:=λx y H Q=>rEq x y H Q\/rPy X D x y H Q
def RT(X:C):R2:=λx y H Q=>rNe x y H Q\/rPy X L x y H Q
def GJ(b:a.A.units+64<cLine):û a (TZ .Eq) (RS a):=op_eq.or (Ln b)
def GK(b:a.A.units+64<cLine):û a (TZ .NotEq) (RT a):=op_ne.or (Lo b)
def GL:Ĕ a (RS a) à:=by
 intro j i x y H Q e d o;unfold à at o;split at o;·rename_i b f;obtain⟨h,g⟩:=EC e d f;exact .inl ⟨h,by rw[g];exact o _ H (.refl H) rfl⟩
 · split at o;·rename_i c;rw[pi]at c;exact .inr ⟨j,i,e,d,c.1,c.2,o _ H (.refl H) rfl⟩
   ·exact o.elim
def GM:Ĕ a (RT a) ď:=by
 intro j i x y H Q e d o;unfold ď at o;split at o;·rename_i b f;obtain⟨h,g⟩:=EC e d f;exact .inl ⟨h,by rw[g];exact o _ H (.refl H) rfl⟩
 · split at o;·rename_i c;rw[pi]at c;exact .inr ⟨j,i,e,d,c.1,c.2,o _ H (.refl H) rfl⟩
   ·exact o.elim
def ltX:N->N->Option (Rs N)|.int i,.int j=>Z (.ok (.bl (uk (i<j))))|.str x,.str y=>Z (.ok (.bl (uk (x.cps.toList<y.cps.toList))))|_,_=>U
def RU:R2:=λx y H Q=>ŕ (λi j=>.bl (uk (i<j))) x y H Q\/∃i j,x=.str i/\y=.str j/\Q (.bl (uk (i.cps.toList<j.cps.toList))) H
def Lp:û a (TZ .Lt) RU:=op_lt.or xW
def Lq:Ĕ a RU ltX:=by
 intro e d x y H Q c b o;cases e<;>cases d<;>try exact(show False from o).elim
 ·rename_i i j;exact .inl ⟨i,j,c,b,o _ H (.refl H) rfl⟩
 ·rename_i i j;exact .inr ⟨i,j,c,b,o _ H (.refl H) rfl⟩
def qZ:∀(a:List Str)(k:Nat),Ë (a.map V.str) (strsFrom k a)|[],_=>.nil|p::a,k=>.cons ⟨k,rfl⟩ (qZ a (k+1))
def q8{K:d_}{H:Hp}:∀a:List Str,S K H (a.map N.str) (a.map V.str)|[]=>rfl|p::a=>⟨.str p,a.map V.str,rfl,rfl,q8 a⟩
def iu:Str->Ó|x,[.str y]=>if y.length≠0/\x.length<=100000/\(Wh x y).length<=100000 then Z (.ok (.lst ((Wh x y).map N.str)))else U|_,_=>U
def EI:V->List V->Hp->VK->Prop:=λx a H Q=>∃i j,x=.str i/\a=[.str j]/\j.length≠0/\i.length<=sizeLine/\(Wh i j).length<=sizeLine/\∀p,H p=U->Q (.ref p) (Û H p (.lst ((Wh i j).map V.str)))
def Cj:Ŋ a "str.split" EI:=by
 intro z s n H x A v B Q I o r h;obtain⟨i,j,rfl,rfl,w,y,f,q⟩:=h;obtain⟨t,rfl⟩:=o;obtain⟨u,rfl,p⟩:=fq r;obtain⟨d,rfl⟩:=p;have m:(j.length==0)=D:=by simpa using w
 have one:∀{k:ge},k={s with heap:=s.heap.push {cls:=.type "list",data:=.seq [U5 i t].toArray}}->Wh i j=[i]->EP a z n Q (.ref s.heap.objs.size) k:=λe g=>by subst e;rw[g]at q;exact⟨.ref _,_,I.lnew (its:=[U5 i t]) (ys:=[V.str i]) (t':=s.toks) (.cons ⟨t,rfl⟩ .nil) (by show 1<=sizeLine;decide),rfl,q _ I.fresh⟩
 cases b:(uk (i.length<j.length)||uk (VY i<VY j))
 · cases c:(Um i j 0 i.length (i.length+1)).isEmpty
   · have g:Wh i j=Builtin.Str.partsBetween i (Um i j 0 i.length (i.length+1)) j.length:=by unfold Wh;rw[if_neg (by rw[b];exact D_),if_neg (by rw[c];exact D_)]
     rw[g]at q f;refine Yw X1 (XE _ _ _) Zh (Y3 _ _) (meets_str_split_sep i j t d b m c y f) ?_;exact⟨.ref _,_,I.lnew (t':=_) (qZ _ _) (by rw[N_];exact f),rfl,q _ I.fresh⟩
   ·refine Yw X1 (XE _ _ _) Zh (Y3 _ _) (meets_str_split_not_found i j t d b m c) ?_;exact one rfl (by unfold Wh;rw[if_neg (by rw[b];exact D_),if_pos c])
 ·refine Yw X1 (XE _ _ _) Zh (Y3 _ _) (meets_str_split_cannot_occur i j t d b) ?_;exact one rfl (by unfold Wh;rw[if_pos b])
def GN(i:Str)(e:List N)(d:List V)(H:Hp)(Q:VK)(f:S a.K H e d)(o:ê a H (iu i e) Q):EI (.str i) d H Q:=by
 unfold iu at o;split at o
 · rename_i j;split at o;·rename_i b;obtain⟨w,rfl,c⟩:=dt f;cases(show w=.str j from c);exact⟨i,j,rfl,rfl,b.1,bX b.2.1,bX b.2.2,λp g=>o _ _ (aC g _) ⟨p,_,rfl,au,q8 _⟩⟩
   ·exact o.elim
 ·exact o.elim
def wP:List N->Option (List Str)|[]=>Z []|.str x::r=>(match wP r with|some a=>Z (x::a)|none=>U)|_=>U
def Ck:Str->Ó|x,[.lst b]=>(match wP b with|some a=>if JoinOk x a=L then Z (.ok (.str (Xe x a)))else U|none=>U)|_,_=>U
def Lr(K:d_):V->List V->Hp->VK->Prop:=λx e H Q=>∃i a c d b,x=.str i/\e=[.ref a]/\H a=Z (.lst c)/\S K H d c/\wP d=Z b/\JoinOk i b=L/\Q (.str (Xe i b)) H
def ot{K:d_}{H:Hp}:∀{e:List N}{c:List V}{a:List R}{f:List Str},S K H e c->Ë c a->wP e=Z f->∃l:List (Str×Tok),a=strValues l/\l.map (·.1)=f
 |[],c,a,f,r,q,h=>by cases(show c=[]from r);cases q;cases h;exact⟨[],rfl,rfl⟩|d::e,c,a,f,r,q,h=>by obtain⟨v,s,rfl,j,i⟩:∃v a,c=v::a/\Ð K H d v/\S K H e a:=r;cases q with|cons m k=>
 cases d<;>try(cases h;done)
 rename_i b;simp only[wP]at h;cases g:wP e with|none=>rw[g]at h;cases h|some p=>rw[g]at h;cases h;cases(show v=.str b from j);obtain⟨t,rfl⟩:=m;obtain⟨l,o,n⟩:=ot i k g;exact⟨(b,t)::l,by rw[o];rfl,by rw[F_,n]⟩
def GO:Ŋ a "str.join" (Lr a.K):=by intro f' s A H x B v P Q I c g h;obtain⟨i,b,E,ds,ts,rfl,rfl,p,o,m,j,q⟩:=h;obtain⟨t,rfl⟩:=c;obtain⟨u,rfl,f⟩:=fq g;cases f;obtain⟨z,y,n,d,hl,e⟩:=I.lstM p;obtain⟨l,w,r⟩:=ot o d m;subst w;exact SC.join ⟨_,e,rfl,_,rfl⟩ r j λt' k=>⟨.str _,H,I.tok _,⟨_,rfl⟩,q⟩
def Ls(i:Str)(e:List N)(d:List V)(H:Hp)(Q:VK)(h:S a.K H e d)(o:ê a H (Ck i e) Q):Lr a.K (.str i) d H Q:=by
 unfold Ck at o;split at o
 · rename_i p;split at o
   · rename_i g j;split at o;·rename_i k;obtain⟨w,rfl,c⟩:=dt h;obtain⟨b,f,rfl,n,m⟩:=c.lstE;exact⟨i,b,f,p,g,rfl,rfl,n,m,j,k,o _ H (.refl H) rfl⟩
     ·exact o.elim
   ·exact o.elim
 ·exact o.elim
def pD:Str->Ó|x,[.str y]=>if y.length≠0/\x.length<=100000 then Z (.ok (.tup [.str (V4 x y).1,.str (V4 x y).2.1,.str (V4 x y).2.2]))else U|_,_=>U
def Lu:V->List V->Hp->VK->Prop:=λx a H Q=>∃i j,x=.str i/\a=[.str j]/\j.length≠0/\i.length<=sizeLine/\∀p,H p=U->Q (.ref p) (Û H p (.tup [.str (V4 i j).1,.str (V4 i j).2.1,.str (V4 i j).2.2]))
def GP:Ŋ a "str.partition" Lu:=by
 intro f' s p H x xs v us Q I y A h;obtain⟨i,j,rfl,rfl,E,P,q⟩:=h;obtain⟨t,rfl⟩:=y;obtain⟨u,rfl,z⟩:=fq A;obtain⟨w,rfl⟩:=z;have B:(j.length==0)=D:=by simpa using E
 have f:∀(d b c:Str)(n m g:Tok)(k:Nat),V4 i j=(d,b,c)->EP a f' p Q (.ref s.heap.objs.size) {s with toks:=k,heap:=s.heap.push {cls:=.type "tuple",data:=.seq [U5 d n,.str b m,.str c g].toArray}}:=λd b c n m g k e=>by rw[e]at q;refine⟨.ref _,_,I.laid (t':=k) (λb u e=>i_ _ e) (o_ _) ?_,rfl,q _ I.fresh⟩;exact⟨by show 3<=sizeLine;decide,[U5 d n,.str b m,.str c g],.cons ⟨_,rfl⟩ (.cons ⟨_,rfl⟩ (.cons ⟨_,rfl⟩ .nil)),⟨_,m_ _ rfl,rfl,_,rfl⟩⟩
 refine Yw ZI (XE _ _ _) F.entry_str_partition (F.args_str_partition_2 _ _) (meets_str_partition i j t w B P) ?_;cases o:Um i j 0 i.length 1 with|nil=>exact f _ _ _ _ _ _ _ (by unfold V4;rw[o])|cons k r=>exact f _ _ _ _ _ _ _ (by unfold V4;rw[o])
def Lv(i:Str)(e:List N)(c:List V)(H:Hp)(Q:VK)(f:S a.K H e c)(o:ê a H (pD i e) Q):Lu (.str i) c H Q:=by
 unfold pD at o;split at o
 · rename_i j;split at o;·rename_i d;obtain⟨w,rfl,b⟩:=dt f;cases(show w=.str j from b);exact⟨i,j,rfl,rfl,d.1,bX d.2,λp g=>o _ _ (aC g _) ⟨p,_,rfl,au,⟨_,_,rfl,rfl,_,_,rfl,rfl,_,_,rfl,rfl,rfl⟩⟩⟩
   ·exact o.elim
 ·exact o.elim
def iw:Ó|[.lst a]=>Z (.ok (.tup a))|[.tup a]=>Z (.ok (.tup a))|_=>U
def Co(s:Gl a "tuple")(q:a.mg "tuple"=U)(w:FA a (g::A) ξ)(u:k_ (g::A) a.env=(D,eval g a.env)::k_ A a.env:=by lk)(h:(TF z (k_ A a.env)).any (·.1)=D:=by lk):FE a (.Call (.Name "tuple" k) (g::A) [] z) (Ý iw ξ):=dv (mw pc s q (by decide+kernel) w.h (by decide) (by decide) u h) λy H Q n E o=>⟨n,E,ç.bind o λds B m P i d=>by
 unfold iw at d;split at d;·rename_i p;obtain⟨v,rfl,r⟩:=dt i;obtain⟨b,c,rfl,e,f⟩:=r.lstE;exact⟨b,c,rfl,.inl ⟨ă.of e,λl j=>d _ _ (aC j _) ⟨l,c,rfl,au,S.mono (aC j _) _ _ f⟩⟩⟩
 ·rename_i p;obtain⟨v,rfl,r⟩:=dt i;obtain⟨b,c,rfl,e,f⟩:=r.tupE;exact⟨b,c,rfl,.inr ⟨ð.of e,d _ m (.refl m) ⟨b,c,rfl,e,f⟩⟩⟩
 ·exact d.elim⟩
def OR(x:N):List N->Nat->Option Nat|[],_=>U|y::a,k=>if eqF y x then Z k else OR x a (k+1)
def PR:List N->Ó|a,[x]=>if kK x&&a.all kK&&uk (a.length<=100000)then(match OR x a 0 with|some j=>Z (.ok (.int j))|none=>U)else U|_,_=>U
def yC{K:d_}{H:Hp}{x:N}{u:V}(q:Ð K H x u)(o:kK x=L):∀{d:List N}{b:List V}{k j:Nat},S K H d b->d.all kK=L->OR x d k=Z j->k<=j/\(∃v,b[j-k]?=Z v/\ŀ v u=L)/\∀(m:Nat)v,m<j-k->b[m]?=Z v->ŀ v u=D
 |[],b,k,j,r,_,h=>by cases h|y::s,b,k,j,r,g,h=>by
  obtain⟨v,ws,rfl,B,A⟩:∃v i,b=v::i/\Ð K H y v/\S K H s i:=r;rw[VN,pi]at g;unfold OR at h;have p:=EE B q g.1 o;split at h;·rename_i f;cases h;refine⟨o_ _,⟨v,by simp,by rw[p];exact f⟩,λm w E=>by omega⟩
  · rename_i f;obtain⟨a,⟨w,b1,P⟩,c⟩:=yC q o A g.2 h;refine⟨by omega,⟨w,?_,P⟩,λm z E n=>?_⟩
    · have e:j-k=(j-(k+1))+1:=by omega
      rw[e,XZ];exact b1
    ·cases m with|zero=>
      have:z=v:=by simpa using n.symm
      subst this;rw[p];simpa using f|succ m=>exact c m z (by omega) (by simpa using n)
def Lw:V->List V->Hp->VK->Prop:=λx c H Q=>∃a b y j,x=.ref a/\c=[y]/\H a=Z (.lst b)/\jH y=L/\b.all jH=L/\b.length<=100000/\(∃v,b[j]?=Z v/\ŀ v y=L)/\(∀(m:Nat)v,m<j->b[m]?=Z v->ŀ v y=D)/\Q (.int j) H
def EJ(r:Ë ν E)(f:ν.all jH=L){m:Nat}{v:V}(h:ν[m]?=Z v):∃a:m<E.length,ĺ υ E[m]=ŀ v υ:=by obtain⟨u,c,b⟩:=r.get h;obtain⟨a,e⟩:=B_.mp c;refine⟨a,?_⟩;rw[e];exact ym b (Uz.mp f v (S_ h))
def Cp:Ŋ a "list.index" Lw:=by
 intro f' s σ H x xs v us Q I r B h;obtain⟨b,p,y,j,rfl,rfl,h1,fy,f,hz,⟨w,E,o⟩,i,q⟩:=h;cases r;obtain⟨u,rfl,A⟩:=fq B;obtain⟨z,g,n,d,hl,e⟩:=I.lstM h1;obtain⟨hj,ej⟩:=EJ (υ:=y) d f E;refine Yw ZJ ⟨_,e,rfl⟩ PySem.F.entry_list_index (PySem.F.args_list_index_2 _ _) (SeqAt.list_indexAt b g.toArray n U #[] u (ĺ y) j (by simpa using hj) (by omega) (by simpa[ej]using o) λm hm k=>?_) ⟨e,λt P=>ji A fy d f t (by simpa using P),⟨.int j,H,I.tok _,⟨_,rfl⟩,q⟩⟩;have c:m<p.length:=by rw[d.length];simpa using hm
 obtain⟨a',em⟩:=EJ (υ:=y) d f (t_ c);have:=i m p[m] k (t_ c);simpa[em]using this
def fML(g:List N->Ó)(d:Ò)(c:Þ):Ò:=λa=>Ö (d a) λx=>match x with|.lst i=>Ö (c a) λb=>g i b|_=>U
def Cq(ho:FE a w B)(ha:FA a (g::A) ξ)(i:UQ w "index" a.env (eval w a.env)=eval w a.env:=by lk)(p:((TF z (k_ (g::A) a.env)).all (λx=>!x.1)&&(Va z (Us [] a.env)).all (λx=>x.1.isSome)&&uk ((g::A).length+([]:List V0).length+(if([]:List V0).isEmpty then 0 else 1)<30))=L:=by lk)(h:(k.endLine==z.line)=L:=by lk)(hs:k_ (g::A) a.env=(D,eval g a.env)::k_ A a.env:=by lk)(e:(TF z (k_ A a.env)).any (·.1)=D:=by lk):FE a (.Call (.Attribute w "index" k) (g::A) [] z) (fML PR B ξ):=dv (BZ XS ZJ PySem.F.type_list_index Cp ho.h ha.h i p h hs e) λσ H Q q E w=>⟨q,E,ê.bind w λd v H1 e1 rd s=>by
 cases d<;>try exact(show False from s).elim
 rename_i ds;obtain⟨c,r,rfl,y,u⟩:=rd.lstE;refine⟨.inl ⟨rfl,r,ă.of y⟩,q,E.mono e1,ç.bind s λA ws H2 P rs f=>?_⟩;unfold PR at f;split at f
 · rename_i x;split at f
   · rename_i m;rw[pi,pi]at m;split at f;·rename_i j hj;obtain⟨b,rfl,n⟩:=dt rs;have o:=S.mono P _ _ u;obtain⟨c1,c2,c3⟩:=yC n m.1.1 o m.1.2 hj;refine⟨c,r,b,j,rfl,rfl,P _ _ y,tM n m.1.1,pq o m.1.2,by rw[u.length];exact of_decide_eq_true m.2,by simpa using c2,by simpa using c3,f _ H2 (.refl H2) rfl⟩
     ·exact f.elim
   ·exact f.elim
 ·exact f.elim⟩
structure FG(X:C)(tg:u_)(b:N->Ev->Option Ev):Prop where h:∀(f':List (O×Obj))(s:ge)(σ:L2.St)(H:Hp)(v:V)(u:R)(d:N)(ρ ρ':Ev),Ê X f' σ H s->Ô v u->Ð X.K H d v->Ø X.K H σ ρ->b d ρ=Z ρ'->q_ (w_ X.prog X.w) X.A (WK tg X.env u) (λ_ s'=>∃σ' H',Ê X f' σ' H' s'/\Í H H'/\Ø X.K H' σ' ρ') X.xe s
def gN(i:Nat):N->Ev->Option Ev:=λd a=>Z (a.set i (Z d))
def gP(i j:Nat):N->Ev->Option Ev:=λd b=>match d with|.tup [a,c]=>Z ((b.set i (Z a)).set j (Z c))|_=>U
def GQ(i:Nat){x:Str}(m:a.N.Nodup)(h:a.N[i]?=Z x)(g:ĸ a.env.scope x)(j:a.fn x=L\/a.env.scope.names.lookup x=Z .local):FG a (.Name x k) (gN i):=⟨λn s c H v u d y w I r rd E e=>by cases e;exact á (gZ m h g j n s c H v u (λb f=>f=H/\b=c.set i (Z v)) I r ⟨rfl,rfl⟩) λ_ z⟨b,f,q,p,o⟩=>by subst p o;exact⟨_,_,q,.refl _,E.set rd⟩⟩
def yD(i j:Nat){x y:Str}{b:Nat}(hc:a.calm=L)(w:a.N.Nodup)(hi:a.N[i]?=Z x)(hx:ĸ a.env.scope x)(hf:a.fn x=L\/a.env.scope.names.lookup x=Z .local)(hj:a.N[j]?=Z y)(hy:ĸ a.env.scope y)(hg:a.fn y=L\/a.env.scope.names.lookup y=Z .local)(o:(T_ [.Name x z,.Name y Λ] a.env).map (·.2)=WK (.Name x z) a.env::(T_ [.Name y Λ] a.env).map (·.2):=by lk)(n:(T_ [.Name y Λ] a.env).map (·.2)=WK (.Name y Λ) a.env::(T_ [] a.env).map (·.2):=by lk)(hn:(T_ [.Name x z,.Name y Λ] a.env).length=2:=by lk)(m:(T_ [.Name x z,.Name y Λ] a.env).findIdx? (·.1)=U:=by lk):FG a (.Tuple [.Name x z,.Name y Λ] b k) (gP i j):=⟨λf' s p H v u d ρ a' I r rd E e=>by
 unfold gP at e;split at e;·rename_i f c;cases e;obtain⟨ad,xs,rfl,h1,h2⟩:=rd.tupE;obtain⟨q,h,rfl,P,B⟩:=Cc h2;refine á (Em (o:=2) hc (o8 (gZ (b:=i) w hi hx hf) (o8 (gZ (b:=j) w hj hy hg) xQ n) o) hn m f' s p H _ u (λg A=>A=H/\g=(p.set i (Z q)).set j (Z h)) I r ⟨ad,_,rfl,ð.of h1,rfl,q,[h],rfl,h,[],rfl,rfl,rfl,rfl⟩) λ_ s'⟨g,A,I',e1,e2⟩=>?_;subst e1 e2;exact⟨_,_,I',.refl _,(E.set P).set B⟩
 ·cases e⟩
structure Ų(K:d_)(J:It)(ds:List N)(H0:Hp):Prop where
 go:∀i H,Í H0 H->i<ds.length->J.go i H
 stop:∀H,Í H0 H->J.stop ds.length H
 yld:∀i H x H',Í H0 H->i<ds.length->J.yld i H x H'->Í H H'/\∃d,ds[i]?=Z d/\Ð K H' d x
def Wk.toG{J:It}(w:Wk v J r f):Ų v J r f:=⟨w.go,w.stop,λi H x g e a y=>by obtain⟨rfl,d,c,b⟩:=w.yld i H x g e a y;exact⟨.refl _,d,c,b⟩⟩
def ĥ(X:C)(H:Hp)(o:Option (Rs (List N)))(R:It->Hp->Prop):Prop:=match o with|none=>False|some (.exc c)=>XW X c H|some (.ok b)=>∀J a,Í H a->Ų X.K J b a->R J a
def ĥ.mono{R:It->Hp->Prop}(e:Í f Α):∀{o:Option (Rs (List N))},ĥ a f o R->ĥ a Α o R|none,h=>h|some (.exc _),h=>XW.mono h e|some (.ok _),h=>λv c b r=>h v c (e.trans b) r
structure Ō(X:C)(tg iter:u_)(f:Þ):Prop where h:PI X tg iter λσ H R=>∃ρ,Ø X.K H σ ρ/\ĥ X H (f ρ) R
def FI.toG(h:FI a g w ξ):Ō a g w ξ:=⟨λi s f H R I⟨d,E,o⟩=>h.h i s f H R I ⟨d,E,by match k:ξ d,o with|some (.exc c),o=>exact o|some (.ok m),o=>exactλJ j e b=>o J j e b.toG⟩⟩
def iD(m:Nat)(b:List (Str×Nat))(a:Ev):Ev:=Ud m U++b.map λc=>(a[c.2]?).join
def kL(b:N->Ev->Option Ev)(a:Option å)(c:Ò)(e:Ev):List N->Option (List N)|[]=>Z []|d::g=>match b d e with|none=>U|some f=>match(match a with|none=>(Z (.ok L):Option (Rs Bool))|some t=>t f)with|some (.ok L)=>(match c f with|some (.ok y)=>(match kL b a c e g with|some h=>Z (y::h)|none=>U)|_=>U)|some (.ok D)=>kL b a c e g|_=>U
def q9(m:Nat)(b:List (Str×Nat))(a:L2.St):L2.St:=Ud m U++b.map λc=>(a[c.2]?).join
def rf{l:List (Option P)}(h:(Ud b (U:Option P)++l)[o]?=Z (Z È)):∃k,o=b+k/\l[k]?=Z (Z È):=by
 by_cases a:o<b;·rw[M_ (by simpa using a),XY,if_pos a]at h;cases h
 ·refine⟨o-b,by omega,?_⟩;rw[P_ (by simpa using a)]at h;simpa using h
def yF(m:Nat)(g:List (Str×Nat))(E:Ø v f Ν ζ):Ø v f (q9 m g Ν) (iD m g ζ):=by refine⟨by simp[q9,iD],λi d h=>?_⟩;obtain⟨k,rfl,b⟩:=rf h;rw[J_]at b;cases e:g[k]? with|none=>rw[e]at b;simp at b|some c=>
 rw[e]at b;simp only[VW,Wq]at b;have p:ζ[c.2]?=Z (Z d):=by cases q:ζ[c.2]? with|none=>rw[q]at b;simp at b|some o=>rw[q]at b;simp at b;rw[b]
 obtain⟨a,n,j⟩:=E.at' c.2 d p;refine⟨a,?_,j⟩;unfold q9;rw[P_ (by simp)];simp only[VE,ZO,J_,e,VW,n];rfl
def rg{b:Zs->ge->Prop}{a':u_}{c':R}{f:Env}(I:Nat->ge->Prop)(d':∀a d,I a d->q_ (w_ n j) s (Wf ψ) (λr z=>match r with|none=>b (.ok .next) z|some v=>q_ (w_ n j) s (YH w ψ v) (λ_ P=>q_ (w_ n j) s (WK w f v) (λ_ H=>q_ (w_ n j) s (G' A L λc r=>if r=L then do let ok<-isTrue c f (eval c f);pure (W4 ok)else pure (W4 r)) (λok y=>if ok=L then q_ (w_ n j) s (eval g f) (λx u=>q_ (w_ n j) s (call (.builtin "list.append") [c',x]) (λ_ q=>∃m,m<a/\I m q) (abr (w_ n j) s f λe p=>b (.error e) p) u) (abr (w_ n j) s f λe p=>b (.error e) p) y else∃m,m<a/\I m y) (abr (w_ n j) s f λe p=>b (.error e) p) H) (abr (w_ n j) s f λe p=>b (.error e) p) P) (abr (w_ n j) s f λe p=>b (.error e) p) z) (abr (w_ n j) s f λe p=>b (.error e) p) d)(a:Nat)(h:I a d):WH (w_ n j) s (.compLoop (.ListComp g [⟨w,a',A,0⟩] τ k) 0 ψ c' f) b d:=by refine codeAny_loop rfl I (λa d hI=>?_) a h;show q_ _ s ((compTurn (.ListComp g [⟨w,a',A,0⟩] τ k) 0 ψ c' f).onRaise (λx=>do noteFrame x f;theTreesLotGoes x)) _ _ d;refine wpAny_noted ?_;rw[compTurn_list];refine ck (aa9 (ck (Ur (d' a d hI) (λr z b'=>?_) λ_ _ o=>o)));cases r with|none=>exact h_ b'|some v=>refine ck (Ur b' (λ_ P f'=>?_) λ_ _ o=>o);refine ck (Ur f' (λ_ H e'=>ck (Ur e' (λok y i=>?_) λ_ _ o=>o)) λ_ _ o=>o);cases ok with
 |false=>rw[if_neg D_]at i;first|exact ck (h_ (h_ ⟨rfl,i⟩))|exact h_ ⟨rfl,i⟩|(show q_ _ _ (T' _) _ _ _;exact h_ ⟨rfl,i⟩)
 |true=>rw[if_pos rfl]at i;first|exact ck (ck (Ur i (λx u E=>ck (Ur E (λ_ q B=>h_ (h_ ⟨rfl,B⟩)) λ_ _ o=>o)) λ_ _ o=>o))|exact ck (Ur i (λx u E=>ck (Ur E (λ_ q B=>h_ ⟨rfl,B⟩) λ_ _ o=>o)) λ_ _ o=>o)
def cu(m:Nat)(h:List (Str×Nat))(c:Þ)(b:N->Ev->Option Ev)(a:Option å)(d:Ò):Ò:=λe=>Ö (c e) λg=>match kL b a d (iD m h e) g with|some f=>if f.length<=100000/\g.length<=100000 then Z (.ok (.lst f))else U|none=>U
def PU{j:List (Str×Nat)}{a:N->Ev->Option Ev}{d:Option å}{o:Rs N}(h:cu b j ξ a d B ζ=Z o):(∃c,ξ ζ=Z (.exc c)/\o=.exc c)\/∃e f,ξ ζ=Z (.ok e)/\kL a d B (iD b j ζ) e=Z f/\e.length<=100000/\f.length<=100000/\o=.ok (.lst f):=by unfold cu at h;match i:ξ ζ with|none=>rw[i]at h;cases h|some (.exc c)=>rw[i]at h;cases h;exact .inl ⟨c,rfl,rfl⟩|some (.ok e)=>rw[i]at h;dsimp only[Ö]at h;match g:kL a d B (iD b j ζ) e with
 |none=>rw[g]at h;cases h|some f=>
 rw[g]at h;dsimp only at h;split at h;·rename_i k;cases h;exact .inr ⟨e,f,rfl,g,k.2,k.1,rfl⟩
 ·cases h
def Lx(c:List (Str×Nat))(b:Ev)(d:N)(a:Ev)(h:gN 0 d (iD 1 c b)=Z a):fgt [0] a=iD 1 c b:=by cases h;rfl
def PV(c:List (Str×Nat))(b:Ev)(d:N)(a:Ev)(h:gP 0 1 d (iD 2 c b)=Z a):fgt [0,1] a=iD 2 c b:=by
 unfold gP at h;split at h;·cases h;rfl
 ·cases h
def Ite(K:d_)(a:O):It:=⟨λi H=>∃b x,ă K H a b/\b[i]?=Z x,λi H v c=>∃p x,v=.ref p/\H p=U/\c=Û H p (.tup [.int i,x])/\∀b,ă K H a b->b[i]?=Z x,λi H=>∃b,ă K H a b/\b.length<=i⟩
def yG(a e B:O)(e':e≠B):xR n j v (.Tuple A b k) (Ite v a) [e,B] e (λi h=>(∃P,IsEnum h e B i P)/\h.IsListIter B a i)where
 mem:=by simp
 obj:=λi h st f hb=>by
  obtain⟨⟨P,he⟩,o,e2,c,d⟩:=st;have n':f=e\/f=B:=by simpa using hb
  rcases n' with rfl|rfl;·exact⟨_,he,λw z=>by cases z⟩
  ·exact⟨o,e2,λw z=>by rw[d]at z;cases z⟩
 keep:=λi h h' st kk=>by obtain⟨⟨P,he⟩,a'⟩:=st;exact⟨⟨P,kk e (by simp) _ he⟩,a'.at λo ee=>kk B (by simp) o ee⟩
 item:=by
  intro X hP hw hK hc i f' s σ H E g hf st hg;subst hP hw hK;obtain⟨xs,x,hq,hx⟩:=hg;obtain⟨l',rv,p,hz⟩:=g.list hq;obtain⟨u,hu,ru⟩:=rv.get hx;obtain⟨⟨P,he⟩,a'⟩:=st;obtain⟨f0,f1,I,f3,f4,f5⟩:=hf e (by simp);obtain⟨g0,g1,g2,g3,g4,g5⟩:=hf B (by simp);refine wpAny_pyNext_enum_item he a' p.isList (x:=u) (by simpa using hu) e' λh' eo k' tp sz kk=>?_;refine⟨_,rfl,wpAny_letOwnedTupleGo_enum eo λh2 m' c'=>?_⟩;have hp:H s.heap.objs.size=U:=g.hok.fresh (o_ _);have g':e<s.heap.objs.size:=s_ he;have k2:∀f o,f∉[e,B]->s.heap.get? f=Z o->h2.get? f=Z o:=λf o hb q=>c'.extBut f o (λz=>hb (by simp[z])) (kk f o (λz=>hb (by simp[z])) (λz=>hb (by simp[z])) q);have i':h2.get? s.heap.objs.size=Z {cls:=.type "tuple",data:=.seq #[.int i s.toks,u]}:=c'.extBut _ _ (Wr g') tp;have I1:Ê X f' σ (Û H s.heap.objs.size (.tup [.int i,x])) {s with heap:=h2,toks:=s.toks+1}:=by
   have nt:∀f u,H f=Z u->f∉[e,B]:=λf u q z=>by
    have z':f=e\/f=B:=by simpa using z
    rcases z' with rfl|rfl;·rw[f0]at q;cases q
    ·rw[g0]at q;cases q
   refine g.step (g':=s.gens) (d':=s.drawn) (ch:=[e,B]) (λf hb=>?_) (λf o _ _ b' q _=>k2 f o b' q) (λf o _ _ b' q _=>⟨o.slots,k2 f o b' q⟩) (λf o b' q y=>?_) (λf o b' q=>⟨o,k2 f o b' q⟩) (λf ys q=>by rw[aB (aE q hp)];exact q) (λf o ys q=>by rw[aB (aE q hp)];exact q) (λf ps q=>⟨#[],by rw[aB (aE q hp),q];simp⟩) (λm hm=>?_) (λf u2 q=>?_) g.bare
   · have z':f=e\/f=B:=by simpa using hb
     rcases z' with rfl|rfl;·exact⟨f3,f1,f4,f5⟩
     ·exact⟨g3,g1,g4,g5⟩
   ·rw[aB (A_ (s_ q))];exact y
   ·obtain⟨o,o',ep,ho,r⟩:=hm;exact⟨o,o',ep,k2 _ o (λz=>by
      have z':X.env.locals=e\/X.env.locals=B:=by simpa using z
      rcases z' with z'|z';·exact f1 z'.symm
      ·exact g1 z'.symm) ho,r⟩
   · by_cases hb:f=s.heap.objs.size;·subst hb;rw[au]at q;cases q;exact⟨by show 2<=sizeLine;decide,[.int i s.toks,u],.cons ⟨_,rfl⟩ (.cons ru .nil),⟨_,i',rfl,_,rfl⟩⟩
     · rw[aB hb]at q;refine(g.hok f u2 q).stay (λc w d' qq=>k2 c w ?_ qq) (λc qq=>by rw[aB (aE qq hp)];exact qq) λc ys qq=>by rw[aB (aE qq hp)];exact qq
       rcases d' with rfl|d';·exact nt _ _ q
       ·exact nt _ _ d'
  refine⟨.ref s.heap.objs.size,_,I1,rfl,⟨_,x,rfl,hp,rfl,λzs hy=>by rw[g.list_inj hy hq];exact hx⟩,⟨⟨_,by simpa using m'⟩,?_⟩,λf hb=>?_⟩;·exact k'.at λo q=>c'.extBut _ _ (VB e') q
  · have z':f=e\/f=B:=by simpa using hb
    rcases z' with rfl|rfl;·rw[aB (A_ g')];exact f0
    ·obtain⟨o,q,_⟩:=id a';rw[aB (A_ (s_ q))];exact g0
 done:=by intro X hP hw hK hc i f' s σ H E g hf st hg;subst hP hw hK;obtain⟨xs,hq,hx⟩:=hg;obtain⟨l',rv,p,hz⟩:=g.list hq;obtain⟨⟨P,he⟩,a'⟩:=st;obtain⟨g0,g1,g2,g3,g4,g5⟩:=hf B (by simp);have hl:=rv.length;exact wpAny_pyNext_enum_end (g.ok.hd hc) he a' p.isList (by simp;omega) λh' eb=>⟨rfl,g.turned (t':=s.toks) (λf o hb e=>eb f o hb e) g0 g1 g3 g4 g5⟩
 self:=λ_ _ _ _ _ st h=>by obtain⟨⟨P,he⟩,_⟩:=st;exact wpAny_pyIter_enum he h
def kN:Nat->List N->List N|_,[]=>[]|k,d::a=>.tup [.int k,d]::kN (k+1) a
def iK:∀(a:List N)(k:Nat),(kN k a).length=a.length|[],_=>rfl|d::a,k=>by show(kN (k+1) a).length+1=a.length+1;rw[iK]
def rh:∀(a:List N)(k i:Nat)(d:N),a[i]?=Z d->(kN k a)[i]?=Z (.tup [.int ((k+i:Nat):Int),d])
 |[],_,_,_,h=>by simp at h|d::a,k,0,b,h=>by simp at h;subst h;rfl|d::a,k,i+1,b,h=>by
  have q:=rh a (k+1) i b (by simpa using h);show(N.tup [.int k,d]::kN (k+1) a)[i+1]?=_;rw[XZ,q];have e:k+1+i=k+(i+1):=by omega
  rw[e]
def GR(h:f e=Z (.lst ν))(b:S v f r ν):Ų v (Ite v e) (kN 0 r) f where
 go:=λi k a g=>by
  rw[iK]at g;have m:i<ν.length:=by rw[b.length];exact g
  exact⟨ν,ν[i],ă.of (a _ _ h),by simp[m]⟩
 stop:=λk a=>⟨ν,ă.of (a _ _ h),by rw[b.length,iK];exact o_ _⟩;yld:=λi k c s a g y=>by obtain⟨p,x,rfl,j,rfl,y⟩:=y;obtain⟨d,o,n⟩:=S.get (S.mono a _ _ b) (y ν (ă.of (a _ _ h)));have q:=rh r 0 i d o;rw[WU]at q;exact⟨aC j _,_,q,⟨p,_,rfl,au,⟨.int i,[x],rfl,rfl,x,[],rfl,Ð.mono (aC j _) _ _ n,rfl⟩⟩⟩
def Cr:List N->Option (Rs (List N))|[.lst a]=>Z (.ok (kN 0 a))|_=>U
def Cs(hg:Gl a "enumerate")(hm:a.mg "enumerate"=U)(ha:FA a [g] ξ)(hs:k_ [g] a.env=[(D,eval g a.env)]:=by lk):Ō a (.Tuple A b k) (.Call (.Name "enumerate" z) [g] [] Λ) (λm=>Ö (ξ m) Cr):=by
 constructor;intro f' s σ H R I h;obtain⟨m,E,o⟩:=h;have key:ç a H (ξ m) λr y=>∃n,S a.K y n r/\ĥ a y (Cr n) R:=by match hf:ξ m,o with|some (.exc c),o=>exact o|some (.ok n),o=>exactλr y e w=>⟨n,w,ĥ.mono e o⟩
 refine Call_ (gF I hg hm (show Vn "enumerate"=Z (.type "enumerate")by decide+kernel) (UM (á (ha.h Λ f' s σ H _ I ⟨m,E,key⟩) λus i⟨r,q,j,r1,n,w,p⟩=>?_) hs rfl));unfold Cr at p;split at p
 · rename_i xs;obtain⟨v,rfl,rv⟩:=dt w;obtain⟨f,ws,rfl,h1,h2⟩:=rv.lstE;obtain⟨u,rfl,ru⟩:=fq r1;cases ru;obtain⟨b',a',pl,hz⟩:=j.list (ă.of h1);refine call_enumerate_list pl.isList λh' he B c' kk=>?_;refine wpAny_pyIter_enum he ?_;have I2:Ê a f' σ q {i with heap:=h'}:=j.kept (t':=i.toks) kk;refine⟨i.heap.objs.size+1,[i.heap.objs.size+1,i.heap.objs.size],_,Ite a.K f,q,rfl,I2,yG f _ _ (Nat.succ_ne_self _),⟨⟨_,he⟩,B⟩,λd hb=>?_,p _ q (.refl q) (GR h1 h2)⟩;have P:d=i.heap.objs.size+1\/d=i.heap.objs.size:=by simpa using hb
   rcases P with rfl|rfl;·exact j.fpOk (VR _) (j.hok.fresh (VR _))
   ·exact j.fpOk (o_ _) (j.hok.fresh (o_ _))
 ·exact p.elim
def PX:List Nat->List V->L2.St->L2.St|i::is,v::b,a=>PX is b (a.set i (Z v))|_,_,a=>a
def OS:List Nat->List N->Ev->Ev|i::is,d::b,a=>OS is b (a.set i (Z d))|_,_,a=>a
def GS(b:List Nat):ū:=λa c H Q=>a.length=b.length/\Q (PX b a c) H
def vb{t d:ū}(h:Ŕ a A t)(w:∀c b H Q,d c b H Q->t c b H Q):Ŕ a A d:=λf s b H c e Q I r q=>h f s b H c e Q I r (w c b H Q q)
def Ly:Ŕ a [] (GS []):=vb xQ λb c H Q⟨l,q⟩=>by cases b with|nil=>exact⟨rfl,q⟩|cons v r=>cases l
def GT(i:Nat){x:Str}{c:List Nat}{b:List u_}(n:a.N.Nodup)(j:a.N[i]?=Z x)(f:ĸ a.env.scope x)(m:a.fn x=L\/a.env.scope.names.lookup x=Z .local)(h:Ŕ a b (GS c))(g:(T_ (.Name x k::b) a.env).map (·.2)=WK (.Name x k) a.env::(T_ b a.env).map (·.2):=by lk):Ŕ a (.Name x k::b) (GS (i::c)):=vb (o8 (gZ (b:=i) n j f m) h g) λe d H Q⟨l,q⟩=>by cases e with|nil=>cases l|cons v r=>exact⟨v,r,rfl,(⟨Nat.succ.inj l,q⟩:GS c r (d.set i (Z v)) H Q)⟩
def Ø.setAll{K:d_}{H:Hp}:∀(is:List Nat){b:List N}{a:List V}{c:L2.St}{e:Ev},Ø K H c e->S K H b a->Ø K H (PX is a c) (OS is b e)|[],_,_,_,_,E,_=>E|_::_,[],a,_,_,E,r=>by cases(show a=[]from r);exact E|i::is,d::b,a,c,e,E,r=>by obtain⟨v,f,rfl,h,t⟩:∃v f,a=v::f/\Ð K H d v/\S K H b f:=r;exact Ø.setAll is (E.set h) t
def SU(a:List Nat)(c:Ev):N->Option Fl|.tup b=>if b.length=a.length then Z (.nx (OS a b c))else U|_=>U
def Lz(b:List Nat)(f:Ò):Õ:=λa=>cH (f a) (SU b a)
def LA{f:List Nat}(hc:a.calm=L)(h:Ŕ a A (GS f))(he:FE a g B)(hn:(T_ A a.env).length=f.length:=by lk)(s:(T_ A a.env).findIdx? (·.1)=U:=by lk)(hs:aba [.Tuple A b z] g k.line a.env=pure D:=by lk)(P:abb [.Tuple A b z] g a.env=pure U:=by lk)(n:(T_ [.Tuple A b z] a.env).map (·.2)=[WK (.Tuple A b z) a.env]:=by lk):FS a (.Assign [.Tuple A b z] g k) (Lz f B):=qT (Eo he.h (Em (o:=f.length) hc h hn s) hs P n) λe σ H u E o=>⟨u,E,ê.bindS o λd v q g r w=>by cases d with
 |tup p=>
 have i:ó a q (if p.length=f.length then Z (.nx (OS f p u))else U) e:=w;by_cases j:p.length=f.length;·rw[if_pos j]at i;obtain⟨c,y,rfl,n,m⟩:=r.tupE;exact⟨c,y,rfl,ð.of n,m.length.trans j,m.length.trans j,i _ q (.refl q) (Ø.setAll f (E.mono g) m)⟩
 ·rw[if_neg j]at i;exact i.elim|_=>exact w.elim⟩
def aw{b:Õ}{a:Ev}(h:Υ ζ=Z (.nx a)):aJ Υ b ζ=b a:=by unfold aJ;rw[h];rfl
def mE{b:Õ}(h:Υ ζ=Z (.rt i)):aJ Υ b ζ=Z (.rt i):=by unfold aJ;rw[h];rfl
def cJ(h:Ο ζ=Z (.ok D)):bg Ο Υ (λζ=>Z (.nx ζ)) ζ=Z (.nx ζ):=by unfold bg;rw[h];rfl
def bA{a:Ev}(h:B ζ=Z (.ok i))(e:ζ.set b (Z i)=a):ce b B ζ=Z (.nx a):=by unfold ce;rw[h,<-e];rfl
def lO(h:B ζ=Z (.ok i)):ff B ζ=Z (.nx ζ):=by unfold ff;rw[h];rfl
def cA(h:B ζ=Z (.ok i)):aI B ζ=Z (.rt i):=by unfold aI;rw[h];rfl
def GU{a:List Nat}(h:ξ ζ=Z (.ok r)):Ez b a ξ Υ ζ=mC b a Υ r ζ:=by unfold Ez;rw[h];rfl
def yH{b:å}(h:Ο ζ=Z (.ok L)):mB Ο b ζ=b ζ:=by unfold mB;rw[h];rfl
def yI{b:å}(h:Ο ζ=Z (.ok D)):mB Ο b ζ=Z (.ok D):=by unfold mB;rw[h];rfl
def kO(h:Ο ζ=Z (.ok H)):cx Ο ζ=Z (.ok (!H)):=by unfold cx;rw[h];rfl
def bq(h:B ζ=Z (.ok (.bl H))):fB B ζ=Z (.ok H):=by unfold fB;rw[h];rfl
def bK{g:N->N->Option (Rs N)}(b:B ζ=Z (.ok i))(a:Ç ζ=Z (.ok η)):I g B Ç ζ=g i η:=by unfold I;rw[b,a];rfl
def ag(h:B ζ=Z (.ok i))(t:ξ ζ=Z (.ok r)):aR B ξ ζ=Z (.ok (i::r)):=by unfold aR;rw[h,t];rfl
def aq:eZ ζ=Z (.ok []):=rfl
def pE(h:ξ ζ=Z (.ok r))(a:r.length=b)(c:Â r=Z (.ok i)):ae Â b ξ ζ=Z (.ok i):=by unfold ae;rw[h];show(if _ then _ else _)=_;rw[if_pos a,c]
def eD(F:Ó){f:Ò}{b:Ev}{a d:N}(h:f b=Z (.ok a))(c:F [a]=Z (.ok d)):ae F 1 (aR f eZ) b=Z (.ok d):=pE (ag h aq) rfl c
def dP(F:Ó){f g:Ò}{c:Ev}{a b d:N}(h:f c=Z (.ok a))(i:g c=Z (.ok b))(e:F [a,b]=Z (.ok d)):ae F 2 (aR f (aR g eZ)) c=Z (.ok d):=pE (ag h (ag i aq)) rfl e
def tW(h:ξ ζ=Z (.ok r))(a:r.length<=100000):iC ξ ζ=Z (.ok (.tup r)):=by unfold iC;rw[h];show(if _ then _ else _)=_;rw[if_pos a]
def LB(h:B ζ=Z (.ok (.bl D))):Ĩ B Ç ζ=Ç ζ:=by unfold Ĩ;rw[h];rfl
def LC(h:B ζ=Z (.ok (.bl L))):Ĩ B Ç ζ=Z (.ok (.bl L)):=by unfold Ĩ;rw[h];rfl
def LD(h:B ζ=Z (.ok (.bl L))):kG B Ç ζ=Ç ζ:=by unfold kG;rw[h];rfl
def cj(h:ξ ζ=Z (.ok r)):Ý Â ξ ζ=Â r:=by unfold Ý;rw[h];rfl
def PY(h:Ο ζ=Z (.ok L)):ķ Ο B Ç ζ=B ζ:=by unfold ķ;rw[h];rfl
def PZ(h:Ο ζ=Z (.ok D)):ķ Ο B Ç ζ=Ç ζ:=by unfold ķ;rw[h];rfl
def yJ(h:ξ ζ=Z (.ok r))(a:r.length<=100000):ju ξ ζ=Z (.ok (.lst r)):=by unfold ju;rw[h];show(if _ then _ else _)=_;rw[if_pos a]
def fI(h:Υ (r.map Z++Ud (b-r.length) U)=Z (.rt i)):aS b Υ r=Z (.ok i):=by unfold aS;rw[h]
abbrev bmV:List R:=[.type "ValueError",.type "Exception",.type "BaseException",.type "object"]
open PySem.W Builtin.Getset_descriptor
structure XI(K:d_)(C:O):Prop where
 ga:findIn K (.ref C) "__getattribute__"=Z (Z (.builtin "BaseException.__getattribute__"))gt:findIn K (.ref C) "__getattr__"=Z U
 cl:findIn K (.ref C) "__class__"=Z (Z (.builtin "object.__class__"))sp:specialIn K (.builtin "object.__class__") "__get__"=Z (Z (.builtin "getset_descriptor.__get__"))tk:takesIn K (.builtin "object.__class__")=Z L
 ob:mroIn K C (.type "object")=Z L
 be:mroIn K C (.type "BaseException")=Z L
structure SV(K:d_)(m:Nat)(cls:Nat->O)(CJ:O):Prop where at_:∀c,c<m->nsIn K R_ (KE c)=Z (Z (.ref (cls c)))/\excIn K (cls c) bmV "ValueError.__new__"=L/\XI K (cls c)/\mroIn K (cls c) (.ref CJ)=Z L/\kitOne K (.ref (cls c)) (.type "ValueError")=Z L/\∀d,d<m->kitOne K (.ref (cls c)) (.ref (cls d))=Z (c==d)exJ:excIn K CJ bmV "ValueError.__new__"=L
section
variable{K:d_}{m:Nat}{cls:Nat->O}{CJ:O}(x:SV K m cls CJ)
include x
end
def mF:Str->Ó|x,[.str y]=>if x.length<=100000 then Z (.ok (.str (VP x y)))else U|_,_=>U
def EK:V->List V->Hp->VK->Prop:=λx a H Q=>∃i j,x=.str i/\a=[.str j]/\i.length<=sizeLine/\Q (.str (VP i j)) H
def Ct:Ŋ a "str.strip" EK:=by intro p s f H x g v m Q I b d h;obtain⟨i,j,rfl,rfl,e,q⟩:=h;obtain⟨t,rfl⟩:=b;obtain⟨u,rfl,c⟩:=fq d;obtain⟨o,rfl⟩:=c;exact SC.stripChars (λn k=>⟨.str _,H,I.tok k,⟨_,rfl⟩,q⟩) e
def GV(i:Str)(d:List N)(c:List V)(H:Hp)(Q:VK)(e:S a.K H d c)(o:ê a H (mF i d) Q):EK (.str i) c H Q:=by
 unfold mF at o;split at o
 · rename_i j;split at o;·rename_i f;obtain⟨w,rfl,b⟩:=dt e;cases(show w=.str j from b);exact⟨i,j,rfl,rfl,bX f,o _ H (.refl H) rfl⟩
   ·exact o.elim
 ·exact o.elim
def iy(x y:N):Option (Rs N):=match x,y with|.tup a,.tup b=>if a.length+b.length<=100000 then Z (.ok (.tup (a++b)))else U|x,y=>cY x y
def Cu(u:L' d.heap e #[])(v:L' d.heap y E.toArray)(w:Ω (.ref y) d):q_ (w_ n j) s (Wn .Add (.ref e) (.ref y)) Ω θ d:=by obtain⟨⟨A,z,o,q⟩,i,m,a,k⟩:=id u;obtain⟨⟨p,h,data2,g⟩,b,f,r,c⟩:=id v;simp only at m k f c;subst m k f c;exact abw ⟨_,i,rfl⟩ ⟨_,b,rfl⟩ ZD abc X_ XT (Xy _ _) (tuple_addW0 e y #[] E.toArray a r z h q g (by simp)) ⟨i,b,w⟩
def EM(K:d_):R2:=λx y H Q=>∃a b c,x=.ref a/\y=.ref b/\ð K H a []/\ð K H b c/\Q (.ref b) H
def Cv:û a (Wn .Add) (EM a.K):=by intro w s o H x y v u Q I f e h;obtain⟨c,b,p,rfl,rfl,m,k,q⟩:=h;cases f;cases e;obtain⟨n,g,j,_⟩:=I.tuple m;obtain⟨d,r,i,_⟩:=I.tuple k;cases g;exact Cu j i ⟨.ref b,H,I,rfl,q⟩
def LF(X:C):R2:=λx y H Q=>GA x y H Q\/(Kz X.K x y H Q\/EM X.K x y H Q)
def LG:û a (Wn .Add) (LF a):=ų.or (op_catT.or Cv)
variable{i η:N}
def yK(h:∀a b,¬(i=.tup a/\η=.tup b)):iy i η=cY i η:=by
 unfold iy;split;·rename_i a b;exact absurd ⟨rfl,rfl⟩ (h a b)
 ·rfl
def LH:Ĕ a (LF a) iy:=by
 intro w v x y H Q r q o;by_cases u:∃c b,w=.tup c/\v=.tup b
 · obtain⟨c,b,rfl,rfl⟩:=u;have d:ê a H (if c.length+b.length<=100000 then Z (.ok (.tup (c++b)))else U) Q:=o;split at d;·rename_i g;obtain⟨p,j,rfl,n,f⟩:=r.tupE;obtain⟨k,i,rfl,m,e⟩:=q.tupE;cases j with
   |nil=>
   have B:c=[]:=by have:=f.length;exact Vr.mp this.symm
   subst B;exact .inr (.inr ⟨p,k,i,rfl,rfl,ð.of n,ð.of m,d _ H (.refl H) ⟨k,i,rfl,m,by simpa using e⟩⟩)|cons z j=>refine .inr (.inl ⟨p,k,z::j,i,rfl,rfl,ð.of n,ð.of m,by simp,by rw[f.length,e.length];exact bX g,λs=>?_,λs l g=>d _ _ (aC g _) ⟨l,_,rfl,au,S.mono (aC g _) _ _ (f.append e)⟩⟩);subst s;have A:b=[]:=Vr.mp e.length.symm;subst A;exact d _ H (.refl H) ⟨p,_,rfl,n,by simpa using f⟩
   ·exact d.elim
 ·rw[yK (λc b h=>u ⟨c,b,h⟩)]at o;exact .inl (La w v x y H Q r q o)
def jI{i:R}(a:L' d.heap e Β)(m:d.heap.IsSliceOf y ψ i .none)(p:Z3 ψ Δ)(o:Z3 i Ι)(k:HT.sIx Β.size 0 Δ=0/\HT.sIx Β.size Β.size Ι=Β.size)(h:Ω (.ref e) d):q_ (w_ n j) s (ZX (.ref e) (.ref y)) Ω θ d:=by
 obtain⟨os,c,f,q⟩:=id m;have g:d.TypeIs (.ref y) "slice":=⟨os,c,f⟩;unfold ZX;try with_reducible refine Uu ?_
 first|refine ck (h_ ?_)|skip
 refine ck (wpAny_sequenceKey a.typeIs (by decide) ?_);refine ck (Uc (name:=b_ "__getitem__") a.typeIs UN (Ub UN a.typeIs entry_tuple_getitem ?_ (args_tuple_getitem _ _)));show q_ _ _ (Y5 (.ref e)>>=_) _ _ d;refine ck (tupleItemsOf_ a ?_);refine ck (Wm g ?_);rw[if_pos (by decide)];refine ck (HT.sliceApplied_gen m p o ?_);have b:(((HT.sIx Β.size 0 Δ:Nat):Int)==0&&(1:Int)==1&&(HT.sIx Β.size Β.size Ι-HT.sIx Β.size 0 Δ)==Β.size)=L:=by rw[k.1,k.2];simp
 show q_ _ _ (if(((HT.sIx Β.size 0 Δ:Nat):Int)==0&&(1:Int)==1&&(HT.sIx Β.size Β.size Ι-HT.sIx Β.size 0 Δ)==Β.size)=L then _ else _) _ _ d;rw[if_pos b];refine ck (ck (Wm a.typeIs (h_ ?_)));rw[if_pos (by decide)];exact ck (Wx (h_ ⟨_,rfl,h_ h⟩))
def SW(K:d_):V->Option Int->Option Int->Hp->VK->Prop:=λx lo c H Q=>∃a b,x=.ref a/\ð K H a b/\(HT.sIx b.length 0 lo=0/\HT.sIx b.length b.length c=b.length)/\Q (.ref a) H
def Cw:ŭ a (SW a.K):=by
 intro z s n H x v p o lo y u Q I g m pl i h;obtain⟨b,f,rfl,j,k,q⟩:=h;cases g;obtain⟨d,r,e,w⟩:=I.tuple j;have c:d.toArray.size=f.length:=by rw[I_];exact r.length.symm
 refine⟨"tuple",_,UN.lookup,e.typeIs,?_⟩;exact jI e m pl i (by rw[c];exact k) ⟨.ref b,H,I,rfl,q⟩
def RV(x:N)(a b:Option Int):Option (Rs N):=match x with|.tup c=>Z (.ok (.tup (B9 c a b)))|x=>OO x a b
def j7(e:Ò)(c d:j'):Ò:=λa=>Ö (e a) λx=>Ö (c a) λlo=>Ö (d a) λb=>RV x lo b
def wQ{a:List P}(h:HT.sIx a.length 0 Δ=0/\HT.sIx a.length a.length Ι=a.length):B9 a Δ Ι=a:=by unfold B9;rw[h.1,h.2];simp
variable{B:Ò}
def GW{w y:Option u_}{A P:j'}(ha:FE a g B)(hl:FO a w A)(hh:FO a y P):FE a (.Subscript g (.Slice w y U k) z) (j7 B A P):=dv (u3 ((Ŗ.or yk).or (sl_tup.or Cw)) ha.h hl.h hh.h) λσ H Q q E o=>⟨q,E,ê.bind o λd v H1 e1 r1 o1=>⟨q,E.mono e1,j5 o1 λl H2 e2 o2=>⟨q,(E.mono e1).mono e2,j5 o2 λu n e3 e=>by
 have r:=Ð.mono e3 d v (Ð.mono e2 d v r1);cases d<;>try exact(show False from e).elim
 · rename_i b;unfold RV OO at e;dsimp only at e;split at e;·rename_i hz;exact .inl (.inl ⟨b,r,bX hz,e _ n (.refl n) rfl⟩)
   ·exact e.elim
 · rename_i ds;obtain⟨j,c,rfl,i,f⟩:=r.tupE;have m:=f.length;by_cases s:HT.sIx c.length 0 l=0/\HT.sIx c.length c.length u=c.length;·refine .inr (.inr ⟨j,c,rfl,ð.of i,s,e _ n (.refl n) ⟨j,c,rfl,i,?_⟩⟩);rw[wQ (by rw[<-m];exact s)];exact f
   ·refine .inr (.inl ⟨j,c,rfl,ð.of i,s,λp h=>e _ _ (aC h _) ⟨p,_,rfl,au,S.mono (aC h _) _ _ ?_⟩⟩);unfold BX B9;rw[f.length];exact(f.drop _).take _
 ·rename_i ds;obtain⟨j,c,rfl,i,f⟩:=r.lstE;refine .inl (.inr ⟨j,c,rfl,ă.of i,λp h=>e _ _ (aC h _) ⟨p,_,rfl,au,S.mono (aC h _) _ _ ?_⟩⟩);unfold BX B9;rw[f.length];exact(f.drop _).take _⟩⟩⟩
def Ź(x:N)(a:List N):Option Bool:=if okP x&&uk ((du x).depth<=63)&&Vz (ä a)then Z ((ä a).any λy=>UC y (du x))else U
def OT(x y:N):Option Bool:=match JK x y with|some b=>Z b|none=>match y with|.lst a=>Ź x a|.tup a=>Ź x a|_=>U
def inX(x y:N):Option (Rs N):=match OT x y with|some b=>Z (.ok (.bl b))|none=>U
def lA(x y:N):Option (Rs N):=match OT x y with|some b=>Z (.ok (.bl (!b)))|none=>U
def RW(X:C)(c:Bool):R2:=λx y H Q=>∃d a b,Ð X.K H d x/\(Ð X.K H (.lst a) y\/Ð X.K H (.tup a) y)/\Ź d a=Z b/\Q (.bl (if c then !b else b)) H
def yL(z:a.A.units+64<cLine):û a (TZ .NotIn) (RW a L):=by
 intro A s w H x y v u Q I o k h;obtain⟨e,c,b,p,d,f,q⟩:=h;unfold Ź at f;split at f
 · rename_i r;cases f;obtain⟨⟨j,B⟩,g⟩:(okP e=L/\(du e).depth<=63)/\Vz (ä c)=L:=by simpa using r
   obtain⟨as,m⟩:=Ð.reads I e x v p o (Vs.mp j).1;have n:a.A.units+1+min (XC (ä c)) (du e).depth<cLine:=by have:=ab0 (XC (ä c)) (du e).depth;omega
   rcases d with d|d;·obtain⟨bs,i⟩:=Ð.reads I (.lst c) y u d k (by simpa[du,Uh]using g);exact SeqAt.notIn_list_reads i m g (Vs.mp j).1 n ⟨.bl _,H,I,rfl,q⟩
   ·obtain⟨bs,i⟩:=Ð.reads I (.tup c) y u d k (by simpa[du,Uh]using g);exact SeqAt.notIn_tuple_reads i m g (Vs.mp j).1 n ⟨.bl _,H,I,rfl,q⟩
 ·cases f
def yM(X:C):R2:=λx y H Q=>tN X.K x y H Q\/RW X L x y H Q
def Cy(b:a.A.units+64<cLine):û a (TZ .NotIn) (yM a):=Ņ.or (yL b)
def Cz:Ĕ a (yM a) lA:=by intro d i x y H Q g f o;unfold lA OT at o;match h:JK d i with
 |some b=>rw[h]at o;exact .inl (yA d i x y H Q g f (by unfold qX;rw[h];exact o))|none=>
 rw[h]at o;cases i<;>try exact(show False from o).elim
 ·rename_i e;match c:Ź d e with|none=>simp only[c]at o;exact(show False from o).elim|some b=>simp only[c]at o;exact .inr ⟨d,e,b,g,.inr f,c,o _ H (.refl H) rfl⟩
 ·rename_i e;match c:Ź d e with|none=>simp only[c]at o;exact(show False from o).elim|some b=>simp only[c]at o;exact .inr ⟨d,e,b,g,.inl f,c,o _ H (.refl H) rfl⟩
def LI:Str->Ó
 |x,[.str y]=>match Um x y 0 x.length 1 with|i::_=>Z (.ok (.int i))|[]=>U
 |_,_=>U
def RX:V->List V->Hp->VK->Prop:=λx a H Q=>∃i j k l,x=.str i/\a=[.str j]/\Um i j 0 i.length 1=k::l/\Q (.int (k:Nat)) H
def LJ:Ŋ a "str.index" RX:=by intro o s f H x g v m Q I b d h;obtain⟨i,j,k,l,rfl,rfl,e,q⟩:=h;obtain⟨t,rfl⟩:=b;obtain⟨u,rfl,c⟩:=fq d;obtain⟨n,rfl⟩:=c;exact SC.index e ⟨.int _,H,I.tok _,⟨_,rfl⟩,q⟩
def P6(i:Str)(e:List N)(d:List V)(H:Hp)(Q:VK)(f:S a.K H e d)(o:ê a H (LI i e) Q):RX (.str i) d H Q:=by
 unfold LI at o;split at o
 ·rename_i j;obtain⟨w,rfl,c⟩:=dt f;cases(show w=.str j from c);match b:Um i j 0 i.length 1 with|[]=>rw[b]at o;exact o.elim|k::l=>rw[b]at o;exact⟨i,j,k,l,rfl,rfl,b,o _ H (.refl H) rfl⟩
 ·exact o.elim
abbrev GX(a:List R)(n:Nat):Obj:={cls:=.type "list",data:=.seq a.toArray n}
variable{Ν:L2.St}
def Ê.untrack(I:Ê a δ Ν (Û f e (.lst ν)) d)(ha:f e=U)(y:a.ex=[]):∃j n,Ë ν j/\ν.length<=sizeLine/\(∀o,a.s₀.heap.get? e=Z o->a.H₀ e≠U)/\(∀p∈a.pn++δ,p.1≠e)/\Ê a (δ++[(e,GX j n)]) Ν f d:=by
 obtain⟨z,j,n,rv,hl,g⟩:=I.lstM (l:=e) (xs:=ν) au;have hb:∀b u,f b=Z u->b≠e:=λb u q=>aE q ha;have h:∀b,Û f e (.lst ν) b=U->f b=U:=λb q=>by
  by_cases i:b=e;·rw[i];exact ha
  ·rw[aB i]at q;exact q
 have s:∀b u,Û f e (.lst ν) b=Z u->(∀E,u≠.lst E)->f b=Z u:=λb u q hu=>by
  by_cases i:b=e;·rw[i,au]at q;exact absurd (Uk q).symm (hu ν)
  ·rw[aB i]at q;exact q
 have a':e∉a.fs:=λhm=>by obtain⟨_,o,r,_⟩:=I.ok.funs.mem hm;have:=I.base.free e o r (I.ok.frf e hm) (by rw[y];simp);rw[au]at this;cases this
 have A:∀p∈a.pn++δ,p.1≠e:=λp hp w=>by have:=(I.pin p hp).2.1;rw[w,au]at this;cases this
 refine⟨j,n,rv,z,λo r h0=>?_,A,⟨I.ok,I.os,I.bare,⟨I.base.keep,I.base.slot,λb o q n hx=>h b (I.base.free b o q n hx),I.base.there,λb E q=>s b _ (I.base.tups b E q) (λ_ w=>by cases w),λb o u q=>s b _ (I.base.frzs b o u q) (λ_ w=>by cases w),λb ps q=>?_⟩,I.loc,I.cell,h _ I.free,λx c q=>h _ (I.freeC x c q),λp hp=>?_,λb u q=>?_,I.len⟩⟩;·have:=I.base.free e o r h0 (by rw[y];simp);rw[au]at this;cases this
 ·obtain⟨B,q'⟩:=I.base.tbls b ps q;exact⟨B,s b _ q' (λ_ w=>by cases w)⟩
 · rcases Ue.mp hp with k|k;·obtain⟨q1,P,H⟩:=I.pin p (TH _ k);exact⟨q1,h _ P,H⟩
   · rcases Ue.mp k with k|k;·obtain⟨q1,P,H⟩:=I.pin p (p_ _ k);exact⟨q1,h _ P,H⟩
     ·simp only[Ua]at k;subst k;refine⟨g,ha,λw=>?_,a',λv w=>by cases w⟩;obtain⟨m,⟨o,es,ep,r,hd,_⟩,_⟩:=I.loc;have w':e=a.env.locals:=w;rw[<-w',g]at r;cases r;cases hd
 · have hq:Û f e (.lst ν) b=Z u:=by rw[aB (hb b u q)];exact q
   refine(I.hok b u hq).stay (λ_ _ _ w=>w) (λc w=>s c _ w (λ_ w=>by cases w)) (λc E w=>s c _ w (λ_ w=>by cases w)) λc _ _ w=>s c _ w (λ_ w=>by cases w)
def Ê.retrack(I:Ê a (δ++[(e,GX E b)]) Ν f d)(B:Ë ν E)(hz:ν.length<=sizeLine)(h0:∀o,a.s₀.heap.get? e=Z o->a.H₀ e≠U)(r:∀p∈a.pn++δ,p.1≠e):f e=U/\Ê a δ Ν (Û f e (.lst ν)) d:=by
 obtain⟨i,A,nL,nf,nc⟩:=I.pin (e,GX E b) (p_ _ (p_ _ (by simp)));have j:∀g u,f g=Z u->Û f e (.lst ν) g=Z u:=λg u q=>by rw[aB (aE q A)];exact q
 have lo:∀g,f g=U->g≠e->Û f e (.lst ν) g=U:=λg q h=>by rw[aB h];exact q
 refine⟨A,⟨I.ok,I.os,I.bare,⟨I.base.keep,I.base.slot,λg o q b hx=>lo g (I.base.free g o q b hx) (λw=>h0 o (w▸q) (w▸b)),I.base.there,λg s q=>j g _ (I.base.tups g s q),λg o u q=>j g _ (I.base.frzs g o u q),λg ps q=>?_⟩,I.loc,I.cell,lo _ I.free (VB nL),λx c q=>lo _ (I.freeC x c q) (λw=>?_),λp y=>?_,λg u q=>?_,I.len⟩⟩;·obtain⟨k,q'⟩:=I.base.tbls g ps q;exact⟨k,j g _ q'⟩
 ·obtain⟨v,o,m,hd⟩:=I.cell x c q;rw[w]at m;have e':d.heap.get? e=Z (GX E b):=i;rw[e']at m;cases m;cases hd
 ·obtain⟨q1,P,H⟩:=I.pin p (by
   rcases Ue.mp y with n|n;·exact TH _ n
   ·exact p_ _ (TH _ n));exact⟨q1,lo _ P (r p y),H⟩
 · by_cases z:g=e;·subst z;rw[au]at q;cases q;exact⟨hz,E,b,B,i⟩
   ·rw[aB z]at q;exact(I.hok g u q).stay (λ_ _ _ w=>w) (λc w=>j c _ w) (λc s w=>j c _ w) λc _ _ w=>j c _ w
def P7(t:TE):TE:=λd e Q=>∃H a b,e=Û H a (.lst b)/\H a=U/\t d H λv c=>c a=U->Q v (Û c a (.lst b))
def P8(t:TT):TT:=λd e Q=>∃H a b,e=Û H a (.lst b)/\H a=U/\t d H λv c=>c a=U->Q v (Û c a (.lst b))
def P9(t:TA):TA:=λd e Q=>∃H a b,e=Û H a (.lst b)/\H a=U/\t d H λv c=>c a=U->Q v (Û c a (.lst b))
def Qa(t:TI):TI:=λd e Q=>∃H a b,e=Û H a (.lst b)/\H a=U/\t d H λv c=>c a=U->Q v (Û c a (.lst b))
def tX(c:a.ex=[]){t:TE}(h:PE a g t):PE a g (P7 t):=by intro P s e Hf Q I⟨H,b,B,p,m,q⟩;subst p;obtain⟨A,n,f,j,o,k,z⟩:=Ê.untrack I m c;refine á (h _ s e H _ z q) λu E⟨v,H',y,r,i⟩=>?_;obtain⟨d,w⟩:=Ê.retrack y f j o k;exact⟨v,_,w,r,i d⟩
def GY(c:a.ex=[]){t:TT}(h:PT a g t):PT a g (P8 t):=by intro B s e E Q I⟨H,b,z,p,m,q⟩;subst p;obtain⟨y,n,f,j,o,k,w⟩:=Ê.untrack I m c;refine á (h _ s e H _ w q) λu A⟨P,v,i⟩=>?_;obtain⟨d,r⟩:=Ê.retrack v f j o k;exact⟨_,r,i d⟩
def GZ(c:a.ex=[]){t:TA}(h:PA a A t):PA a A (P9 t):=by intro pos P s e Hf Q I⟨H,b,B,o,k,q⟩;subst o;obtain⟨z,n,f,i,m,j,y⟩:=Ê.untrack I k c;refine á (h pos _ s e H _ y q) λu E⟨v,H',w,r,g⟩=>?_;obtain⟨d,p⟩:=Ê.retrack w f i m j;exact⟨v,_,p,r,g d⟩
def G0(i:a.ex=[]){o:u_}{t:TI}(h:PI a o g t):PI a o g (Qa t):=by
 intro f' s v Hf R I⟨H,c,xs,e1,ha,q⟩;subst e1;obtain⟨d,n,A,E,h0,P,I'⟩:=Ê.untrack I ha i;refine á (h _ s v H _ I' q) λu s1 e=>á e λa' s2⟨it,fp,y,J,H',e2,I2,T,z,m,B⟩=>?_;obtain⟨k,I3⟩:=Ê.retrack I2 A E h0 P;refine⟨it,fp,y,J,_,e2,I3,T,z,λb hb=>?_,B k⟩;obtain⟨g0,g1,g2,g3,g4,r⟩:=m b hb;have j:b≠c:=λw=>r (c,GX d n) (p_ _ (p_ _ (by simp))) w.symm;refine⟨by rw[aB j];exact g0,g1,g2,g3,g4,λp f=>r p ?_⟩;rcases Ue.mp f with w|w;·exact TH _ w
 ·exact p_ _ (TH _ w)
mutual
def ĝ:N->Bool|.non=>L|.bl _=>L|.int _=>L|.str _=>L|.tup a=>ß a|.lst _=>D|.scr _=>D|.exn _=>D|.obj _ _=>D
def ß:List N->Bool|[]=>L|d::a=>ĝ d&&ß a
end
mutual
theorem Ð.tups{K:d_}{H g:Hp}(k:∀b e,H b=Z (.tup e)->g b=Z (.tup e)):∀(d:N)(v:V),ĝ d=L->Ð K H d v->Ð K g d v|.non,_,_,h=>h|.bl _,_,_,h=>h|.int _,_,_,h=>h|.str _,_,_,h=>h|.tup c,v,i,h=>by obtain⟨a,m,r,h,q⟩:=h.tupE;exact⟨a,m,r,k _ _ h,S.tups k c m (by simpa[ĝ]using i) q⟩|.lst _,_,i,_=>by simp[ĝ]at i|.scr _,_,i,_=>by simp[ĝ]at i|.exn _,_,i,_=>by simp[ĝ]at i|.obj _ _,_,i,_=>by simp[ĝ]at i
theorem S.tups{K:d_}{H g:Hp}(k:∀b e,H b=Z (.tup e)->g b=Z (.tup e)):∀(c:List N)(j:List V),ß c=L->S K H c j->S K g c j
 |[],_,_,h=>h|d::c,j,i,h=>by
  obtain⟨v,f,r,h,q⟩:∃v f,j=v::f/\Ð K H d v/\S K H c f:=h;have n:ĝ d=L/\ß c=L:=by simpa[ß]using i
  exact⟨v,f,r,Ð.tups k d v n.1 h,S.tups k c f n.2 q⟩end
inductive Fo where|nx(ρ:Ev)(ds:List N)|rt(d:N)
abbrev lP:=Ev->List N->Option Fo
def Ě(X:C)(i:Nat)(a:O)(H:Hp)(o:Option Fo)(b:uV):Prop:=match o with|none=>False|some (.rt d)=>∀v c,Í H c->Ð X.K c d v->b.rt v c|some (.nx g h)=>∀e c f,Í H c->c a=U->e[i]?=Z (Z (.ref a))->Ø X.K c e g->S X.K c h f->b.nx e (Û c a (.lst f))
def Ě.mono{d:uV}(c:Í f Α):∀{o:Option Fo},Ě a b e f o d->Ě a b e Α o d|none,h=>h|some (.rt _),h=>λv i g r=>h v i (c.trans g) r|some (.nx _ _),h=>λj i k g=>h j i k (c.trans g)
def tO(X:C)(i:Nat)(f:lP):TS:=λb c h=>∃H a e d g,h=Û H a (.lst e)/\H a=U/\c[i]?=Z (Z (.ref a))/\Ø X.K H c d/\S X.K H g e/\Ě X i a H (f d g) b
structure Ţ(X:C)(i:Nat)(st:UH)(f:lP):Prop where h:PS X st (tO X i f)
structure Ŧ(X:C)(i:Nat)(st:List UH)(f:lP):Prop where h:ĳ X st (tO X i f)
def yN(o:Option (Rs P))(k:P->Option Fo):Option Fo:=match o with|some (.ok a)=>k a|_=>U
def Qb:lP:=λa b=>Z (.nx a b)
def pF(f g:lP):lP:=λc d=>match f c d with|some (.nx a b)=>g a b|o=>o
def qI(j:Nat)(f:Ò):lP:=λa b=>yN (f a) λd=>Z (.nx (a.set j (Z d)) b)
def oIf(c:å)(f g:lP):lP:=λa b=>yN (c a) λk=>if k then f a b else g a b
def Ha(i:Nat)(f:Ò):lP:=λa b=>yN (f (a.set i (Z (.lst b)))) λd=>Z (.rt d)
def JL(f:Ò):lP:=λa b=>if b.length<100000 then yN (f a) λd=>Z (.nx a (b++[d]))else U
def iL(a:f e=U):Í f (Û f e (.lst ν)):=aC a _
variable{ζ:Ev}{r:List N}
def rj(i:f e=U)(n:Ν[b]?=Z (Z (.ref e)))(E:Ø a.K f Ν ζ)(c:S a.K f r ν):Ø a.K (Û f e (.lst ν)) Ν (ζ.set b (Z (.lst r))):=by
 have k:=E.mono (iL (ν:=ν) i);refine⟨by rw[Uf];exact k.len,λj d g=>?_⟩;by_cases h:b=j
 · subst h;by_cases m:b<ζ.length;·rw[K_ m]at g;cases g;exact⟨.ref e,n,e,ν,rfl,au,S.mono (iL i) _ _ c⟩
   ·rw[Uo (by rw[Uf];omega)]at g;cases g
 ·rw[E_ h]at g;exact k.at' j d g
def Hb:Ŧ a b [] Qb:=⟨λi s e n c I⟨H,d,f,k,m,j,h,g,E,r,o⟩=>by subst j;exact tz i s e _ c I (o e H f (.refl H) h g E r)⟩
def CA{f g:lP}(B:Ţ a b Η f)(A:Ŧ a b Ψ g):Ŧ a b (Η::Ψ) (pF f g):=⟨λP s u Hf e I⟨H,c,v,p,q,e1,z,y,E,r,o⟩=>by refine gh B.h A.h P s u Hf e I ⟨H,c,v,p,q,e1,z,y,E,r,?_⟩;unfold pF at o;match h:f p q with|none=>rw[h]at o;exact o.elim|some (.rt d)=>rw[h]at o;exact o|some (.nx i n)=>rw[h]at o;exactλa' H' j e' m k E' w=>⟨H',c,j,i,n,rfl,m,k,E',w,Ě.mono e' o⟩⟩
def Hc{f:lP}(c:Ţ a b Η f):Ŧ a b [Η] f:=⟨o7 c.h⟩
def LK(p:a.ex=[])(j:Nat)(m:b≠j){x:Str}{f:Pos}(hN:a.N.Nodup)(P:a.N[j]?=Z x)(z:ĸ a.env.scope x)(he:FE a g B)(A:UD g (Z (.Name x f)) k.line a.env=pure D:=by lk)(hf:a.fn x=L\/a.env.scope.names.lookup x=Z .local:=by first|exact .inl rfl|exact .inr rfl|assumption):Ţ a b (.Assign [.Name x f] g k) (qI j B):=⟨λf' s y Hf e I⟨H,c,w,u,ds,e1,ha,n,E,r,o⟩=>by refine nZ hN P z (tX p he.h) A hf f' s y Hf e I ⟨H,c,w,e1,ha,u,E,?_⟩;unfold qI at o;match h:B u with|none=>rw[h]at o;exact o.elim|some (.exc _)=>rw[h]at o;exact o.elim|some (.ok d)=>rw[h]at o;exactλv H' i rd q=>o _ H' w i q (by rw[E_ (VB m)];exact n) ((E.mono i).set rd) (S.mono i _ _ r)⟩
variable{Ο:å}
def Qc{f d:lP}(u:a.ex=[]){z y:List UH}(B:FT a g Ο)(ha:Ŧ a b z f)(P:Ŧ a b y d):Ţ a b (.If g z y k) (oIf Ο f d):=⟨λf' s A Hf e I⟨H,c,n,j,w,e1,v,i,E,r,o⟩=>by refine F7 (GY u B.h) ha.h P.h f' s A Hf e I ⟨H,c,n,e1,v,j,E,?_⟩;unfold oIf at o;match m:Ο j with|none=>rw[m]at o;exact o.elim|some (.exc _)=>rw[m]at o;exact o.elim|some (.ok L)=>rw[m]at o;exactλq h p=>Eu ⟨q,c,n,j,w,rfl,p,i,E.mono h,S.mono h _ _ r,Ě.mono h o⟩|some (.ok D)=>rw[m]at o;exactλq h p=>Et ⟨q,c,n,j,w,rfl,p,i,E.mono h,S.mono h _ _ r,Ě.mono h o⟩⟩
def LL(n:FE a g B):Ţ a b (.Return (Z g) k) (Ha b B):=⟨λp s j A c I⟨H,e,z,m,w,u,f,i,E,r,o⟩=>by subst u;refine xP n.h p s j _ c I ⟨_,rj f i E r,?_⟩;unfold Ha at o;match h:B (m.set b (Z (.lst w)))with|none=>rw[h]at o;exact o.elim|some (.exc _)=>rw[h]at o;exact o.elim|some (.ok d)=>rw[h]at o;exactλv y q rd=>o v y ((iL f).trans q) rd⟩
def LM(P:a.ex=[]){x:Str}{h f:Pos}(hx:PE a (.Name x h) (xM b))(he:FE a g B)(n:UQ (.Name x h) "append" a.env (eval (.Name x h) a.env)=eval (.Name x h) a.env:=by lk)(u:((TF f (k_ [g] a.env)).all (λx=>!x.1)&&(Va f (Us [] a.env)).all (λx=>x.1.isSome)&&uk ([g].length+([]:List V0).length+(if([]:List V0).isEmpty then 0 else 1)<30))=L:=by lk){z:Pos}(m:(z.endLine==f.line)=L:=by lk)(hs:k_ [g] a.env=(D,eval g a.env)::k_ [] a.env:=by lk)(j:(TF f (k_ [] a.env)).any (·.1)=D:=by lk)(A:UD (.Call (.Attribute (.Name x h) "append" z) [g] [] f) U k.line a.env=pure D:=by lk):Ţ a b (.Expr (.Call (.Attribute (.Name x h) "append" z) [g] [] f) k) (JL B):=⟨λf' s σ Hf e I⟨H,c,p,w,ds,e1,b',q,E,r,o⟩=>by
 refine tE (BZ XS W7 Zu qS hx (GZ P (yr he Ey hs).h) n u m hs j) A f' s σ Hf e I ?_;unfold JL at o;split at o
 ·rename_i hl;match i:B w with
  |none=>rw[i]at o;exact o.elim|some (.exc _)=>rw[i]at o;exact o.elim|some (.ok d)=>
  rw[i]at o;refine⟨.ref c,q,.inl ⟨rfl,p,ă.of (by rw[e1];exact au)⟩,H,c,p,e1,b',w,E,?_⟩;show ç a H (aR B eZ w) _;rw[ag i aq];intro vs H' y rs a';obtain⟨v,rfl,rv⟩:=dt rs;have hz:p.length<sizeLine:=by have:=r.length;have h2:=bX (b:=p.length+1) (by omega);omega
  refine⟨c,p,v,rfl,rfl,au,hz,?_⟩;rw[xJ];exact o σ H' (p++[v]) y a' q (E.mono y) ((S.mono y _ _ r).append ⟨v,[],rfl,rv,rfl⟩)
 ·exact o.elim⟩
def EN(i:Nat)(g:Þ)(f:lP):Õ:=λc=>cH (g c) λe=>if e.length<=100000 then(match f (c.set i U) e with|some (.nx a b)=>Z (.nx (a.set i (Z (.lst b))))|some (.rt d)=>Z (.rt d)|none=>U)else U
variable{ξ:Þ}{Λ:Pos}
def Hd{f:lP}(hN:a.N.Nodup)(hi:a.N[b]?=Z c)(hx:ĸ a.env.scope c)(hg:FA a A ξ)(hr:Ŧ a b Ψ f)(hs:UD (.List A z) (Z (.Name c Λ)) k.line a.env=pure D:=by lk)(hf:a.fn c=L\/a.env.scope.names.lookup c=Z .local:=by first|exact .inl rfl|exact .inr rfl|assumption):Ģ a (.Assign [.Name c Λ] (.List A z) k::Ψ) (EN b ξ f):=⟨λf' s σ H e I⟨m,E,o⟩=>by refine gh (nZ (b:=b) hN hi hx (yd hg.h) hs hf) hr.h f' s σ H e I ⟨m,E,?_⟩;unfold EN at o;match h:ξ m with
 |none=>rw[h]at o;exact o.elim|some (.exc _)=>rw[h]at o;exact o|some (.ok q)=>
 rw[h]at o;intro vs H1 e1 rs;have g:ó a H (if q.length<=100000 then(match f (m.set b U) q with|some (.nx r y)=>Z (.nx (r.set b (Z (.lst y))))|some (.rt d)=>Z (.rt d)|none=>U)else U) e:=o;by_cases P:q.length<=100000
 · rw[if_pos P]at g;refine⟨by rw[rs.length];exact bX P,λp hp=>?_⟩;have c':b<σ.length:=by rw[I.len];exact(B_.mp hi).1
   refine⟨H1,p,vs,m.set b U,q,rfl,hp,K_ c',?_,rs,?_⟩
   · have E1:=(E.mono e1).fgt1 b;refine⟨by rw[Uf];exact E1.len,λj d n=>?_⟩;by_cases u:b=j
     · subst u;by_cases b':b<m.length;·rw[K_ b']at n;cases n
       ·rw[Uo (by rw[Uf];omega)]at n;cases n
     ·obtain⟨v,q1,q2⟩:=E1.at' j d n;exact⟨v,by rw[E_ u];exact q1,q2⟩
   ·match i:f (m.set b U) q with|none=>rw[i]at g;exact g.elim|some (.rt d)=>rw[i]at g;exactλv H' e' B=>g v H' (e1.trans e') B|some (.nx r y)=>rw[i]at g;exactλa' H' g' e' w d' E' B=>g a' _ ((e1.trans e').trans (iL w)) (rj w d' E' B)
 ·rw[if_neg P]at g;exact g.elim⟩
def rm(j:Nat)(e:List Nat)(a:lP):List N->Ev->List N->Option Fo|[],b,c=>Z (.nx (fgt e b) c)|d::h,b,c=>match a ((fgt e b).set j (Z d)) c with|some (.nx f g)=>rm j e a h f g|o=>o
def He(j:Nat)(f:List Nat)(b:Þ)(a:lP):lP:=λc e=>yN (b c) λd=>if ß d=L then rm j f a d c e else U
def lQ:∀{a:List N}{n:Nat}{d:N},ß a=L->a[n]?=Z d->ĝ d=L
 |[],_,_,_,h=>by simp at h|e::a,0,d,i,h=>by
  have b:ĝ e=L/\ß a=L:=by simpa[ß]using i
  cases(show Z e=Z d from h);exact b.1|e::a,n+1,d,i,h=>by
  have b:ĝ e=L/\ß a=L:=by simpa[ß]using i
  exact lQ b.2 (show a[n]?=Z d from h)
def CB(a:ĝ i=L)(r:Ð v (Û f e (.lst ν)) i υ):Ð v f i υ:=Ð.tups (λb d q=>by
 by_cases c:b=e;·rw[c,au]at q;cases q
 ·rw[aB c]at q;exact q) i υ a r
def LN{fb:lP}(t':a.ex=[])(j:Nat)(js:List Nat)(p':b≠j)(hp:W5 (w_ a.prog a.w) a.A a.env a.xe)(hc:a.calm=L)(hi:FI a g w ξ)(hg:PG a g (wB j))(hb:Ŧ a b Ψ fb)(hs:∀x,TU w a.env x=pure x:=by intro _;lk):Ţ a b (.For g w Ψ [] k) (He j js ξ fb):=⟨λf' s σ Hf e I⟨H,c,xs,ρ,ds,e1,ha,q',E,r,o⟩=>by refine qK hp hc (G0 t' hi.h) hg hb.h hs f' s σ Hf e I ⟨H,c,xs,e1,ha,ρ,E,?_⟩;unfold He at o;match hf:ξ ρ with
 |none=>rw[hf]at o;exact o.elim|some (.exc _)=>rw[hf]at o;exact o.elim|some (.ok h)=>
 rw[hf]at o;have o0:Ě a b c H (if ß h=L then rm j js fb h ρ ds else U) e:=o;by_cases c':ß h=L
 · rw[if_pos c']at o0;intro J H1 e1 wk u';have o1:=Ě.mono e1 o0;refine⟨λn m A k'=>m=h.length-n/\n<=h.length/\∃i f p u,k'=Û i c (.lst f)/\i c=U/\Í H1 i/\A[b]?=Z (Z (.ref c))/\Ø a.K i A p/\S a.K i u f/\Ě a b c i (rm j js fb (h.drop n) p u) e,⟨h.length,by simp,TN _,H1,xs,ρ,ds,rfl,u',.refl H1,q',E.mono e1,S.mono e1 _ _ r,by simpa using o1⟩,?_⟩;rintro n m A k'⟨rfl,hn,i,f,p,u,rfl,e',e2,a',E',r',v⟩;have g':Í H1 (Û i c (.lst f)):=e2.trans (iL e');by_cases b':n<h.length;·refine .inr ⟨wk.go n _ g' b',λz i'=>∃H2 h' B P,i'=Û H2 c (.lst h')/\H2 c=U/\Í H1 H2/\z[b]?=Z (Z (.ref c))/\Ø a.K H2 z B/\S a.K H2 P h'/\Ě a b c H2 (rm j js fb (h.drop (n+1)) B P) e,λz i' q=>⟨h.length-(n+1),by omega,rfl,b',q⟩,λx H2 y=>?_⟩;obtain⟨rfl,d,hd,rd⟩:=wk.yld n _ x H2 g' b' y;have m':=CB (lQ c' hd) rd;rw[iJ hd]at v;show tO a b fb _ _ _;refine⟨i,c,f,(fgt js p).set j (Z d),u,rfl,e',by rw[E_ (VB p')];exact a',(Ø.fgt js E').set m',r',?_⟩;unfold rm at v;match d':fb ((fgt js p).set j (Z d)) u with|none=>rw[d']at v;exact v|some (.rt r)=>rw[d']at v;exact v|some (.nx B P)=>rw[d']at v;exactλz H3 l' e3 h3 s' E3 r3=>⟨H3,l',B,P,rfl,h3,e2.trans e3,s',E3,r3,Ě.mono e3 v⟩
   · have n':n=h.length:=by omega
     subst n';rw[Xq]at v;exact .inl ⟨wk.stop _ g',v A i f (.refl i) e' a' (Ø.fgt js E') r'⟩
 ·rw[if_neg c']at o0;exact o0.elim⟩
def rn:N->Bool|.bl _=>L|.int _=>L|_=>D
def Hh(K:d_)(d:N):WL K (.type (tyD d)) (.type "int")=Z (rn d):=by cases d<;>lk
def LO:Vn (b_ "int")=Z (.type "int"):=by lk
def LP:Ó|[.int i,.int j]=>Z (.ok (.int (if j>i then j else i)))|_=>U
def OW:Ó|[.int i,.int j]=>Z (.ok (.int (if j<i then j else i)))|_=>U
def Qd:Ó|[.int i]=>if i.natAbs.log2<1920 then Z (.ok (.str (toString i)))else U|_=>U
def LQ(s:a.calm=L)(p:Gl a "max")(n:a.mg "max"=U)(u:FA a (g::A) ξ)(q:k_ (g::A) a.env=(D,eval g a.env)::k_ A a.env:=by lk)(c:(TF z (k_ A a.env)).any (·.1)=D:=by lk):FE a (.Call (.Name "max" k) (g::A) [] z) (Ý LP ξ):=dv (hJ (xZ s) p n PyProof.Rows.boot_max u.h (by decide) (by decide) q c) λw H Q e E o=>⟨e,E,ç.bind o λP y d B h b=>by
 unfold LP at b;split at b;·rename_i i j;obtain⟨v,f,rfl,r,m⟩:=Cc h;cases(show v=.int i from r);cases(show f=.int j from m);exact⟨i,j,rfl,b _ d (.refl d) rfl⟩
 ·exact b.elim⟩
def LR(s:a.calm=L)(p:Gl a "min")(n:a.mg "min"=U)(u:FA a (g::A) ξ)(q:k_ (g::A) a.env=(D,eval g a.env)::k_ A a.env:=by lk)(c:(TF z (k_ A a.env)).any (·.1)=D:=by lk):FE a (.Call (.Name "min" k) (g::A) [] z) (Ý OW ξ):=dv (hJ (x3 s) p n PyProof.Rows.boot_min u.h (by decide) (by decide) q c) λw H Q e E o=>⟨e,E,ç.bind o λP y d B h b=>by
 unfold OW at b;split at b;·rename_i i j;obtain⟨v,f,rfl,r,m⟩:=Cc h;cases(show v=.int i from r);cases(show f=.int j from m);exact⟨i,j,rfl,b _ d (.refl d) rfl⟩
 ·exact b.elim⟩
def į:N->N->Option (Rs N)|.int i,.int j=>Z (.ok (.bl (uk (i<=j))))|.str x,.str y=>Z (.ok (.bl (!uk (y.cps.toList<x.cps.toList))))|_,_=>U
def RY:R2:=λx y H Q=>ŕ (λi j=>.bl (uk (i<=j))) x y H Q\/∃i j,x=.str i/\y=.str j/\Q (.bl (!uk (j.cps.toList<i.cps.toList))) H
def yO:û a (TZ .LtE) (λx y H Q=>∃i j,x=.str i/\y=.str j/\Q (.bl (!uk (j.cps.toList<i.cps.toList))) H):=by intro f s d H x y v u Q I c b h;obtain⟨i,j,rfl,rfl,q⟩:=h;obtain⟨t,rfl⟩:=c;obtain⟨e,rfl⟩:=b;exact PySem.P.le_str ⟨.bl _,H,I,rfl,q⟩
def Qe:û a (TZ .LtE) RY:=op_le.or yO
def Qf:Ĕ a RY į:=by
 intro e d x y H Q c b o;cases e<;>cases d<;>try exact(show False from o).elim
 ·rename_i i j;exact .inl ⟨i,j,c,b,o _ H (.refl H) rfl⟩
 ·rename_i i j;exact .inr ⟨i,j,c,b,o _ H (.refl H) rfl⟩
structure Qg(K:d_)(S:List Nat)(cls:Nat->O)(CJ:O):Prop where at_:∀c∈S,nsIn K R_ (KE c)=Z (Z (.ref (cls c)))/\excIn K (cls c) bmV "ValueError.__new__"=L/\XI K (cls c)/\mroIn K (cls c) (.ref CJ)=Z L/\mroIn K (cls c) (.ref (cls c))=Z L/\kitOne K (.ref (cls c)) (.type "ValueError")=Z L/\∀d∈S,kitOne K (.ref (cls c)) (.ref (cls d))=Z (c==d)exJ:excIn K CJ bmV "ValueError.__new__"=L
section
variable{K:d_}{S:List Nat}{cls:Nat->O}{CJ:O}(x:Qg K S cls CJ)
include x
end
end FD
variable{r:List FD.N}{Ν:L2.St}{ζ:FD.Ev}{i:FD.N}{Â:FD.Ó}{B:FD.Ò}{Ο:FD.å}{Υ:FD.Õ}{Ç:FD.Ò}{ξ:FD.Þ}{η:FD.N}{Λ:Pos}
namespace ST
open PySem.SetTable
def W'(m i:Nat):Nat:=(i*5+1)%(m+1)
def it(m:Nat):Nat->Nat->Nat|0,i=>i|k+1,i=>it m k (W' m i)
def xC(m:Nat):Bool:=(rl (m+1)).all λi=>(rl (m+1)).all λj=>(rl (m+1)).any λk=>it m k i==j
def SX:xC 7=L:=by decide+kernel
def Qh:xC 31=L:=by decide+kernel
def ve(m:Nat):∀(a b i:Nat),it m (a+b) i=it m b (it m a i)|0,b,i=>by rw[WU];rfl|a+1,b,i=>by rw[abM];exact ve m a b (W' m i)
def orb(m:Nat):Nat->Nat->List Nat|0,_=>[]|n+1,i=>i::orb m n (W' m i)
def EO(m:Nat):∀(n i j:Nat),j∈orb m n i->∃k,k<n/\it m k i=j
 |0,_,_,h=>by simp[orb]at h|n+1,i,j,h=>by
  rcases v_.mp h with rfl|h;·exact⟨0,by omega,rfl⟩
  ·obtain⟨k,b,a⟩:=EO m n _ j h;exact⟨k+1,by omega,a⟩
def Hi:((rl 128).all λj=>(orb 127 128 0).contains j)=L:=by decide+kernel
def CF:it 127 128 0=0:=by decide+kernel
def LS:xC 127=L:=by
 have c:∀j,j<128->∃k,k<128/\it 127 k 0=j:=λj d=>by have:=Uz.mp Hi j (Ux.mpr d);exact EO 127 128 0 j (by simpa using this)
 unfold xC;refine Uz.mpr λi g=>Uz.mpr λj d=>WQ.mpr ?_;obtain⟨a,n,f⟩:=c i (Ux.mp g);obtain⟨b,m,e⟩:=c j (Ux.mp d);by_cases h:a<=b;·refine⟨b-a,Ux.mpr (by omega),?_⟩;rw[<-f,<-ve,show a+(b-a)=b by omega,e];simp
 ·refine⟨128-a+b,Ux.mpr (by omega),?_⟩;rw[<-f,<-ve,show a+(128-a+b)=128+b by omega,ve,CF,e];simp
def LU(h:xC b=L){i j:Nat}(g:i<=b)(f:j<=b):∃k,k<=b/\it b k i=j:=by unfold xC at h;have d:=Uz.mp h i (Ux.mpr (by omega));have c:=Uz.mp d j (Ux.mpr (by omega));obtain⟨k,a,e⟩:=WQ.mp c;exact⟨k,by have:=Ux.mp a;omega,by simpa using e⟩
def lp(m:Nat):Nat->Nat×Nat->Nat×Nat|0,x=>x|r+1,x=>lp m r (leap m x.1 x.2)
def yQ(m:Nat):∀(a b:Nat)(x:Nat×Nat),lp m (a+b) x=lp m b (lp m a x)|0,b,x=>by rw[WU];rfl|a+1,b,x=>by rw[abM];show lp m (a+b) (leap m x.1 x.2)=lp m b (lp m a (leap m x.1 x.2));exact yQ m a b _
def Hj(m:Nat):∀(r:Nat)(x:Nat×Nat),x.1<=m->(lp m r x).1<=m|0,x,h=>h|r+1,x,h=>Hj m r _ (by show(x.1*5+1+x.2/32)%(m+1)<=m;exact Ws (XJ _ (Ye m)))
def LV(m:Nat):∀(r:Nat)(x:Nat×Nat),(lp m r x).2=x.2/32^r|0,x=>by simp[lp]|r+1,x=>by show(lp m r (leap m x.1 x.2)).2=_;rw[LV m r];show x.2/32/32^r=_;rw[Nat.div_div_eq_div_mul,Nat.pow_succ,Nat.mul_comm]
def yR(m:Nat):∀(r:Nat)(i:Nat),(lp m r (i,0)).1=it m r i
 |0,i=>rfl|r+1,i=>by
  show(lp m r (leap m i 0)).1=it m r (W' m i);have e:leap m i 0=(W' m i,0):=by unfold leap W';simp
  rw[e];exact yR m r _
def yS(c:xC b=L){i a j:Nat}(f:i<=b)(m:a<2^64)(d:j<=b):∃r,r<=13+b/\(lp b r (i,a)).1=j:=by
 have g:(lp b 13 (i,a)).2=0:=by rw[LV];exact Nat.div_eq_of_lt (by
 show a<32^13;have:(32:Nat)^13=2^65:=by decide
 omega)
 obtain⟨k,n,e⟩:=LU c (Hj b 13 (i,a) f) d;refine⟨13+k,by omega,?_⟩;rw[yQ];have h:lp b 13 (i,a)=((lp b 13 (i,a)).1,0):=by rw[<-g]
 rw[h,yR];exact e
def advN(t:SetTable):Nat->Probe->Probe|0,p=>p|n+1,p=>advN t n (t.advance p)
def j8(t:SetTable):∀(a b:Nat)(p:Probe),advN t (a+b) p=advN t b (advN t a p)|0,b,p=>by rw[WU];rfl|a+1,b,p=>by rw[abM];exact j8 t a b _
structure Vp(t:SetTable)(p:Probe):Prop where
 i:p.i<=t.mask
 pt:p.perturb<2^64more:p.more<=9dm:p.dummy=U
def rp(m i:Nat):acx m i-i<=9:=by unfold acx;split<;>omega
def rq(t:SetTable)(p:Probe):Probe:={p with j:=(leap t.mask p.i p.perturb).1,more:=acx t.mask (leap t.mask p.i p.perturb).1-(leap t.mask p.i p.perturb).1,i:=(leap t.mask p.i p.perturb).1,perturb:=(leap t.mask p.i p.perturb).2}
def vf(t:SetTable)(p:Probe)(h:p.more=0):t.advance p=rq t p:=by unfold abV rq;rw[if_neg (by omega)]
def yT(t:SetTable)(p:Probe)(h:0<p.more):t.advance p={p with j:=p.j+1,more:=p.more-1}:=by unfold abV;rw[if_pos h]
def tY(t:SetTable):∀(k:Nat)(p:Probe),p.more=k->advN t (k+1) p=rq t p|0,p,h=>vf t p h|k+1,p,h=>by show advN t (k+1) (t.advance p)=_;rw[yT t p (by omega),tY t k _ (by show p.more-1=k;omega)];rfl
def yU(m i a:Nat)(h:a<2^64):(leap m i a).2<2^64:=Nat.lt_of_le_of_lt (Nat.div_le_self _ _) h
variable{π:SetTable}
def Vp.leap{p:Probe}(v:Vp π p):Vp π (rq π p):=⟨by show(p.i*5+1+p.perturb/32)%(π.mask+1)<=π.mask;exact Ws (XJ _ (Ye π.mask)),(show(abd π.mask p.i p.perturb).2<2^64 from yU _ _ _ v.pt),(show acx π.mask (abd π.mask p.i p.perturb).1-(abd π.mask p.i p.perturb).1<=9 from rp _ _),v.dm⟩
def Vp.adv{p:Probe}(v:Vp π p):Vp π (π.advance p):=by
 by_cases h:0<p.more;·rw[yT π p h];exact⟨v.i,v.pt,by show p.more-1<=9;have:=v.more;omega,v.dm⟩
 ·rw[vf π p (by omega)];exact v.leap
def Vp.advN{t:SetTable}:∀(n:Nat){p:Probe},Vp t p->Vp t (advN t n p)|0,p,v=>v|n+1,p,v=>Vp.advN n v.adv
def vg(t:SetTable):∀(r:Nat)(p:Probe),Vp t p->∃n,n<=10*r/\(advN t n p).i=(lp t.mask r (p.i,p.perturb)).1/\(r≠0->(advN t n p).j=(advN t n p).i)
 |0,p,v=>⟨0,by omega,rfl,λh=>absurd rfl h⟩|r+1,p,v=>by
  obtain⟨n,e,d,c⟩:=vg t r (rq t p) v.leap;refine⟨p.more+1+n,by have:=v.more;omega,?_,λ_=>?_⟩;·rw[j8,tY t p.more p rfl,d];rfl
  · rw[j8,tY t p.more p rfl];by_cases a:r=0
    · subst a;have b:n=0:=by omega
      subst b;rfl
    ·exact c a
structure Tb(t:SetTable)(n:Nat):Prop where
 size:t.place.size=n
 dm:t.dummies=#[]cyc:xC t.mask=L
 room:n<=t.mask
def yV(j:Nat):has #[] j=D:=by unfold has;simp
def ou(T:Tb π b)(j:Nat):π.slot j=.empty\/∃i,π.slot j=.live i/\π.place[i]?=Z j:=by
 unfold SetTable.slot;dsimp only;split;·rename_i h;exact .inr ⟨_,rfl,by simpa using h⟩
 ·rw[T.dm,yV];exact .inl rfl
def yW:∀(m:Nat)(l:List Nat),l.length<=m->∃j,j<=m/\j∉l
 |0,l,h=>⟨0,o_ _,by have:l=[]:=Vr.mp (by omega);simp[this]⟩|m+1,l,h=>by
  by_cases a:(m+1)∈l;·obtain⟨j,d,b⟩:=yW m (l.erase (m+1)) (by rw[List.length_erase_of_mem a];omega);refine⟨j,by omega,λc=>b ?_⟩;exact(List.mem_erase_of_ne (by omega)).mpr c
  ·exact⟨m+1,o_ _,a⟩
def CG(T:Tb π b):∃j,j<=π.mask/\π.slot j=.empty:=by
 obtain⟨j,c,a⟩:=yW π.mask π.place.toList (by simp[T.size,T.room]);refine⟨j,c,?_⟩;rcases ou T j with h|⟨i,h,e⟩;·exact h
 ·exact absurd (Wu.mpr (Array.mem_of_getElem? e)) a
def Qi(T:Tb π b){p:Probe}(v:Vp π p):∃N,N<10*Ū π.mask/\π.slot (advN π N p).j=.empty:=by obtain⟨j,a,c⟩:=CG T;obtain⟨r,g,e⟩:=yS T.cyc (Hj π.mask 1 (p.i,p.perturb) v.i) (by show(leap π.mask p.i p.perturb).2<2^64;exact yU _ _ _ v.pt) a (a:=(lp π.mask 1 (p.i,p.perturb)).2);obtain⟨N,h,f,d⟩:=vg π (1+r) p v;refine⟨N,by unfold Ū;omega,?_⟩;rw[d (by omega),f,yQ];rw[show lp π.mask 1 (p.i,p.perturb)=((lp π.mask 1 (p.i,p.perturb)).1,(lp π.mask 1 (p.i,p.perturb)).2)from rfl,e];exact c
def first{P:Nat->Prop}[DecidablePred P]:∀(b:Nat),(∃n,n<b/\P n)->∃n,n<b/\P n/\∀k,k<n->¬P k
 |0,⟨n,h,_⟩=>absurd h (XD _)|b+1,⟨n,h,a⟩=>by
  by_cases q:∃n,n<b/\P n
  ·obtain⟨n,g,f,e⟩:=first b q;exact⟨n,by omega,f,e⟩
  · have c:n=b:=by have:¬n<b:=λz=>q ⟨n,z,a⟩;omega
    subst c;exact⟨n,by omega,a,λk d z=>q ⟨k,d,z⟩⟩
def LW(T:Tb π b){p:Probe}(v:Vp π p):∃N,N<10*Ū π.mask/\π.slot (advN π N p).j=.empty/\∀k,k<N->π.slot (advN π k p).j≠.empty:=first (P:=λb=>π.slot (advN π b p).j=.empty) _ (Qi T v)
def EQ{t:SetTable}{n:Nat}(T:Tb t n)(a:Nat->Int)(h:Int):∀(N b:Nat)(p:Probe),Vp t p->N<b->t.slot (advN t N p).j=.empty->(∀k,k<N->t.slot (advN t k p).j≠.empty)->ZG t a h b p=Z (.empty (advN t N p).j U)\/∃m i,m<N/\t.slot (advN t m p).j=.live i/\t.place[i]?=Z (advN t m p).j/\a i=h/\ZG t a h b p=Z (.candidate (advN t m p).j i (advN t (m+1) p))
 |N,0,p,v,d,_,_=>absurd d (XD _)|0,b+1,p,v,d,e,_=>by refine .inl ?_;unfold ZG;rw[show t.slot p.j=.empty from e];show Z (Met.empty p.j p.dummy)=_;rw[v.dm];rfl|N+1,b+1,p,v,d,e,g=>by
  rcases ou T p.j with z|⟨i,f,y⟩;·exact absurd z (g 0 (by omega))
  · by_cases c:a i=h;·refine .inr ⟨0,i,by omega,f,y,c,?_⟩;unfold ZG;rw[f];dsimp only;rw[if_pos (by simpa using c)];rfl
    · have j:ZG t a h (b+1) p=ZG t a h b (t.advance p):=by
       conv=>lhs;unfold ZG
       rw[f];dsimp only;rw[if_neg (by simpa using c)]
      rcases EQ T a h N b (t.advance p) v.adv (by omega) e (λk B=>g (k+1) (by omega))with q|⟨m,w,A,u,s,r,o⟩;·exact .inl (by rw[j,q];rfl)
      ·exact .inr ⟨m+1,w,by omega,u,s,r,by rw[j,o];rfl⟩
def yX(h:Int):Vp π (π.probeStart h):=⟨by show bits h%(π.mask+1)<=π.mask;exact Ws (XJ _ (Ye π.mask)),by show bits h<2^64;unfold bits;have b:=Wl h (show(2^64:Int)≠0 by decide);have a:=VG h (show(0:Int)<2^64 by decide);omega,rp _ _,rfl⟩
def rA{m:Nat}{a:Array (Option Nat)}:∀(b i c:Nat),i<=m->(∃r,r<b/\(a.getD (lp m r (i,c)).1 (Z 0)).isNone=L)->∃j,YA m a b i c=Z j/\(a.getD j (Z 0)).isNone=L
 |0,i,c,_,⟨r,h,_⟩=>absurd h (XD _)|b+1,i,c,g,⟨r,h,e⟩=>by
  unfold YA;split;·rename_i k d;exact⟨i+k,rfl,by simpa using ace d⟩
  ·rename_i d;cases r with|zero=>have f:0∈rl (acx m i+1-i):=Ux.mpr (by unfold acx;split<;>omega);have:=Y_.mp d 0 f;exact absurd (show(a.getD (i+0) (Z 0)).isNone=L from e) this|succ r=>exact rA b _ _ (by show(i*5+1+c/32)%(m+1)<=m;exact Ws (XJ _ (Ye m))) ⟨r,by omega,e⟩
def ES:∀(l:List (Option Nat))(j k:Nat),l[j]?=Z U->((l.set j (Z k)).filterMap id).Perm (k::l.filterMap id)
 |[],j,k,h=>by simp at h|x::l,0,k,h=>by
  have:x=U:=by simpa using h
  subst this;simp|x::l,j+1,k,h=>by have a:=ES l j k (by simpa using h);cases x with|none=>simpa using a|some y=>show List.Perm (y::(l.set j (Z k)).filterMap id) (k::y::l.filterMap id);exact(a.cons y).trans (aaS ..)
def yY:∀(l:List (Option Nat)),(l.filterMap id).length<l.length->∃j,j<l.length/\l[j]?=Z U|[],h=>by simp at h|none::l,h=>⟨0,by simp,rfl⟩|some y::l,h=>by obtain⟨j,b,a⟩:=yY l (by simpa using h);exact⟨j+1,by simpa using b,by simpa using a⟩
def Hk(m:Nat)(b:Option (Array (Option Nat)×Nat))(h:Int):Option (Array (Option Nat)×Nat):=do let(a,k)<-b let j<-YA m a (Ū m) (bits h%(m+1)) (bits h)pure (a.setIfInBounds j (Z k),k+1)
def Hl(h:Int):bits h<2^64:=by unfold bits;have b:=Wl h (show(2^64:Int)≠0 by decide);have a:=VG h (show(0:Int)<2^64 by decide);omega
def getD_none{a:Array (Option Nat)}(h:(a.getD b (Z 0)).isNone=L):b<a.size/\a.toList[b]?=Z U:=by rw[Xc]at h;cases q:a[b]? with|none=>rw[q]at h;simp at h|some x=>
 rw[q]at h;have c:x=U:=by simpa using h
 subst c;refine⟨(VC.mp q).1,by rw[W8];exact q⟩
def yZ{m:Nat}(c:xC m=L):∀(b:List Int)(a:Array (Option Nat))(k:Nat),a.size=m+1->(a.toList.filterMap id).Perm (rl k)->k+b.length<=m->∃d,b.foldl (Hk m) (Z (a,k))=Z (d,k+b.length)/\d.size=m+1/\(d.toList.filterMap id).Perm (rl (k+b.length))
 |[],a,k,f,g,n=>⟨a,rfl,f,g⟩|h::b,a,k,f,g,n=>by
  have z:k+(b.length+1)<=m:=by simpa using n
  obtain⟨p,y,o⟩:=yY a.toList (by rw[g.length_eq,Xb];simp only[UG,f];omega);have i:p<=m:=by simp only[UG,f]at y;omega
  obtain⟨r,B,w⟩:=yS c (i:=bits h%(m+1)) (a:=bits h) (Ws (XJ _ (Ye m))) (Hl h) i;obtain⟨j,f1,I⟩:=rA (m:=m) (a:=a) (Ū m) (bits h%(m+1)) (bits h) (Ws (XJ _ (Ye m))) ⟨r,by unfold Ū;omega,by rw[w,Xc];rw[W8]at o;rw[o];rfl⟩;obtain⟨A,q⟩:=getD_none I;have e:Hk m (Z (a,k)) h=Z (a.setIfInBounds j (Z k),k+1):=by show(YA m a (Ū m) (bits h%(m+1)) (bits h)).bind (λj=>Z (a.setIfInBounds j (Z k),k+1))=_;rw[f1];rfl
  rw[YM,e];obtain⟨d,v,u,s⟩:=yZ c b (a.setIfInBounds j (Z k)) (k+1) (by rw[Array.size_setIfInBounds];exact f) (by rw[Array.toList_setIfInBounds];refine(ES _ _ _ q).trans ((g.cons k).trans ?_);rw[aaj];exact(Xg k (rl k)).symm) (by omega);refine⟨d,?_,u,?_⟩;·rw[v];simp only[TW];congr 2;omega
  ·simp only[TW];rw[show k+(b.length+1)=k+1+b.length by omega];exact s
def tZ(c:xC b=L)(d:Array Int)(i:d.size<=b):∃f,acy b d=Z f/\f.size=b+1/\(f.toList.filterMap id).Perm (rl d.size):=by obtain⟨f,o,n,m⟩:=yZ c d.toList (aam (b+1) U) 0 (by simp) (by simp[List.filterMap_replicate]) (by simpa using i);refine⟨f,?_,n,by simpa using m⟩;unfold acy;rw[<-Array.foldl_toList];have e:(List.foldl (λg h=>do let(a,k)<-g let j<-YA b a (Ū b) (bits h%(b+1)) (bits h)pure (a.setIfInBounds j (Z k),k+1)) (Z (aam (b+1) U,0)) d.toList:Option (Array (Option Nat)×Nat))=d.toList.foldl (Hk b) (Z (aam (b+1) U,0)):=rfl;rw[e,o];rfl
def vh:∀(l:List (Option Nat))(a:Nat),((rl l.length).filterMap λj=>(l.getD j U).map (λx=>(a+j,x))).map (·.2)=l.filterMap id
 |[],a=>rfl|x::l,a=>by
  rw[TW,Z9,Xw,Za];have b:=vh l (a+1);have e:(rl l.length).filterMap ((λj=>((x::l).getD j U).map (λx=>(a+j,x)))∘Nat.succ)=(rl l.length).filterMap λj=>(l.getD j U).map (λx=>(a+1+j,x)):=by congr 1;funext j;show((x::l).getD (j+1) U).map _=_;simp only[List.getD_cons_succ];rw[show a+(j+1)=a+1+j by omega]
  rw[e];cases x with|none=>simpa using b|some y=>simp only[List.getD_cons_zero,VW,F_];rw[b];rfl
variable{Ρ:Nat}
def Hm(c:xC b=L)(f:Array Int)(h:f.size<=b):∃t a,laid b o Ρ H À f=Z (t,a)/\t.mask=b/\t.moves=Ρ/\t.led=H/\t.plain=À/\Tb t f.size/\a.toList.Perm (rl f.size):=by
 obtain⟨g,m,k,i⟩:=tZ c f h;have e:=vh g.toList 0;have d:((rl (b+1)).filterMap λj=>(g.getD j U).map (j,·))=((rl g.toList.length).filterMap λj=>(g.toList.getD j U).map (λx=>(0+j,x))):=by rw[UG,k];congr 1;funext j;rw[WU,Xc,Xh,W8]
 refine⟨_,_,by unfold laid;rw[m];rfl,rfl,rfl,rfl,rfl,⟨?_,rfl,c,h⟩,?_⟩;·simp only[I_,N_];rw[d];have:=congrArg YE e;rw[N_]at this;rw[this,i.length_eq,Xb]
 ·rw[aa6,d,e];exact i
def j9(a:Array P)(p:Nat)(x:P)(h:p<=a.size):(insertAt a p x).size=a.size+1:=by unfold insertAt;simp only[Zo,Array.size_push,Array.size_extract];omega
def vi(b:Array Nat)(j:Nat):below b j<=b.size:=by
 unfold below;have:∀(a lo c:Nat),lo<=c->c<=b.size->abD b j a lo c<=b.size:=by intro a;induction a with|zero=>intro lo c f e;unfold abD;omega|succ a d=>
  intro lo c f e;unfold abD;split
  · rename_i g;dsimp only;split;·exact d _ _ (by omega) e
    ·exact d _ _ (by omega) (by omega)
  ·omega
 exact this _ _ _ (TN _) (o_ _)
def LX(T:Tb π b)(h:b+1<=π.mask)(j:Nat):Tb (π.put j).1 (b+1)/\(π.put j).2<=b/\(π.put j).1.mask=π.mask/\(π.put j).1.led=π.led/\(π.put j).1.moves=π.moves:=by
 unfold SetTable.put;refine⟨⟨?_,?_,T.cyc,h⟩,?_,rfl,rfl,rfl⟩;·show(insertAt π.place (below π.place j) j).size=b+1;rw[j9 _ _ _ (vi _ _),T.size]
 ·show(if has π.dummies j then eraseAt π.dummies (below π.dummies j)else π.dummies)=#[];rw[T.dm,yV];rfl
 ·show below π.place j<=b;rw[<-T.size];exact vi _ _
abbrev TK(b:n_)(w:y_)(h:O_)(k:List Str)(a:O):Prop:=IsTupleKey (strKind b w) h k a
abbrev ģ(a:n_)(w:y_)(k:List Str):Int:=tupleKeyHash (strKind a w) k
def rB(h:ItemsAre (strKind n j) u E):∀v∈E,∃x t,v=.str x t:=by induction h with|nil=>intro v a;simp at a|@cons f d e E c _ b=>
 intro v a;rcases v_.mp a with rfl|a;·obtain⟨t,rfl⟩:=aa2 c;exact⟨_,_,rfl⟩
 ·exact b v a
def za{Q:Bool->ge->Prop}(k:TK n j d.heap u e)(h:Q D d):q_ (w_ n j) s (ofAClassStatement 8 (.ref e)) Q θ d:=by
 have hT:=k.typeIs;obtain⟨o,items,b,m,_,q,p⟩:=k;unfold ofAClassStatement;refine ck (Wm hT ?_);show q_ _ _ ((if("tuple"=="tuple")=L then pure L else isSubtype (.type "tuple") (.type "tuple"))>>=_) _ _ d;rw[if_pos (by decide)];refine ck (h_ ?_);simp only[XA,xy,if_false];refine ck (Vk m q ?_);refine ck ?_;show q_ _ _ (G' items _ _) _ _ d;rw[<-XQ];refine Xj _ (λrest r f=>r.1=U/\f=d/\∀v∈rest,∃x t,v=U5 x t) _ ?_ ?_ _ _ ⟨rfl,rfl,rB p⟩;·rintro v rest r f⟨g,rfl,c⟩;obtain⟨x,t,rfl⟩:=c v on;refine ck (h_ ?_);simp only[xy,if_false];exact h_ ⟨rfl,rfl,λa i=>c a (r_ _ i)⟩
 ·rintro⟨y,w⟩f⟨g,rfl,_⟩;simp only at g;subst g;exact h_ h
def LY(o:TK n j d.heap u e){l:List R}(q:∀v∈l,∃g a,v=.ref a/\TK n j d.heap g a){Q:Bool->ge->Prop}(h:Q D d):q_ (w_ n j) s (searchCouldBeSeen (.ref e) l) Q θ d:=by
 unfold searchCouldBeSeen;refine ck ?_;refine Xj _ (λrest r i=>r.1=U/\i=d/\∀v∈rest,∃g a,v=z_ a/\TK n j d.heap g a) _ ?_ ?_ _ _ ⟨rfl,rfl,q⟩
 · rintro v rest r i⟨k,rfl,f⟩;obtain⟨g,a,rfl,p⟩:=f v on;have c:∀v∈rest,∃g a,v=z_ a/\TK n j i.heap g a:=λb m=>f b (r_ _ m);dsimp only;split;·exact h_ ⟨rfl,rfl,c⟩
   ·refine ck (aan o ?_);simp only[XA,xy,if_false];refine ck (aan p ?_);simp only[XA,xy,if_false];refine ck (za o ?_);simp only[xy,if_false];refine ck (za p ?_);simp only[xy,if_false];exact h_ ⟨rfl,rfl,c⟩
 ·rintro⟨y,w⟩i⟨k,rfl,_⟩;simp only at k;subst k;exact h_ h
def ů(b:n_)(w:y_)(h:O_)(c:List (List Str))(d:List (Int×R)):Prop:=∀e∈d,∃k a,k∈c/\e.2=.ref a/\TK b w h k a
def pG(T:Tb π b):π.fits b=L:=by unfold acH acI;rw[T.size,T.dm];simp[T.room]
def zb{o:Obj}{w:Array (Int×R)}{ks:List (List Str)}{Q:SetFound->ge->Prop}(hu:s.units<cLine)(ho:d.heap.get? e=Z o)(hd:o.data=.set w b π)(T:Tb π w.size)(hm:π.mask%2=1)(hE:ů n j d.heap ks w.toList)(hx:TK n j d.heap u y)(hk:u∉ks):∀(N k:Nat)(st:Option Probe),(∀c,st=Z c->Vp π c)->N<k->π.slot (advN π N (st.getD (π.probeStart p))).j=.empty->(∀m,m<N->π.slot (advN π m (st.getD (π.probeStart p))).j≠.empty)->N<10*Ū π.mask->(∀h,Q (.free h D) d)->q_ (w_ n j) s (Zr e (.ref y) p H k st) Q θ d:=by intro N;induction N using Nat.strongRecOn with|_ N ih=>intro k st hv hf he hn hN hQ;cases k with|zero=>exact absurd hf (XD _)|succ k=>
 have B:=pG T;have v:Vp π (st.getD (π.probeStart p)):=by cases st with|none=>exact yX p|some c=>exact hv c rfl
 unfold Zr;refine ck (UB ho hd B ?_);dsimp only;have e':π.gaveWay=D:=by unfold SetTable.gaveWay;rw[hm];rfl
 rw[e'];simp only[xy,if_false];unfold SetTable.probe;rcases EQ T _ p N _ (st.getD (π.probeStart p)) v hN he hn with q|⟨m,i,m',q1,q2,q3,q5⟩;·rw[q];dsimp only;exact h_ (hQ _)
 · rw[q5];dsimp only;have hi:i<w.size:=by have:=(VC.mp q2).1;rw[T.size]at this;exact this
   obtain⟨k',a,d',ea,ta⟩:=hE w[i] (Wu.mpr (Array.getElem_mem hi));have hg:w[i]?=Z (w[i].1,.ref a):=by rw[Array.getElem?_eq_getElem hi,<-ea]
   have rest:q_ (w_ n j) s (do
    let Z (_,f):=w[i]?|aax "internal:set-entry"
    let r<-Xk [f] (eqBool f (.ref y))let(h',_,t')<-setState e if(H&&r)=L then return SetFound.there U
    let Z same:=t'.sameMemory π.moves π.mask|aax "set.changed-during-lookup:is-the-new-block-at-the-old-address"
    let E<-match(if same then t'.slot (advN π m (st.getD (π.probeStart p))).j else .empty)with
     |.live i'=>match h'[i']? with|some (_,y')=>do pure (if<-isSame y' f then Z i' else U)|none=>pure U
     |_=>pure U
    match E with|none=>rule "set.search.anew";Zr e (.ref y) p H k U|some i'=>if r then return .there (Z i')else Zr e (.ref y) p H k (Z (advN π (m+1) (st.getD (π.probeStart p))))) Q θ d:=by
    rw[hg];dsimp only;refine ck (Uu (wpAny_eqBool_tuple hu ta hx ?_));have c':uk (k'=u)=D:=decide_eq_false λz=>hk (z▸d');rw[c'];refine ck (UB ho hd B ?_);dsimp only;rw[Bool.and_false];simp only[xy,if_false];have b':π.sameMemory π.moves π.mask=Z L:=by unfold SetTable.sameMemory;simp
    rw[b'];dsimp only;rw[if_pos rfl,q1];dsimp only;rw[hg];dsimp only;have P:isSame (z_ a) (z_ a)=pure L:=by unfold isSame;dsimp only;rw[if_pos (by simp)]
    rw[P];refine ck (ck (h_ (h_ ?_)));rw[if_pos rfl];refine ih (N-(m+1)) (by omega) k (Z (advN π (m+1) (st.getD (π.probeStart p)))) (λc hp=>by cases hp;exact Vp.advN (m+1) v) (by omega) ?_ ?_ (by omega) hQ;·show π.slot (advN π (N-(m+1)) (advN π (m+1) (st.getD (π.probeStart p)))).j=.empty;rw[<-j8,show m+1+(N-(m+1))=N by omega];exact he
    ·intro x l';show π.slot (advN π x (advN π (m+1) (st.getD (π.probeStart p)))).j≠.empty;rw[<-j8];exact hn _ (by omega)
   by_cases A:π.led=L;·rw[A];simp only[XA,xy,if_false];exact rest
   · have a':π.led=D:=by simpa using A
     rw[a'];simp only[Ym,if_true];refine ck (LY hx (λv hv=>?_) ?_)
     · obtain⟨g,g',rfl⟩:=G_.mp hv;have f':g∈w.toList:=by have:=Wu.mp g';rw[Array.mem_filter]at this;exact Wu.mpr this.1
       obtain⟨k2,a2,_,e2,t2⟩:=hE g f';exact⟨k2,a2,e2,t2⟩
     ·simp only[xy,if_false];exact rest
abbrev þ(w:y_):Bool:=w.params.followText "set-order"
def Mk(m n:Nat):Prop:=(m=7/\n<=4)\/(m=31/\n<=18)\/(m=127/\n<=20)
def ē(a:n_)(w:y_)(h:O_)(S:O)(c:List (List Str))(d:List R)(n:Nat):Prop:=∃o b e t,h.get? S=Z o/\o.ExactSet/\o.data=.set b e t/\b.size=n/\Tb t n/\Mk t.mask n/\ů a w h c b.toList/\(b.toList.map (·.2)).Perm d/\t.led=(!þ w)/\((∀k∈c,k≠[])->n≠0->t.plain=D)
def ua{Q:Bool->ge->Prop}(m:TK n j d.heap u e)(h:∀b,(u≠[]->b=D)->Q b d):q_ (w_ n j) s (hashByValue 8 (.ref e)) Q θ d:=by
 have hT:=m.typeIs;obtain⟨o,items,c,p,_,q,k⟩:=m;have y:items.toList=[]->u=[]:=λa=>by rw[a]at k;cases k;rfl
 unfold hashByValue;refine ck (wpAny_specialOf hT F.slot_tuple_hash.lookup ?_);dsimp only;refine ck (Vk p q ?_);refine ck ?_;show q_ _ _ (G' items _ _) _ _ d;rw[<-XQ];refine Xj _ (λrest r g=>r.1=U/\g=d/\(∀v∈rest,∃x t,v=U5 x t)/\(rest=[]->u=[])) _ ?_ ?_ _ _ ⟨rfl,rfl,rB k,y⟩;·rintro v rest r g⟨i,rfl,f,_⟩;obtain⟨x,t,rfl⟩:=f v on;refine ck (h_ ?_);simp only[Ym,if_true];refine h_ ?_;exact h_ (h _ λ_=>rfl)
 ·rintro⟨B,A⟩g⟨i,rfl,_,w⟩;simp only at i;subst i;exact h_ (h _ λz=>absurd (w rfl) z)
def TK.keeps{g:O_}{o:Obj}{q r t}(x:TK n j ε u e)(i:ε.get? y=Z o)(m:o.data=.set q r t)(h:VA y ε g):TK n j g u e:=by
 obtain⟨f,items,a,c,p,b,k⟩:=x;have d:e≠y:=by rintro rfl;obtain rfl:f=o:=Uk (c.symm.trans i);rw[m]at b;exact nomatch b
 exact⟨f,items,a,(h.2 e d).trans c,p,b,k⟩
def ů.keeps{d:O_}{c:List (List Str)}{l:List (Int×R)}{o:Obj}{r s t}(x:ů n j ε c l)(g:ε.get? e=Z o)(i:o.data=.set r s t)(f:VA e ε d):ů n j d c l:=λb h=>by obtain⟨k,a,q,p,m⟩:=x b h;exact⟨k,a,q,p,m.keeps g i f⟩
def rD{o:Obj}{g a:Array (Int×R)}{c:SetTable}(f:ε.get? e=Z o)(d:o.data=.set g b π):(ε.update e (WB a c)).get? e=Z {o with data:=.set a (b+1) c}:=by have:=U8 (WB a c) f (by rw[ZC a c d];rfl);rw[ZC a c d]at this;exact this
def ů.insert{g:List (List Str)}{f:Array (Int×R)}(m:ů n j ε g f.toList)(k:TK n j ε u e):ů n j ε (u::g) (TM f b (p,.ref e)).toList:=λc i=>by
 have d:=(Z2 f b (p,z_ e)).mem_iff.mp i;rw[Yo]at d;rcases Ue.mp d with q|q;·obtain⟨h,a,s,r,o⟩:=m c q;exact⟨h,a,r_ _ s,r,o⟩
 ·rw[Ua]at q;subst q;exact⟨u,e,on,rfl,k⟩
def zc(T:Tb π b):π.fill=b:=by unfold acI;rw[T.size,T.dm];simp
def ow(h:b<=20):b<=sizeLine:=by rw[Xd];omega
def CH(a:Array P):(rl a.size).filterMap (λi=>a[i]?)=a.toList:=by
 apply Yl;intro i;have:(rl a.size).filterMap (λi=>a[i]?)=(rl a.size).pmap (λi h=>a[i]) (λi h=>Ux.mp h):=by
  rw[List.pmap_eq_map_attach,<-List.filterMap_eq_map];conv=>lhs;rw[<-List.attach_map_subtype_val (rl a.size)]
  rw[Za];congr 1;funext⟨i,b⟩;simp[Ux.mp b]
 rw[this];simp[List.getElem?_pmap,VZ];by_cases b:i<a.size;·simp[b]
 ·simp[b]
def Hn{d:Array Int}{c:Array Nat}(e:laid b o Ρ H À d=Z (π,c)):π.led=H/\π.plain=À:=by unfold laid at e;cases f:acy b d with|none=>rw[f]at e;cases e|some a=>rw[f]at e;cases e;exact⟨rfl,rfl⟩
def LZ{ks:List (List Str)}{Q:Bool->ge->Prop}(hu:s.units<cLine)(hS:ē n j d.heap e ks E b)(hx:TK n j d.heap u y)(hk:u∉ks)(hn:b+1<=20)(h:∀h',VA e d.heap h'->ē n j h' e (u::ks) (.ref y::E) (b+1)->Q L {d with heap:=h'}):q_ (w_ n j) s (ZV e (.ref y) (ģ n j u)) Q θ d:=by
 obtain⟨o,m,ep,t,ho,hex,hd,v,T,hm,hE,m',b',q'⟩:=hS;have k':=pG T;have A:t.fits m.size=L:=by rw[v];exact k'
 have i':t.mask%2=1:=by rcases hm with⟨c,_⟩|⟨c,_⟩|⟨c,_⟩<;>rw[c]
 have f':b+1<=t.mask:=by rcases hm with⟨c,q⟩|⟨c,q⟩|⟨c,q⟩<;>omega
 unfold ZV aay;refine Uu (ck (UB ho hd A ?_));dsimp only;have o':byScan (z_ y) m=D:=by unfold byScan;rfl
 rw[o'];simp only[xy,if_false];unfold setSearch;obtain⟨N,h1,h2,h3⟩:=LW T (yX (π:=t) (ģ n j u));have r':t.mask<=127:=by rcases hm with⟨c,_⟩|⟨c,_⟩|⟨c,_⟩<;>omega
 refine ck (zb (ks:=ks) hu ho hd (by rw[v];exact T) i' hE hx hk N 100000 U (λp hp=>by cases hp) (by unfold Ū at h1;omega) h2 h3 h1 λa=>?_);dsimp only;refine ck (UB ho hd A ?_);dsimp only;obtain⟨P1,P2,P3,P4,P5⟩:=LX T f' a;have a':((TM m (t.put a).2 (ģ n j u,z_ y)).toList.map (·.2)).Perm (.ref y::E):=by refine((Z2 m (t.put a).2 (ģ n j u,z_ y)).map (·.2)).trans ?_;rw[Yo,U1];exact(m'.append_right _).trans (Xg _ _)
 have go:∀H:Bool,((∀x∈u::ks,x≠[])->(if H then(t.put a).1 else{(t.put a).1 with plain:=D}).plain=D)->q_ (w_ n j) s (do
  acj e (TM m (t.put a).2 (ģ n j u,.ref y)) (if H then(t.put a).1 else{(t.put a).1 with plain:=D})if(!D&&(if H then(t.put a).1 else{(t.put a).1 with plain:=D}).tooFull)=L then setRelay e (Vy (m.size+1))
  return L) Q θ d:=by
  intro H e';have T2:∃f,(if H then(t.put a).1 else{(t.put a).1 with plain:=D})=f/\Tb f (b+1)/\f.mask=t.mask/\f.led=t.led:=by cases H with|true=>exact⟨_,rfl,P1,P3,rfl⟩|false=>exact⟨_,rfl,⟨P1.size,P1.dm,P1.cyc,P1.room⟩,P3,rfl⟩
  obtain⟨f,e2,T2,M2,L2⟩:=T2;rw[e2]at e'⊢;have g:(TM m (t.put a).2 (ģ n j u,z_ y)).size=b+1:=by rw[j9 _ _ _ (by rw[v];exact P2),v]
  refine ck (X2 ho hd ?_ (by rw[g];exact ow hn));have c':=Ve d.heap e (WB (TM m (t.put a).2 (ģ n j u,z_ y)) f);have hg:=rD (a:=TM m (t.put a).2 (ģ n j u,z_ y)) (c:=f) ho hd;have g':ů n j (d.heap.update e (WB (TM m (t.put a).2 (ģ n j u,z_ y)) f)) (u::ks) (TM m (t.put a).2 (ģ n j u,z_ y)).toList:=(hE.insert hx).keeps ho hd c';by_cases hf:f.tooFull=L
  · rw[hf];simp only[Ym,Bool.and_self,if_true];have B:f.fill*5>=f.mask*3:=by unfold abU at hf;simpa using hf
    rw[zc T2,M2]at B;have h5:b=4\/b=18:=by rcases hm with⟨c,q⟩|⟨c,q⟩|⟨c,q⟩<;>rw[c]at B<;>omega
    obtain⟨M,hM,cM,lM,kM⟩:∃M,sizeAbove (Vy (b+1))-1=M/\xC M=L/\b+1<=M/\Mk M (b+1):=by
     rcases h5 with rfl|rfl;·exact⟨31,by decide,Qh,by decide,.inr (.inl ⟨rfl,by decide⟩)⟩
     ·exact⟨127,by decide,LS,by decide,.inr (.inr ⟨rfl,by decide⟩)⟩
    unfold setRelay;refine ck (ck (UB hg rfl (by rw[g];exact pG T2) ?_));dsimp only;rw[v];rw[if_neg (by rw[Xd];rcases h5 with c|c<;>rw[c]<;>decide)];have l':f.relaid ((TM m (t.put a).2 (ģ n j u,z_ y)).map (·.1)) (Vy (b+1))=laid M f.finger (f.movedTo M) f.led f.plain ((TM m (t.put a).2 (ģ n j u,z_ y)).map (·.1)):=by unfold SetTable.relaid;rw[hM]
    obtain⟨t3,k,r1,r2,r3,r4,r5,r6,r7⟩:=Hm (o:=f.finger) (Ρ:=f.movedTo M) (H:=f.led) (À:=f.plain) cM ((TM m (t.put a).2 (ģ n j u,z_ y)).map (·.1)) (by rw[Wd,g];omega);have r8:t3.led=f.led/\t3.plain=f.plain:=Hn r1;rw[l',r1];rw[Wd,g]at r6 r7;have r:(k.filterMap (λi=>(TM m (t.put a).2 (ģ n j u,z_ y))[i]?)).toList.Perm (TM m (t.put a).2 (ģ n j u,z_ y)).toList:=by rw[Array.toList_filterMap];refine(r7.filterMap _).trans ?_;rw[<-g,CH]
    have w:(k.filterMap (λi=>(TM m (t.put a).2 (ģ n j u,z_ y))[i]?)).size=b+1:=by rw[<-UG,r.length_eq,UG,g]
    show q_ (w_ n j) s ((if((k.filterMap (λi=>(TM m (t.put a).2 (ģ n j u,z_ y))[i]?)).size !=(TM m (t.put a).2 (ģ n j u,z_ y)).size)=L then(aax "internal:set-table-lost-an-element":Sem _)else pure (k.filterMap (λi=>(TM m (t.put a).2 (ģ n j u,z_ y))[i]?),t3))>>=λx=>acj e x.1 x.2) _ _ _;rw[if_neg (by rw[w,g];simp)];refine ck (h_ ?_);refine X2 hg rfl ?_ (by rw[w];exact ow hn);have P:=Ve (d.heap.update e (WB (TM m (t.put a).2 (ģ n j u,z_ y)) f)) e (WB (k.filterMap (λi=>(TM m (t.put a).2 (ģ n j u,z_ y))[i]?)) t3);refine h_ (h _ (c'.trans P) ⟨_,_,_,t3,rD hg rfl,hex,rfl,w,r6,by rw[r2];exact kM,?_,(r.map (·.2)).trans a',r8.1.trans (L2.trans b'),λz _=>r8.2.trans (e' z)⟩);have p':=g'.keeps hg rfl P;exactλc he=>p' c (r.mem_iff.mp he)
  · have d':f.tooFull=D:=by simpa using hf
    rw[d'];simp only[Ym,Bool.and_false,xy,if_false];have B:¬(f.fill*5>=f.mask*3):=by unfold abU at d';simpa using d'
    rw[zc T2,M2]at B;refine h_ (h _ c' ⟨_,_,_,f,hg,hex,rfl,g,T2,?_,g',a',L2.trans b',λz _=>e' z⟩);rw[M2];rcases hm with⟨c,q⟩|⟨c,q⟩|⟨c,q⟩;·exact .inl ⟨c,by omega⟩
    ·exact .inr (.inl ⟨c,by omega⟩)
    ·exact .inr (.inr ⟨c,hn⟩)
 cases n':(t.put a).1.plain with|true=>simp only[if_true];refine ck (ua hx λH hb=>?_);refine go H λz=>?_;rw[hb (z u on)];rfl|false=>simp only[xy,if_false];refine ck (h_ ?_);exact go L λ_=>n'
def TK.moved{d:O_}(x:TK n j ε u e)(g:∀o,ε.get? e=Z o->d.get? e=Z o):TK n j d u e:=by obtain⟨f,items,a,b,i,c,h⟩:=x;exact⟨f,items,a,g _ b,i,c,h⟩
def ē.moved{f:O_}{d:List (List Str)}(x:ē n j ε e d E b)(u:∀o,ε.get? e=Z o->f.get? e=Z o)(q:∀k∈d,∀a,TK n j ε k a->TK n j f k a):ē n j f e d E b:=by obtain⟨o,z,A,t,p,hex,s,g,T,h,v,m⟩:=x;exact⟨o,z,A,t,u _ p,hex,s,g,T,h,λc r=>let⟨k,a,i,y,w⟩:=v c r;⟨k,a,i,y,q k i a w⟩,m⟩
def Qj{m:Zs->ge->Prop}{E:List O}{G:Array aaH->Array aaH->Prop}{P:Nat->R->Prop}{St:Nat->ge->Prop}(W:WalksS n j s.in1 e ω E G b P St)(S:O)(f':S∉ω)(hu:s.in1.units<cLine)(r':E=[e])(hI:∀i d,St i d->∃o vs,d.heap.get? e=Z o/\o.data=.fields vs)(q:Nat->O)(p:Nat->List Str)(i':∀i v,P i v->v=.ref (q i))(hn:b<=20)(b':∀i c,i<b->c<b->p i=p c->i=c):∀(k i:Nat)(d:ge),b-i=k->i<=b->St i d->(∀c,c<b->TK n j d.heap (p c) (q c))->ē n j d.heap S (((rl i).map p).reverse) (((rl i).map λc=>z_ (q c)).reverse) i->(∀w,Moved (S::E) G d w->ē n j w.heap S (((rl b).map p).reverse) (((rl b).map λc=>z_ (q c)).reverse) b->m (.ok (.ret .none)) w)->WH (w_ n j) s (.builtin "set.update.loop" ⟨[.ref S,.ref e],[]⟩) m d:=by
 have e':S∉E:=λh=>f' (W.sub _ h);have B:∀f∈E,f∈S::E:=λf hb=>r_ _ hb;have A:∀{i:Nat}{d:ge}{k:List Str}{a:O},St i d->TK n j d.heap k a->a∉E:=λ{i d k a}r x u=>by rw[r',Ua]at u;subst u;obtain⟨o',items,b,c',hc,d',hi⟩:=x;obtain⟨o,vs,y,hd⟩:=hI _ _ r;rw[y]at c';cases c';rw[hd]at d';cases d'
 intro k;induction k with|zero=>
 intro i d hk hi r hT hS hR;have u':i=b:=by omega
 subst u';refine UY WO ?_;rw[Vo Vq _];show q_ _ s.in1 (Wf (.ref e)>>=_) _ _ d;refine ck (W.done d _ _ r λw u=>?_);show q_ _ s.in1 (ret C_) _ _ w;exact h_ (hR w (u.mono B) (hS.moved (λo y=>u.heap S _ e' y) λk' _ a x=>x.moved λo y=>u.heap a _ (A r x) y))|succ k ih=>
 intro i d hk hi r hT hS hR;have z:i<b:=by omega
 refine UY WO ?_;rw[Vo Vq _];show q_ _ s.in1 (Wf (.ref e)>>=_) _ _ d;refine ck (W.item i d _ _ z r λv w hP l' u=>?_);have hv:=i' i v hP;subst hv;have a':∀c,c<b->TK n j w.heap (p c) (q c):=λc hj=>(hT c hj).moved λo y=>u.heap _ _ (A r (hT c hj)) y;have g':ē n j w.heap S (((rl i).map p).reverse) (((rl i).map λc=>z_ (q c)).reverse) i:=hS.moved (λo y=>u.heap S _ e' y) λk' _ a x=>x.moved λo y=>u.heap a _ (A r x) y;show q_ _ s.in1 (Xk [z_ (q i)] (setAdd S (.ref (q i)))>>=_) _ _ w;refine ck (Uu ?_);unfold setAdd;refine Uu ?_;refine ck (wpAny_pyHash_tuple hu (a' i z) ?_);have m':p i∉((rl i).map p).reverse:=λu=>by rw[List.mem_reverse]at u;obtain⟨c,hj,g⟩:=G_.mp u;have y':=Ux.mp hj;have:=b' c i (by omega) z g;omega
 refine LZ (d:={w with toks:=w.toks+((p i).length+1)}) hu g' (a' i z) m' (by omega) λh' H x'=>?_;obtain⟨oS,z',A',tS,t',_,v',_⟩:=g';have w':ē n j h' S (((rl (i+1)).map p).reverse) (((rl (i+1)).map λc=>z_ (q c)).reverse) (i+1):=by rw[aaj,U1,aa7,U1,aa7];exact x'
 refine h_ ⟨Yy Vq _,ih (i+1) _ (by omega) z (W.frame _ w _ _ l' (by simp) λf hb o g=>?_) (λc hj=>(a' c hj).keeps t' v' H) w' λq' n' p'=>?_⟩;·rw[H.2 f (λh:f=S=>f' (by rw[<-h];exact hb))];exact g
 ·refine hR q' (Moved.trans W.gtrans ((u.mono B).then_heap (by simp) λf o hb g=>?_) n') p';rw[H.2 f (λh:f=S=>hb (by rw[h];exact on))];exact g
abbrev iE(a:Bool):Obj:={cls:=.type "set",dict:=U,data:=.set #[] 0 (.fresh 0 0 a)}
def Ho(a:ε.get? e=Z (iE (!þ j))):ē n j ε e [] [] 0:=⟨_,#[],0,_,a,⟨rfl,rfl,rfl⟩,rfl,rfl,⟨rfl,rfl,SX,TN _⟩,.inl ⟨rfl,by omega⟩,(λa b=>by simp at b),.refl _,rfl,λ_ z=>absurd rfl z⟩
def ub(a:R){c:R->ge->Prop}(h:c (.ref d.heap.objs.size) {d with heap:=d.heap.push (iE (!þ j))}):WH (w_ n j) s (.call (.builtin "set.__new__") ⟨[.type "set",a],[]⟩) (wants c θ) d:=by refine YI ?_;show q_ _ s.in1 (do checkBuiltinCall "set.__new__" ⟨[.type "set",a],[]⟩;T' (.builtin "set.__new__" ⟨[.type "set",a],[]⟩)) _ _ d;refine ck (V3 (F.newCall_set_1 a) (h_ ⟨Yy F.plain_set_new _,UY F.entry_set_new ?_⟩));rw[Vo F.plain_set_new _];unfold U9.«set.__new__»acB;have e:=sub_set_self;obtain⟨i,g,b,f,os⟩:=d;dsimp only;wp_walk;refine WJ (h_ ?_);dsimp only;simp only[newObj];exact ck (wpAny_alloc (h_ (h_ h)))
def L0{h:Nat->List Str}{m:Nat->O}{g:Zs->ge->Prop}(hh:s.handled=U)(hu:s.units+8<cLine)(hl:d.heap.IsList e Β)(hk:∀i,i<Β.size->Β[i]?=Z (.ref (m i))/\TK n j d.heap (h i) (m i))(hn:Β.size<=20)(r:∀i c,i<Β.size->c<Β.size->h i=h c->i=c)(hR:∀(u:O_)(tk:Nat),ē n j u d.heap.objs.size (((rl Β.size).map h).reverse) (((rl Β.size).map λc=>z_ (m c)).reverse) Β.size->(∀b o,b<d.heap.objs.size->d.heap.get? b=Z o->u.get? b=Z o)->g (.ok (.ret .none)) {d with heap:=u,toks:=tk}):WH (w_ n j) s (.call (.builtin "set.__init__") ⟨[.ref d.heap.objs.size,.ref e],[]⟩) g {d with heap:=d.heap.push (iE (!þ j))}:=by
 have hS:(d.heap.push (iE (!þ j))).get? d.heap.objs.size=Z (iE (!þ j)):=m_ _ rfl;have hT:WA {d with heap:=d.heap.push (iE (!þ j))} (.ref d.heap.objs.size) "set":=⟨_,hS,rfl⟩;refine YB Ui.init.plain ZL (ZE hT ?_);obtain⟨ol,w,B,nl,A⟩:=hl;obtain⟨m',q,l',p⟩:=ol;simp only at B A;subst B;subst A;have E:(d.heap.push (iE (!þ j))).get? e=Z {cls:=.type "list",dict:=q,data:=.seq Β nl,slots:=p}:=i_ _ w;have s1:=F.sub_list_set;have s2:=aaI;have s3:(l_ "list"==l_ "dict")=D:=by decide
 have z:(d.heap.push (iE (!þ j))).IsList e Β:=⟨_,E,rfl,nl,rfl⟩;unfold U9.«set.__init__»noKeywords WY;generalize k':ž=PI;wp_walk;subst k';refine W9 z (ck (X3 ?_));have y:e<d.heap.objs.size:=s_ w;have H:e≠(d.heap.push (iE (!þ j))).objs.size:=by rw[L_];exact A_ (TV y)
 have f':d.heap.objs.size∉[(d.heap.push (iE (!þ j))).objs.size,e]:=by rw[L_];simp only[v_,TD,or_false,not_or];exact⟨A_ (U6 _),Wr y⟩
 have up:∀{k:List Str}{a:O},TK n j d.heap k a->TK n j ((d.heap.push (iE (!þ j))).push {cls:=.type "list_iterator",data:=.fields #[.ref e,.int 0 0]}) k a:=λx=>x.moved λo f=>i_ _ (i_ _ f);refine Qj ((abi (by simp[hh]) _ e H Β).toS) d.heap.objs.size f' (by show s.units+1+1<cLine;omega) rfl (λi s' st=>by obtain⟨⟨o,ho,_,hd⟩,_⟩:=st;exact⟨o,_,ho,hd⟩) m h (λi v hv=>?_) hn r (Β.size-0) 0 _ (by omega) (TN _) ⟨⟨_,m_ _ rfl,rfl,rfl⟩,(z.push _)⟩ (λc hj=>up (hk c hj).2) ?_ ?_;·have hi:i<Β.size:=(VC.mp hv).1;have:=(hk i hi).1;rw[this]at hv;exact(Uk hv).symm
 ·exact Ho (i_ _ hS)
 · intro s' P i';obtain⟨u,g',d',a',b'⟩:=s';have eg:g'=d.gens:=P.gens;have ed:d'=d.drawn:=P.drawn;have eo:b'=d.os:=P.os;subst eg;subst ed;subst eo;show q_ _ _ _ _ _ _;refine h_ ?_;show q_ _ _ (ret C_) _ _ _;refine h_ (hR u a' i' λb o hb f=>?_);have e':b≠d.heap.objs.size:=A_ hb;have c':b≠(d.heap.push (iE (!þ j))).objs.size:=by rw[L_];exact A_ (TV hb)
   exact P.heap b o (by simp only[v_,TD,or_false,not_or];exact⟨e',c'⟩) (i_ _ (i_ _ f))
def call_set_T{k:Nat->List Str}{p:Nat->O}(hh:s.handled=U)(hu:s.units+16<cLine)(hl:d.heap.IsList e Β)(hk:∀i,i<Β.size->Β[i]?=Z (.ref (p i))/\TK n j d.heap (k i) (p i))(hn:Β.size<=20)(v:∀i a,i<Β.size->a<Β.size->k i=k a->i=a)(h:∀(m:O_)(y:Nat),ē n j m d.heap.objs.size (((rl Β.size).map k).reverse) (((rl Β.size).map λa=>z_ (p a)).reverse) Β.size->(∀b o,b<d.heap.objs.size->d.heap.get? b=Z o->m.get? b=Z o)->Ω (.ref d.heap.objs.size) {d with heap:=m,toks:=y}):q_ (w_ n j) s (call (.type "set") [.ref e]) Ω θ d:=by
 obtain⟨c,tl,b'⟩:=Ui.mro;have P:=Ui.made;have a':=Ui.sub;refine YX (YI ?_);show q_ _ _ (callAny (.type "set") _) _ _ _;refine h_ ⟨XG _ (by decide+kernel),UY Zg ?_⟩;rw[Y7 (Yr "set" [.ref e] []) rfl];have h1:=Ui.notType;have h2:=Ui.canCreate;have d':=ZH (.ref e);repeat(any_goals(first|assumption|wp_step))
 refine VI (ub (.ref e) (θ:=θ) (c:=λz u=>z=.ref d.heap.objs.size/\u={d with heap:=d.heap.push (iE (!þ j))}) ⟨rfl,rfl⟩) λr u B=>?_;cases r with|error f=>exact B|ok fl=>cases fl with
 |ret z=>
  obtain⟨rfl,rfl⟩:=B;have hT:WA {d with heap:=d.heap.push (iE (!þ j))} (.ref d.heap.objs.size) "set":=⟨_,m_ _ rfl,rfl⟩;have c':=Ui.init.lookup;have e':=Ui.init.bind (.ref d.heap.objs.size);repeat(any_goals(first|assumption|wp_step))
  refine VI (L0 (g:=wants (λr q=>r=.none/\∃m y,q={d with heap:=m,toks:=y}/\ē n j m d.heap.objs.size (((rl Β.size).map k).reverse) (((rl Β.size).map λa=>z_ (p a)).reverse) Β.size/\(∀b o,b<d.heap.objs.size->d.heap.get? b=Z o->m.get? b=Z o)) θ) (by simp[hh]) (by show s.units+1+8<cLine;omega) hl hk hn v λm y q1 q2=>⟨rfl,m,y,rfl,q1,q2⟩) λA q g=>?_;cases A with|error f=>exact g|ok w=>cases w with
  |ret r=>
  obtain⟨rfl,m,y,rfl,H,E⟩:=g;repeat(any_goals(first|assumption|wp_step))
  exact h _ _ H E|_=>exact g.elim
 |_=>exact B.elim
def len_T{f:List (List Str)}(k:ē n j d.heap e f E b)(q:b<=20)(h:∀t c,Ω (.int b t) {d with toks:=c}):q_ (w_ n j) s (call (.builtin "len") [.ref e]) Ω θ d:=by obtain⟨o,m,v,t,g,hex,i,a,T,r,u,p⟩:=k;subst a;exact call_len_set g hex i (pG T) (Int.lt_of_le_of_lt (show((m.size:Nat):Int)<=20 by omega) (by decide)) (h _ _)
end ST
variable{π:SetTable}{Ρ:Nat}
namespace FD
open L2
def bD:List N->Option (List Str)|[]=>Z []|.str x::r=>(bD r).map (x::·)|_=>U
def keysOf:List N->Option (List (List Str))
 |[]=>Z []|.tup b::r=>match bD b,keysOf r with|some k,Z a=>Z (k::a)|_,_=>U
 |_=>U
def mG:Ó
 |[.lst b]=>match keysOf b with|some a=>if a.Nodup/\a.length<=20 then Z (.ok (.int a.length))else U|none=>U
 |_=>U
def ox{X:C}{H:Hp}{d:n_}{w:y_}:∀{c:List N}{k:List Str}{b:List V}{a:List R},bD c=Z k->S X.K H c b->Ë b a->acA (Uy d w) k a
 |[],k,b,a,h,r,v=>by cases h;cases(show b=[]from r);cases v;exact .nil|.str x::c,k,b,a,h,r,v=>by obtain⟨y,e,rfl,j,i⟩:∃v e,b=v::e/\Ð X.K H (.str x) v/\S X.K H c e:=r;cases(show y=.str x from j);obtain⟨n,m,rfl⟩:=UX.mp (show(bD c).map (x::·)=Z k from h);cases v with|cons g f=>obtain⟨t,rfl⟩:=g;exact .cons (by show Wz x (.str x t)=L;simp[Wz]) (ox m i f)
 |.non::c,k,b,a,h,r,v=>by cases h|.bl _::c,k,b,a,h,r,v=>by cases h|.int _::c,k,b,a,h,r,v=>by cases h|.tup _::c,k,b,a,h,r,v=>by cases h|.lst _::c,k,b,a,h,r,v=>by cases h|.scr _::c,k,b,a,h,r,v=>by cases h|.exn _::c,k,b,a,h,r,v=>by cases h|.obj _ _::c,k,b,a,h,r,v=>by cases h
def Qk(I:Ê a δ Ν f d){j:List N}{k:List Str}{v:V}{u:R}(h:bD j=Z k)(r:Ð a.K f (.tup j) v)(q:Ô v u):∃b,u=.ref b/\ST.TK a.prog a.w d.heap k b:=by obtain⟨b,w,rfl,s,p⟩:=r.tupE;cases(show u=z_ b from q);obtain⟨i,m,⟨o,e,c,n,g⟩,y⟩:=I.tuple (ð.of s);exact⟨b,rfl,o,i.toArray,_,e,c,g,by simpa using ox h p m⟩
def zd{X:C}{B:List (O×Obj)}{j:L2.St}{H:Hp}{s:ge}(I:Ê X B j H s):∀{e:List N}{d:List (List Str)}{c:List V}{b:List R},keysOf e=Z d->S X.K H e c->Ë c b->d.length=b.length/\∀i,i<b.length->∃a,b[i]?=Z (.ref a)/\ST.TK X.prog X.w s.heap (d.getD i []) a
 |[],d,c,b,h,r,v=>by cases h;cases(show c=[]from r);cases v;exact⟨rfl,λi g=>absurd g (XD _)⟩|.tup E::e,d,c,b,h,r,v=>by
  obtain⟨y,f,rfl,q,p⟩:∃v f,c=v::f/\Ð X.K H (.tup E) v/\S X.K H e f:=r;unfold keysOf at h;split at h;·rename_i k b' A z;cases h;cases v with|cons n m=>obtain⟨a,rfl,o⟩:=Qk I A q n;obtain⟨w,u⟩:=zd I z p m;refine⟨by simp[w],λi g=>?_⟩;cases i with|zero=>exact⟨a,rfl,o⟩|succ i=>obtain⟨a',e1,P⟩:=u i (by simpa using g);exact⟨a',by simpa using e1,by simpa using P⟩
  ·cases h|.non::e,d,c,b,h,r,v=>by cases h|.bl _::e,d,c,b,h,r,v=>by cases h|.int _::e,d,c,b,h,r,v=>by cases h|.str _::e,d,c,b,h,r,v=>by cases h|.lst _::e,d,c,b,h,r,v=>by cases h|.scr _::e,d,c,b,h,r,v=>by cases h|.exn _::e,d,c,b,h,r,v=>by cases h|.obj _ _::e,d,c,b,h,r,v=>by cases h
def wR{a:List P}(h:a.Nodup){i j:Nat}(c:i<a.length)(b:j<a.length)(e:a.getD i È=a.getD j È):i=j:=by rw[Xh,Xh,t_ c,t_ b]at e;exact(ab3 h).mp (by simpa using e)
def ze{e:Pos}(hu:a.A.units+64<cLine)(hc:a.calm=L)(hg:Gl a "len")(hm:a.mg "len"=U)(g':Gl a "set")(c':a.mg "set"=U)(ha:FA a [g] ξ)(he:k_ [.Call (.Name "set" z) [g] [] e] a.env=(D,eval (.Call (.Name "set" z) [g] [] e) a.env)::k_ [] a.env:=by lk)(b':(TF Λ (k_ [] a.env)).any (·.1)=D:=by lk)(i':k_ [g] a.env=(D,eval g a.env)::k_ [] a.env:=by lk)(A:(TF e (k_ [] a.env)).any (·.1)=D:=by lk):FE a (.Call (.Name "len" k) [.Call (.Name "set" z) [g] [] e] [] Λ) (Ý mG ξ):=⟨λf' s σ H Q I⟨ρ,E,o⟩=>by
 refine UV (gF I hg hm acq ?_ (by decide) (by decide));refine WN ?_ he b';rw[he];show q_ _ _ (spliced ((D,eval (.Call (.Name "set" z) [g] [] e) a.env)::TF Λ (k_ [] a.env))) _ _ s;refine V_ ?_;refine UV (gF I g' c' (ψ:=.type "set") (by decide+kernel) ?_ (by decide) (by decide));refine UM (á (ha.h e f' s σ H _ I ⟨ρ,E,ç.bind o λy vs w e1 P h=>(show∃y,S a.K w y vs/\ê a w (mG y) Q from⟨y,P,h⟩)⟩) λus s1⟨vs,w,B,r1,y,P,h⟩=>?_) i' A;unfold mG at h;split at h
 · rename_i es;obtain⟨v,rfl,r⟩:=dt P;obtain⟨l,xs,rfl,hl,rx⟩:=r.lstE;obtain⟨u,rfl,ru⟩:=fq r1;cases(show u=z_ l from ru);split at h
   · rename_i ks d';split at h
     · rename_i p;obtain⟨d,m,n,rv,hz,eh⟩:=B.lstM hl;obtain⟨q1,q2⟩:=zd B d' rx rv;have f:m.toArray.size=ks.length:=by simp[q1]
       refine ST.call_set_T (Β:=m.toArray) (k:=λi=>ks.getD i []) (p:=λi=>match m[i]? with|some (.ref c)=>c|_=>0) (B.ok.hd hc) (by omega) ⟨_,eh,rfl,n,rfl⟩ (λi hi=>?_) (by rw[f];exact p.2) (λi j hi hj k'=>?_) λh' tk hS e'=>?_;·obtain⟨c,e1,e2⟩:=q2 i (by simpa using hi);simp only[List.getElem?_toArray,e1];exact⟨trivial,e2⟩
       ·exact wR p.1 (by rw[<-f];exact hi) (by rw[<-f];exact hj) k'
       ·refine Wo ?_;refine ST.len_T hS (by rw[f];exact p.2) λt a'=>⟨.int (ks.length:Nat),w,?_,⟨t,by rw[f]⟩,h _ w (.refl w) rfl⟩;exact B.kept (t':=a') λb u q=>e' b u (s_ q) q
     ·exact h.elim
   ·exact h.elim
 ·exact h.elim⟩
def oy(g:d.heap.IsTupleIter e y b)(p:d.heap.IsTuple y Β)(o:Β[b]?=Z ψ)(q:∀f,f.IsTupleIter e y (b+1)->VA e d.heap f->Ω ψ {d with heap:=f}):q_ (w_ n j) s (UU (.ref e)) Ω θ d:=by obtain⟨u,c,k,a⟩:=id g;obtain⟨r,i,_,m,h⟩:=p;unfold UU;refine ck (Uc (name:=b_ "__next__") g.typeIs V9 (Ub V9 g.typeIs YS ?_ (YK _)));show q_ _ _ (ſ (.ref e) 0>>=_) _ _ d;refine ck (U_ c a (x:=.ref y) rfl ?_);show q_ _ _ (if(z_ y==C_)=L then _ else _) _ _ d;rw[if_neg (show¬((z_ y==C_)=L)from D_)];show q_ _ _ (ſ (.ref e) 1>>=_) _ _ d;refine ck (U_ c a (x:=.int b 0) rfl ?_);show q_ _ _ (seqItems? (.ref y)>>=_) _ _ d;refine ck (Vk i h ?_);simp only[VU,o];refine ck (YW c a (by simp) (h_ ⟨ψ,rfl,h_ (q _ ⟨_,U8 _ c (aar (XF a _)),(abE ..).trans k,by rw[XF a];simp[Vd]⟩ (Ve ..))⟩))
def zg(i:s.handled=U)(h:d.heap.IsTupleIter e y b)(u:d.heap.IsTuple y Β)(r:Β[b]?=U)(q:∀g a,aaG e d.heap g->(∃o,g.get? a=Z o/\o.cls=.type "StopIteration")->θ (.ref a) {d with heap:=g}):q_ (w_ n j) s (UU (.ref e)) Ω θ d:=by
 obtain⟨w,f,z,c⟩:=id h;obtain⟨v,p,_,m,k⟩:=u;unfold UU;refine ck (Uc (name:=b_ "__next__") h.typeIs V9 (Ub V9 h.typeIs YS ?_ (YK _)));show q_ _ _ (ſ (.ref e) 0>>=_) _ _ d;refine ck (U_ f c (x:=.ref y) rfl ?_);show q_ _ _ (if(z_ y==C_)=L then _ else _) _ _ d;rw[if_neg (show¬((z_ y==C_)=L)from D_)];show q_ _ _ (ſ (.ref e) 1>>=_) _ _ d;refine ck (U_ f c (x:=.int b 0) rfl ?_);show q_ _ _ (seqItems? (.ref y)>>=_) _ _ d;refine ck (Vk p k ?_);simp only[VU,r];refine ck (Wx (ck (YW f c (by simp) ?_)));show q_ _ _ (acm (.type "StopIteration") []>>=_) _ _ _;refine ck ?_;simp only[acm,abt];refine ck (TJ ?_ (by size_fits));refine ck (m:=V8 _ _) (V3 (a:=C_) (by first|rfl|(simp only[V8];rfl)) ?_);refine TJ ?_ (by size_fits);simp only[acl];refine ck (Zp ?_);first|rw[show s.in1.handled=U from i]|rw[i]
 exact ck (h_ (aav (q _ _ (((Ve ..).extBut.push _).push _) ⟨_,m_ _ rfl,rfl⟩)))
def zh{k r p l1 P:O}{ys:Array R}{h a i:R}{Q:Option R->ge->Prop}(f:acv e y k r p l1 P)(B:ř d.heap e y k .none)(g':X9 d.heap y (.ref r) (.ref p))(f':X9 d.heap k a i)(j1:d.heap.IsTupleIter r l1 b)(j2:d.heap.IsTupleIter p P b)(m1:d.heap.IsTuple l1 Β)(m2:d.heap.IsTuple P ys)(hx:Β[b]?=Z ψ)(hy:ys[b]?=Z h)(q:∀u,ř u e y k (Vd d.heap.objs.size)->X9 u k ψ h->u.IsTupleIter r l1 (b+1)->u.IsTupleIter p P (b+1)->X9 u d.heap.objs.size ψ h->u.objs.size=d.heap.objs.size+1->(∀c o,c≠e->c≠k->c≠r->c≠p->d.heap.get? c=Z o->u.get? c=Z o)->Q (Z (.ref d.heap.objs.size)) {d with heap:=u}):q_ (w_ n j) s (Wf (.ref e)) Q θ d:=by
 have ty:d.TypeIs (.ref e) "zip":=⟨_,B,rfl⟩;unfold Wf;refine ck (VH (Uc (name:=b_ "__next__") ty YJ (Ub YJ ty F.entry_zip_next ?_ (F.args_zip_next_1 _))));show q_ _ _ (ſ (.ref e) 2>>=_) _ _ d;refine ck (U_ B rfl (x:=.bool D) rfl ?_);show q_ _ _ (ſ (.ref e) 3>>=_) _ _ d;refine ck (U_ B rfl (x:=.ref y) rfl ?_);refine ck (Vk g' rfl ?_);show q_ _ _ (Vm (.ref e)>>=_) _ _ d;refine ck ?_;unfold Vm;refine ck (U_ B rfl (x:=.none) rfl (h_ ?_));simp only[if_true];refine ck (Wx ?_);refine ck (U_ B rfl (x:=.ref k) rfl ?_);refine ck (UJ B (by simp) λhA zA v=>?_);have d':ř hA e y k .ellipsis:=zA;refine ck ?_;simp only[ZP,aai,YL,Yj];refine ck (ck (aa_ ?_));show q_ _ _ (UU (.ref r)>>=_) _ _ _;refine ck (oy (j1.extBut v.extBut f.i1z) (m1.extBut v.extBut f.l1z) hx λhB jB A=>h_ ?_);have tB:X9 hB k a i:=A.extBut _ _ f.TOi1 (v.extBut _ _ f.TOz f');refine ck (Vk tB rfl ?_);refine ck (aau tB λhC tC z=>?_);have e':X9 hC k ψ i:=tC;refine ck (ab4 (h_ ?_));refine ck (ck (aa_ ?_));show q_ _ _ (UU (.ref p)>>=_) _ _ _;refine ck (oy (((j2.extBut v.extBut f.i2z).extBut A.extBut f.i12.symm).extBut z.extBut f.TOi2.symm) (((m2.extBut v.extBut f.l2z).extBut A.extBut f.l2i1).extBut z.extBut f.l2TO) hy λhD jD H=>h_ ?_);have tD:X9 hD k ψ i:=H.extBut _ _ f.TOi2 e';refine ck (Vk tD rfl ?_);refine ck (aau tD λm tF E=>?_);have b':X9 m k ψ h:=tF;refine ck (ab4 (h_ (h_ ?_)));refine ck (Vk b' rfl ?_);refine ck (aaw ?_);have n5:m.objs.size=d.heap.objs.size:=by rw[E.1,H.1,z.1,A.1,v.1]
 have z5:ř m e y k .ellipsis:=E.extBut _ _ f.TOz.symm (H.extBut _ _ f.i2z.symm (z.extBut _ _ f.TOz.symm (A.extBut _ _ f.i1z.symm d')));have k5:∀c o,c≠e->c≠k->c≠r->c≠p->d.heap.get? c=Z o->m.get? c=Z o:=λc o w c2 c3 c4 g=>E.extBut _ _ c2 (H.extBut _ _ c4 (z.extBut _ _ c2 (A.extBut _ _ c3 (v.extBut _ _ w g))));have p1:m.IsTupleIter r l1 (b+1):=((jB.extBut z.extBut f.TOi1.symm).extBut H.extBut f.i12).extBut E.extBut f.TOi1.symm;have p2:m.IsTupleIter p P (b+1):=jD.extBut E.extBut f.TOi2.symm;have nz:e<m.objs.size:=s_ z5;show q_ _ _ (Xu (.ref e) (.ref m.objs.size)>>=_) _ _ _;refine ck ?_;unfold Xu;have z6:ř (m.push {cls:=.type "tuple",data:=.seq #[ψ,h]}) e y k .ellipsis:=i_ _ z5;refine ck (UJ z6 (by simp) λhG zG sG=>?_);have c':ř hG e y k (Vd m.objs.size):=zG;refine UJ c' (by simp) λhH zH sH=>?_;have a':ř hH e y k (Vd m.objs.size):=zH;have up:∀c o,c≠e->m.get? c=Z o->hH.get? c=Z o:=λc o w g=>sH.extBut _ _ w (sG.extBut _ _ w (i_ _ g));have pr:X9 hH m.objs.size ψ h:=sH.extBut _ _ (Wr nz) (sG.extBut _ _ (Wr nz) (m_ _ rfl));have n8:hH.objs.size=m.objs.size+1:=by rw[sH.1,sG.1,L_]
 rw[n5]at a' pr n8;refine h_ ⟨_,rfl,h_ ?_⟩;show Q (Z (.ref m.objs.size)) _;rw[n5];exact q hH a' (up _ _ f.TOz b') (p1.at λo g=>up _ o f.i1z g) (p2.at λo g=>up _ o f.i2z g) pr n8 λc o w c2 c3 c4 g=>up c o w (k5 c o w c2 c3 c4 g)
def CI{i m u r l2:O}{h:R}{Q:Option R->ge->Prop}(hh:s.handled=U)(a:acv e y i m u r l2)(k:ř d.heap e y i .none)(z:X9 d.heap y (.ref m) (.ref u))(a':X9 d.heap i ψ h)(j1:d.heap.IsTupleIter m r b)(m1:d.heap.IsTuple r Β)(hx:Β[b]?=U)(q:∀P,(∀c o,c≠e->c≠i->c≠m->c≠u->d.heap.get? c=Z o->P.get? c=Z o)->Q U {d with heap:=P}):q_ (w_ n j) s (Wf (.ref e)) Q θ d:=by
 have B:d.TypeIs (.ref e) "zip":=⟨_,k,rfl⟩;unfold Wf;refine ck (VH (Uc (name:=b_ "__next__") B YJ (Ub YJ B F.entry_zip_next ?_ (F.args_zip_next_1 _))));show q_ _ _ (ſ (.ref e) 2>>=_) _ _ d;refine ck (U_ k rfl (x:=.bool D) rfl ?_);show q_ _ _ (ſ (.ref e) 3>>=_) _ _ d;refine ck (U_ k rfl (x:=.ref y) rfl ?_);refine ck (Vk z rfl ?_);show q_ _ _ (Vm (.ref e)>>=_) _ _ d;refine ck ?_;unfold Vm;refine ck (U_ k rfl (x:=.none) rfl (h_ ?_));simp only[if_true];refine ck (Wx ?_);refine ck (U_ k rfl (x:=.ref i) rfl ?_);refine ck (UJ k (by simp) λhA zA p=>?_);have w:ř hA e y i .ellipsis:=zA;refine ck ?_;simp only[ZP,aai,YL,Yj];refine ck (ck (aa_ ?_));show q_ _ _ (UU (.ref m)>>=_) _ _ _;refine ck (zg hh (j1.extBut p.extBut a.i1z) (m1.extBut p.extBut a.l1z) hx λhB f H he=>?_);obtain⟨oe,v,g2⟩:=he;have A:ř hB e y i .ellipsis:=H _ _ a.i1z.symm w;have ne:f≠e:=λg=>by subst g;rw[A]at v;cases v;simp at g2
 refine UJ A (by simp) λhC _ E=>?_;refine ck (Xi (T:="StopIteration") (b:=L) ⟨oe,E.extBut _ _ ne v,g2⟩ YY (h_ (q hC λc o c1 _ c3 _ g=>E.extBut _ _ c1 (H _ _ c3 (p.extBut _ _ c1 g)))))
abbrev zq1(h:O_)(a:O):O_:=h.push {cls:=.type "tuple_iterator",data:=.fields #[.ref a,.int 0 0]}
abbrev zq2(h:O_)(b a:O):O_:=(zq1 h b).push {cls:=.type "tuple_iterator",data:=.fields #[.ref a,.int 0 0]}
abbrev zq3(h:O_)(a b:O):O_:=(zq2 h a b).push {cls:=.type "tuple",data:=.seq #[.ref h.objs.size,.ref (zq1 h a).objs.size]}
abbrev zq4(h:O_)(b a:O):O_:=(zq3 h b a).push {cls:=.type "tuple",data:=.seq #[.none,.none]}
abbrev M'(h:O_)(b a:O):O_:=(zq4 h b a).push {cls:=.type "zip",data:=.fields #[.none,.bool D,.bool D,.ref (zq2 h b a).objs.size,.ref (zq3 h b a).objs.size]}
def CL(b c:O)(f e:Array R):Meets (U9.«zip.__new__» ⟨[.type "zip",.ref b,.ref c],[]⟩) (λ_ a s=>s.heap.IsTuple b f/\s.heap.IsTuple c e/\a (.ok (.ret (.ref (zq4 s.heap b c).objs.size))) {s with heap:=M' s.heap b c}):=.of_wp λk w A a s h=>by obtain⟨j,g,d,i,os⟩:=s;obtain⟨q,p,h⟩:=h;have m:=sub_zip;have o:Heap.IsTuple (Shared.heap ⟨j,g,d,i,os⟩) b f:=q;have n:Heap.IsTuple (Shared.heap ⟨j.push {cls:=.type "tuple_iterator",data:=.fields #[.ref b,.int 0 0]},g,d,i,os⟩) c e:=Heap.IsTuple.push p _;wp_walk using WS o,WS n;exact⟨_,rfl,h⟩
def zi{p:Array R}(A:d.heap.IsTuple e Β)(z:d.heap.IsTuple y p)(q:∀a,ř a (d.heap.objs.size+4) (d.heap.objs.size+2) (d.heap.objs.size+3) .none->X9 a (d.heap.objs.size+2) (.ref d.heap.objs.size) (.ref (d.heap.objs.size+1))->X9 a (d.heap.objs.size+3) .none .none->a.IsTupleIter d.heap.objs.size e 0->a.IsTupleIter (d.heap.objs.size+1) y 0->a.objs.size=d.heap.objs.size+5->(∀c o,d.heap.get? c=Z o->a.get? c=Z o)->Ω (.ref (d.heap.objs.size+4)) {d with heap:=a}):q_ (w_ n j) s (call (.type "zip") [.ref e,.ref y]) Ω θ d:=by
 refine callType_new F.called_zip (by decide) (F.typeCall_zip_2 _ _) (F.newCall_zip_2 _ _) (λm=>F.args_object_init_3 m _ _) F.entry_zip_new (CL e y Β p) ⟨A,z,?_⟩;have i:(zq1 d.heap e).objs.size=d.heap.objs.size+1:=L_ ..;have h:(zq2 d.heap e y).objs.size=d.heap.objs.size+2:=by rw[L_,i]
 have f:(zq3 d.heap e y).objs.size=d.heap.objs.size+3:=by rw[L_,h]
 have b:(zq4 d.heap e y).objs.size=d.heap.objs.size+4:=by rw[L_,f]
 have w:(M' d.heap e y).objs.size=d.heap.objs.size+5:=by rw[L_,b]
 have P:=@i_;have k:(M' d.heap e y).get? (zq4 d.heap e y).objs.size=Z _:=m_ _ rfl;have r:(M' d.heap e y).get? (zq3 d.heap e y).objs.size=Z _:=i_ _ (m_ _ rfl);have u:(M' d.heap e y).get? (zq2 d.heap e y).objs.size=Z _:=i_ _ (i_ _ (m_ _ rfl));have v:(M' d.heap e y).get? (zq1 d.heap e).objs.size=Z _:=i_ _ (i_ _ (i_ _ (m_ _ rfl)));have B:(M' d.heap e y).get? d.heap.objs.size=Z _:=i_ _ (i_ _ (i_ _ (i_ _ (m_ _ rfl))));show _/\_;rw[h,f,b]at k;rw[i,h]at u;rw[f]at r;rw[i]at v;rw[b];exact⟨⟨_,k,rfl⟩,q _ k u r ⟨_,B,rfl,rfl⟩ ⟨_,v,rfl,rfl⟩ w λc o g=>i_ _ (i_ _ (i_ _ (i_ _ (i_ _ g))))⟩
def Itz(a b:O):It:=⟨λi H=>∃c d x y,H a=Z (.tup c)/\H b=Z (.tup d)/\c[i]?=Z x/\d[i]?=Z y,λi H v e=>∃p x y,v=.ref p/\H p=U/\e=Û H p (.tup [x,y])/\(∀c,H a=Z (.tup c)->c[i]?=Z x)/\(∀d,H b=Z (.tup d)->d[i]?=Z y),λi H=>∃c d,H a=Z (.tup c)/\H b=Z (.tup d)/\c.length<=i⟩
structure ZSt(z TI TO i1 i2 a b:O)(i:Nat)(h:O_):Prop where
 z:ř h z TI TO .none
 ti:X9 h TI (.ref i1) (.ref i2)to:∃p q,X9 h TO p q
 j1:h.IsTupleIter i1 a i
 j2:h.IsTupleIter i2 b i
structure ZNe(z TI TO i1 i2:O):Prop where
 n1:TI≠z
 n2:TO≠z
 n3:i1≠z
 n4:i2≠z
 n5:TI≠TO
 n6:TI≠i1
 n7:TI≠i2
 n8:TO≠i1
 n9:TO≠i2
 n10:i1≠i2
def Ql{d b a c:O}(h:c∈[e,y,d,b,a]):c=e\/c=y\/c=d\/c=b\/c=a:=by simpa using h
def CM{P:n_}{w:y_}{K:d_}{es:List u_}{k:Nat}{r':Pos}(a b z TI TO B A:O)(N:ZNe z TI TO B A):xR P w K (.Tuple es k r') (Itz a b) [z,TI,TO,B,A] z (λi h=>ZSt z TI TO B A a b i h)where
 mem:=by simp
 obj:=λi h st c hc=>by
  obtain⟨p,q,g3⟩:=st.to;rcases Ql hc with rfl|rfl|rfl|rfl|rfl;·exact⟨_,st.z,λv g=>by cases g⟩
  ·exact⟨_,st.ti,λv g=>by cases g⟩
  ·exact⟨_,g3,λv g=>by cases g⟩
  ·obtain⟨o,e,_,d⟩:=st.j1;exact⟨o,e,λv g=>by rw[d]at g;cases g⟩
  ·obtain⟨o,e,_,d⟩:=st.j2;exact⟨o,e,λv g=>by rw[d]at g;cases g⟩
 keep:=λi h h' st kk=>by obtain⟨p,q,g3⟩:=st.to;exact⟨kk z (by simp) _ st.z,kk TI (by simp) _ st.ti,⟨p,q,kk TO (by simp) _ g3⟩,st.j1.at λo e=>kk B (by simp) o e,st.j2.at λo e=>kk A (by simp) o e⟩
 item:=by
  intro X hP hw hK hc i f' s σ H E f hf st hg;subst hP hw hK;obtain⟨xs,ys,x,y,ha,hb,hx,hy⟩:=hg;obtain⟨i',rv,p,_⟩:=f.tuple (ð.of ha);obtain⟨s',sv,p',_⟩:=f.tuple (ð.of hb);obtain⟨u,hu,ru⟩:=rv.get hx;obtain⟨v,hv,q'⟩:=sv.get hy;obtain⟨q1,q2,g'⟩:=st.to;have F:∀c∈[z,TI,TO,B,A],tq X f' H c:=hf;have fr:∀c∈[z,TI,TO,B,A],H c=U:=λc m=>(hf c m).1;have an:∀c∈[z,TI,TO,B,A],a≠c:=λc m g=>by rw[g,fr c m]at ha;cases ha
  have bn:∀c∈[z,TI,TO,B,A],b≠c:=λc m g=>by rw[g,fr c m]at hb;cases hb
  have j:acv z TI TO B A a b:=⟨N.n1,N.n2,N.n3,N.n4,N.n5,N.n6,N.n7,N.n8,N.n9,N.n10,an z (by simp),an TO (by simp),an B (by simp),an A (by simp),bn z (by simp),bn TO (by simp),bn B (by simp),bn A (by simp)⟩;refine zh j st.z st.ti g' st.j1 st.j2 (show s.heap.IsTuple a i'.toArray from p) (show s.heap.IsTuple b s'.toArray from p') (ψ:=u) (h:=v) (by simpa using hu) (by simpa using hv) λh' a1 a2 a3 a4 a5 a6 kk=>?_;refine⟨_,rfl,wpAny_letOwnedTupleGo_zip a1 λh2 z2 d'=>?_⟩;have hp:H s.heap.objs.size=U:=f.hok.fresh (o_ _);have l':z<s.heap.objs.size:=s_ st.z;have k2:∀c o,c∉[z,TO,B,A]->s.heap.get? c=Z o->h2.get? c=Z o:=λc o b' q=>d'.extBut c o (λg=>b' (by simp[g])) (kk c o (λg=>b' (by simp[g])) (λg=>b' (by simp[g])) (λg=>b' (by simp[g])) (λg=>b' (by simp[g])) q);have o':h2.get? s.heap.objs.size=Z {cls:=.type "tuple",data:=.seq #[u,v]}:=d'.extBut _ _ (Wr l') a5;have sub:∀c,c∈[z,TO,B,A]->c∈[z,TI,TO,B,A]:=λc m=>by
   have m':c=z\/c=TO\/c=B\/c=A:=by simpa using m
   rcases m' with rfl|rfl|rfl|rfl<;>simp
  have I1:Ê X f' σ (Û H s.heap.objs.size (.tup [x,y])) {s with heap:=h2}:=by
   have nt:∀c o,H c=Z o->c∉[z,TO,B,A]:=λc o q m=>by rw[fr c (sub c m)]at q;cases q
   refine f.step (g':=s.gens) (d':=s.drawn) (t':=s.toks) (ch:=[z,TO,B,A]) (λc m=>?_) (λc o _ _ a' q _=>k2 c o a' q) (λc o _ _ a' q _=>⟨o.slots,k2 c o a' q⟩) (λc o a' q n=>?_) (λc o a' q=>⟨o,k2 c o a' q⟩) (λc zs q=>by rw[aB (aE q hp)];exact q) (λc o zs q=>by rw[aB (aE q hp)];exact q) (λc ps q=>⟨#[],by rw[aB (aE q hp),q];simp⟩) (λm hm=>?_) (λc o2 q=>?_) f.bare;·obtain⟨f0,f1,I,f3,f4,f5⟩:=hf c (sub c m);exact⟨f3,f1,f4,f5⟩
   ·rw[aB (A_ (s_ q))];exact n
   ·obtain⟨o,k',ep,ho,r⟩:=hm;exact⟨o,k',ep,k2 _ o (λm=>(hf _ (sub _ m)).2.1 rfl) ho,r⟩
   · by_cases n':c=s.heap.objs.size;·subst n';rw[au]at q;cases q;exact⟨by show 2<=sizeLine;decide,[u,v],.cons ru (.cons q' .nil),⟨_,o',rfl,_,rfl⟩⟩
     · rw[aB n']at q;refine(f.hok c o2 q).stay (λe v' c' qq=>k2 e v' ?_ qq) (λe qq=>by rw[aB (aE qq hp)];exact qq) λe zs qq=>by rw[aB (aE qq hp)];exact qq
       rcases c' with rfl|c';·exact nt _ _ q
       ·exact nt _ _ c'
  refine⟨.ref s.heap.objs.size,_,I1,rfl,⟨_,x,y,rfl,hp,rfl,λzs e'=>?_,λzs e'=>?_⟩,⟨z2,?_,⟨_,_,d'.extBut _ _ N.n2 a2⟩,a3.at λo q=>d'.extBut _ _ N.n3 q,a4.at λo q=>d'.extBut _ _ N.n4 q⟩,λc m=>?_⟩;·rw[ha]at e';cases e';exact hx
  ·rw[hb]at e';cases e';exact hy
  ·exact d'.extBut _ _ N.n1 (kk _ _ N.n1 N.n5 N.n6 N.n7 st.ti)
  · have lt:c<s.heap.objs.size:=by
     rcases Ql m with rfl|rfl|rfl|rfl|rfl;·exact l'
     ·exact s_ st.ti
     ·exact s_ g'
     ·obtain⟨_,e,_⟩:=st.j1;exact s_ e
     ·obtain⟨_,e,_⟩:=st.j2;exact s_ e
    rw[aB (A_ lt)];exact fr c m
 done:=by
  intro X hP hw hK hc i f' s σ H E f hf st hg;subst hP hw hK;obtain⟨xs,ys,ha,hb,hl⟩:=hg;obtain⟨i',rv,p,_⟩:=f.tuple (ð.of ha);obtain⟨q1,q2,g'⟩:=st.to;have fr:∀c∈[z,TI,TO,B,A],H c=U:=λc m=>(hf c m).1;have an:∀c∈[z,TI,TO,B,A],a≠c:=λc m g=>by rw[g,fr c m]at ha;cases ha
  have bn:∀c∈[z,TI,TO,B,A],b≠c:=λc m g=>by rw[g,fr c m]at hb;cases hb
  have j:acv z TI TO B A a b:=⟨N.n1,N.n2,N.n3,N.n4,N.n5,N.n6,N.n7,N.n8,N.n9,N.n10,an z (by simp),an TO (by simp),an B (by simp),an A (by simp),bn z (by simp),bn TO (by simp),bn B (by simp),bn A (by simp)⟩;have t':=rv.length;refine CI (f.ok.hd hc) j st.z st.ti g' st.j1 (show s.heap.IsTuple a i'.toArray from p) (by simp;omega) λh' kk=>⟨rfl,?_⟩;have k2:∀c o,c∉[z,TO,B,A]->s.heap.get? c=Z o->h'.get? c=Z o:=λc o b' q=>kk c o (λg=>b' (by simp[g])) (λg=>b' (by simp[g])) (λg=>b' (by simp[g])) (λg=>b' (by simp[g])) q;have sub:∀c,c∈[z,TO,B,A]->c∈[z,TI,TO,B,A]:=λc m=>by
   have m':c=z\/c=TO\/c=B\/c=A:=by simpa using m
   rcases m' with rfl|rfl|rfl|rfl<;>simp
  have nt:∀c o,H c=Z o->c∉[z,TO,B,A]:=λc o q m=>by rw[fr c (sub c m)]at q;cases q
  refine f.step (g':=s.gens) (d':=s.drawn) (t':=s.toks) (ch:=[z,TO,B,A]) (λc m=>?_) (λc o _ _ a' q _=>k2 c o a' q) (λc o _ _ a' q _=>⟨o.slots,k2 c o a' q⟩) (λc o a' q n=>n) (λc o a' q=>⟨o,k2 c o a' q⟩) (λc zs q=>q) (λc o zs q=>q) (λc ps q=>⟨#[],by rw[q];simp⟩) (λm hm=>?_) (λc o2 q=>?_) f.bare;·obtain⟨f0,f1,I,f3,f4,f5⟩:=hf c (sub c m);exact⟨f3,f1,f4,f5⟩
  ·obtain⟨o,k',ep,ho,r⟩:=hm;exact⟨o,k',ep,k2 _ o (λm=>(hf _ (sub _ m)).2.1 rfl) ho,r⟩
  · refine(f.hok c o2 q).stay (λe v' c' qq=>k2 e v' ?_ qq) (λe qq=>qq) λe zs qq=>qq;rcases c' with rfl|c';·exact nt _ _ q
    ·exact nt _ _ c'
 self:=λ_ _ _ _ _ st h=>wpAny_pyIter_zip st.z h
def JO:List N->List N->List N|x::b,y::a=>.tup [x,y]::JO b a|_,_=>[]
def jJ:∀(a b:List N),a.length=b.length->(JO a b).length=a.length|[],[],_=>rfl|x::a,y::b,h=>by show(JO a b).length+1=a.length+1;rw[jJ a b (by simpa using h)]|[],_::_,h=>by simp at h|_::_,[],h=>by simp at h
def vj:∀(c b:List N)(i:Nat)(x y:N),c[i]?=Z x->b[i]?=Z y->(JO c b)[i]?=Z (.tup [x,y])|x::c,y::b,0,e,d,h,a=>by simp at h a;subst h a;rfl|x::c,y::b,i+1,e,d,h,a=>vj c b i e d (by simpa using h) (by simpa using a)|[],_,_,_,_,h,_=>by simp at h|_::_,[],_,_,_,_,a=>by simp at a
def L1{h:List V}{j:List N}(q:f e=Z (.tup ν))(o:f y=Z (.tup h))(c:S v f r ν)(A:S v f j h)(n:r.length=j.length):Ų v (Itz e y) (JO r j) f where
 go:=λi B a k=>by
  rw[jJ r j n]at k;have u:i<ν.length:=by rw[c.length];exact k
  have s:i<h.length:=by rw[A.length,<-n];exact k
  exact⟨ν,h,ν[i],h[i],a _ _ q,a _ _ o,by simp[u],by simp[s]⟩
 stop:=λB a=>⟨ν,h,a _ _ q,a _ _ o,by rw[c.length,jJ r j n];exact o_ _⟩;yld:=λi B g H2 a k b=>by obtain⟨p,x,b,rfl,m,rfl,H,E⟩:=b;obtain⟨d,u,s⟩:=S.get (S.mono a _ _ c) (H ν (a _ _ q));obtain⟨P,z,w⟩:=S.get (S.mono a _ _ A) (E h (a _ _ o));exact⟨aC m _,_,vj r j i d P u z,⟨p,_,rfl,au,⟨x,[b],rfl,Ð.mono (aC m _) _ _ s,b,[],rfl,Ð.mono (aC m _) _ _ w,rfl⟩⟩⟩
def JP:List N->Option (Rs (List N))|[.tup b,.tup a]=>if b.length=a.length then Z (.ok (JO b a))else U|_=>U
def Hq(hg:Gl a "zip")(hm:a.mg "zip"=U)(ha:FA a [g,w] ξ)(hs:k_ [g,w] a.env=[(D,eval g a.env),(D,eval w a.env)]:=by lk)(B:k_ [w] a.env=[(D,eval w a.env)]:=by lk):Ō a (.Tuple A b k) (.Call (.Name "zip" z) [g,w] [] Λ) (λr=>Ö (ξ r) JP):=by
 constructor;intro f' s σ H R I h;obtain⟨r,E,o⟩:=h;have key:ç a H (ξ r) λvs H'=>∃y,S a.K H' y vs/\ĥ a H' (JP y) R:=by match hf:ξ r,o with|some (.exc c),o=>exact o|some (.ok y),o=>exactλvs H' e rs=>⟨y,rs,ĥ.mono e o⟩
 refine Call_ (gF I hg hm (show Vn "zip"=Z (.type "zip")by decide+kernel) (UM (á (ha.h Λ f' s σ H _ I ⟨r,E,key⟩) λus i⟨vs,H1,j,r1,y,rs,p⟩=>?_) (by rw[hs,B]) (by rw[B];rfl)));unfold JP at p;split at p
 · rename_i xs ys;split at p
   · rename_i hl;obtain⟨v,v',rfl,rv,a'⟩:=Cc rs;obtain⟨f,ws,rfl,h1,h2⟩:=rv.tupE;obtain⟨d,k',rfl,P,i'⟩:=a'.tupE;obtain⟨u,u',rfl,ru,b'⟩:=Ë.two r1;cases ru;cases b';obtain⟨e',rt,pl,hz⟩:=j.tuple (ð.of h1);obtain⟨d',l',c',m'⟩:=j.tuple (ð.of P);refine zi (show i.heap.IsTuple f e'.toArray from pl) (show i.heap.IsTuple d d'.toArray from c') λh' g1 g2 g3 g4 g5 g6 kk=>?_;refine wpAny_pyIter_zip g1 ?_;have I2:Ê a f' σ H1 {i with heap:=h'}:=j.kept (t':=i.toks) kk;have q:∀m n:Nat,m≠n->i.heap.objs.size+m≠i.heap.objs.size+n:=λm n g' e=>g' (aa5 e);have g0:∀m:Nat,0≠m->i.heap.objs.size≠i.heap.objs.size+m:=λm hm e=>hm (aa5 (n:=i.heap.objs.size) e);refine⟨i.heap.objs.size+4,[i.heap.objs.size+4,i.heap.objs.size+2,i.heap.objs.size+3,i.heap.objs.size,i.heap.objs.size+1],_,Itz f d,H1,rfl,I2,CM f d _ _ _ _ _ ⟨q 2 4 (by decide),q 3 4 (by decide),g0 4 (by decide),q 1 4 (by decide),q 2 3 (by decide),(g0 2 (by decide)).symm,q 2 1 (by decide),(g0 3 (by decide)).symm,q 3 1 (by decide),g0 1 (by decide)⟩,⟨g1,g2,⟨_,_,g3⟩,g4,g5⟩,λc hc=>?_,p _ H1 (.refl H1) (L1 h1 P h2 i' hl)⟩;rcases Ql hc with rfl|rfl|rfl|rfl|rfl;·exact j.fpOk (VF _ _) (j.hok.fresh (VF _ _))
     ·exact j.fpOk (VF _ _) (j.hok.fresh (VF _ _))
     ·exact j.fpOk (VF _ _) (j.hok.fresh (VF _ _))
     ·exact j.fpOk (o_ _) (j.hok.fresh (o_ _))
     ·exact j.fpOk (VF _ _) (j.hok.fresh (VF _ _))
   ·exact p.elim
 ·exact p.elim
def jv(b:N->Ev->Option Ev)(e:List Nat)(a:Õ):List N->Ev->Option Fl|[],c=>Z (.nx (fgt e c))|d::h,c=>match b d (fgt e c)with|none=>U|some f=>match a f with|some (.nx g)=>jv b e a h g|o=>o
def wS(b:N->Ev->Option Ev)(e:List Nat)(c:Þ)(a:Õ):Õ:=λd=>cH (c d) λf=>jv b e a f d
def tgG(X:C)(b:N->Ev->Option Ev):TG:=λv g H Q=>∃d f c,Ð X.K H d v/\Ø X.K H g f/\b d f=Z c/\∀a e,Í H e->Ø X.K e a c->Q a e
def FG.pg{b:N->Ev->Option Ev}(h:FG a g b):PG a g (tgG a b):=λm s j H v u Q I r⟨d,k,f,rd,E,e,q⟩=>á (h.h m s j H v u d k f I r rd E e) λ_ w⟨c,i,o,n,p⟩=>⟨c,i,o,q c i n p⟩
def Hr{b:N->Ev->Option Ev}(u:List Nat)(hp:W5 (w_ a.prog a.w) a.A a.env a.xe)(hc:a.calm=L)(hi:Ō a g w ξ)(hg:FG a g b)(hb:Ģ a Ψ Υ)(hs:∀x,TU w a.env x=pure x:=by intro _;lk):FS a (.For g w Ψ [] k) (wS b u ξ Υ):=by refine qT (qK hp hc hi.h hg.pg hb.h hs) λe σ H ρ E o=>⟨ρ,E,?_⟩;unfold wS at o;match hf:ξ ρ,o with
 |none,o=>exact o|some (.exc c),o=>exact o|some (.ok j),o=>
 intro J H1 e1 wk;have o1:ó a H1 (jv b u Υ j ρ) e:=ó.mono e1 o;refine⟨λn m v p=>m=j.length-n/\n<=j.length/\Í H1 p/\∃i,Ø a.K p v i/\ó a p (jv b u Υ (j.drop n) i) e,⟨j.length,by simp,TN _,.refl H1,ρ,E.mono e1,by simpa using o1⟩,?_⟩;rintro n m v p⟨rfl,hn,e2,i,E',s⟩;by_cases A:n<j.length;·refine .inr ⟨wk.go n p e2 A,λa' P=>Í H1 P/\∃f,Ø a.K P a' f/\ó a P (jv b u Υ (j.drop (n+1)) f) e,λa' P⟨e3,f,E2,h⟩=>⟨j.length-(n+1),by omega,rfl,A,e3,f,E2,h⟩,λx P y=>?_⟩;obtain⟨e4,d,hd,rd⟩:=wk.yld n p x P e2 A y;rw[iJ hd]at s;unfold jv at s;match B:b d (fgt u i)with
   |none=>rw[B]at s;exact s.elim|some z=>rw[B]at s;refine⟨d,fgt u i,z,rd,(Ø.fgt u E').mono e4,B,λd' H3 e5 E3=>?_⟩;show tS a Υ _ _ _;refine⟨z,E3,?_⟩;have h:=ó.mono (e4.trans e5) s;dsimp only at h;match q:Υ z with|none=>rw[q]at h;exact h|some (.exc c)=>rw[q]at h;exact h|some (.rt r)=>rw[q]at h;exact h|some (.nx f)=>rw[q]at h;exactλc' H4 e6 E4=>⟨((e2.trans e4).trans e5).trans e6,f,E4,ó.mono e6 h⟩
 · have b':n=j.length:=by omega
   subst b';rw[Xq]at s;exact .inl ⟨wk.stop p e2,s v p (.refl p) (Ø.fgt u E')⟩
def JQ:Ó|[.str x]=>Z (.ok (.str x))|a=>Qd a
def zj:õ a (.type "str") (λb H Q=>(∃i,b=[.int i]/\i.natAbs.log2<1920/\Q (.str (toString i)) H)\/∃x,b=[.str x]/\Q (.str x) H):=by
 intro f s d H b e Q I r h;rcases h with⟨i,rfl,c,q⟩|⟨x,rfl,q⟩;·obtain⟨u,rfl,t,rfl⟩:=fq r;exact PySem.P.str_of_int c ⟨.str _,H,I.tok _,⟨_,rfl⟩,q⟩
 ·obtain⟨u,rfl,t,rfl⟩:=fq r;exact PySem.P.str_of_str ⟨.str _,H,I,⟨_,rfl⟩,q⟩
def Hs(m:Gl a "str")(j:a.mg "str"=U)(p:FA a (g::A) ξ)(n:k_ (g::A) a.env=(D,eval g a.env)::k_ A a.env:=by lk)(d:(TF z (k_ A a.env)).any (·.1)=D:=by lk):FE a (.Call (.Name "str" k) (g::A) [] z) (Ý JQ ξ):=dv (mw zj m j (by decide+kernel) p.h (by decide) (by decide) n d) λq H Q f E o=>⟨f,E,ç.bind o λw s c u e b=>by
 unfold JQ at b;split at b;·rename_i x;obtain⟨v,rfl,r⟩:=dt e;cases(show v=.str x from r);exact .inr ⟨x,rfl,b _ c (.refl c) rfl⟩
 · unfold Qd at b;split at b
   · rename_i i _;split at b;·rename_i h;obtain⟨v,rfl,r⟩:=dt e;cases(show v=.int i from r);exact .inl ⟨i,rfl,h,b _ c (.refl c) rfl⟩
     ·exact b.elim
   ·exact b.elim⟩
def vm(c e:Ò):lP:=λa b=>yN (e a) λd=>yN (c a) λk=>match k with|.int k=>if 0<=k/\k<b.length then Z (.nx a (b.set k.toNat d))else U|_=>U
def S.set{K:d_}{H:Hp}{d:N}{v:V}(i:Ð K H d v):∀{e:List N}{b:List V}(j:Nat),S K H e b->S K H (e.set j d) (b.set j v)|[],b,j,r=>by cases(show b=[]from r);exact r|g::e,b,0,r=>by obtain⟨h,c,rfl,k,f⟩:∃v a,b=v::a/\Ð K H g v/\S K H e a:=r;exact⟨v,c,rfl,i,f⟩|g::e,b,j+1,r=>by obtain⟨h,c,rfl,k,f⟩:∃v a,b=v::a/\Ð K H g v/\S K H e a:=r;exact⟨h,c.set j v,rfl,k,S.set i j f⟩
def CN(u:a.ex=[]){x:Str}{i:Pos}(hx:PE a (.Name x i) (xM b))(hi:FE a w Ç)(he:FE a g B)(hs:aba [.Subscript (.Name x i) w z] g k.line a.env=pure D:=by lk)(hw:abb [.Subscript (.Name x i) w z] g a.env=pure U:=by lk)(h1:(T_ [.Subscript (.Name x i) w z] a.env).map (·.2)=[WK (.Subscript (.Name x i) w z) a.env]:=by lk)(ha:∀v,WK (.Subscript (.Name x i) w z) a.env v=(do let y<-Xk [v] (eval (.Name x i) a.env);let iv<-Xk [v,y] (eval w a.env);aaV z;Xk [v,y,iv] (setItem y iv v);release [v,y,iv] []):=by intro _;lk):Ţ a b (.Assign [.Subscript (.Name x i) w z] g k) (vm Ç B):=⟨λf' s σ Hf h I⟨H,e,p,n,ds,e1,c',q,E,r,o⟩=>by refine Eo (tX u he.h) (Kn hx (tX u hi.h) BY ha) hs hw h1 f' s σ Hf h I ⟨H,e,p,e1,c',n,E,?_⟩;unfold vm at o;match m:B n with
 |none=>rw[m]at o;exact o.elim|some (.exc _)=>rw[m]at o;exact o.elim|some (.ok d)=>rw[m]at o;match j:Ç n with
 |none=>dsimp only[yN]at o;rw[j]at o;exact o.elim|some (.exc _)=>dsimp only[yN]at o;rw[j]at o;exact o.elim|some (.ok c)=>
 dsimp only[yN]at o;rw[j]at o;dsimp only at o;intro v H' P rd b';refine⟨.ref e,q,H',e,p,rfl,b',n,E.mono P,?_⟩;show ê a H' (Ç n) _;rw[j];intro f H2 A rk a';cases c<;>try exact(show False from o).elim
 rename_i c;dsimp only at o;split at o
 · rename_i hk;cases(show f=.int c from rk);have hl:=r.length;have hj:Ž p.length c=Z c.toNat:=by unfold Ž;rw[if_pos hk.1,if_pos (by omega)]
   refine⟨e,p,c,c.toNat,rfl,rfl,au,hj,?_⟩;rw[xJ];exact o σ H2 (p.set c.toNat v) (P.trans A) a' q (E.mono (P.trans A)) (S.set (Ð.mono A _ _ rd) c.toNat (S.mono (P.trans A) _ _ r))
 ·exact o.elim⟩
def OX:Ó|[.str x]=>if x.length<=640 then(match acn x with|some n=>Z (.ok (.int n))|none=>U)else U|_=>U
def zk:õ a (.type "int") (λb H Q=>∃x i,b=[.str x]/\x.length<=640/\acn x=Z i/\Q (.int i) H):=by intro g s e H b f Q I r h;obtain⟨x,i,rfl,d,c,q⟩:=h;obtain⟨u,rfl,t,rfl⟩:=fq r;exact PySem.W.KIN.call_text c d ⟨.int _,H,I.tok _,⟨_,rfl⟩,q⟩
def CO(m:Gl a "int")(i:a.mg "int"=U)(q:FA a (g::A) ξ)(p:k_ (g::A) a.env=(D,eval g a.env)::k_ A a.env:=by lk)(c:(TF z (k_ A a.env)).any (·.1)=D:=by lk):FE a (.Call (.Name "int" k) (g::A) [] z) (Ý OX ξ):=dv (mw zk m i (by decide+kernel) q.h (by decide) (by decide) p c) λs H Q e E o=>⟨e,E,ç.bind o λy u d w f b=>by
 unfold OX at b;split at b
 · rename_i x;split at b
   · rename_i j;split at b;·rename_i n h;obtain⟨v,rfl,r⟩:=dt f;cases(show v=.str x from r);exact⟨x,n,rfl,j,h,b _ d (.refl d) rfl⟩
     ·exact b.elim
   ·exact b.elim
 ·exact b.elim⟩
end FD
namespace ST
open PySem.SetTable
def tm(m:Nat):SetTable:={mask:=m,place:=#[],dummies:=#[],finger:=0,led:=L,moves:=0,plain:=L}
def pos(m:Nat)(h:Int)(n:Nat):Nat:=(advN (tm m) n ((tm m).probeStart h)).j
def zl[DecidableEq P](a:List P)(k:P):List P:=if k∈a then a else k::a
def ddk[DecidableEq P](a:List P):List P:=a.foldl zl []
def CP[DecidableEq P](a:List P)(k:P):(zl a k).length<=a.length+1:=by unfold zl;split<;>simp
def ka{c:Type}[DecidableEq c]:∀(b a:List c),(b.foldl zl a).length<=a.length+b.length|[],a=>o_ _|k::b,a=>by have e:=ka b (zl a k);have d:=CP a k;rw[YM,TW];omega
def ddk_le[DecidableEq P](a:List P):(ddk a).length<=a.length:=by have:=ka a [];unfold ddk;simpa using this
end ST
namespace FD
open L2
def range_getD(a:List P)(d:P)(n:Nat)(h:n=a.length):(rl n).map (λi=>a.getD i d)=a:=by
 subst h;apply Yl;intro i;by_cases b:i<a.length;·simp[b]
 ·simp[b]
def tC(X:C)(i:Nat)(j:Ò):TS:=λa e H=>∃f,Ø X.K H e f/\match j f with|none=>False|some (.exc c)=>XW X c H|some (.ok d)=>∃g,d=.lst g/\∀b p h,Í H b->b p=U->S X.K b g h->a.nx (e.set i (Z (.ref p))) (Û b p (.lst h))
def zm{m:List (Str×Nat)}{a:N->Ev->Option Ev}{f:Option å}(i:Ev)(d:N)(h:cu b m ξ a f B i=Z (.ok d)):∃e,d=.lst e:=by
 rcases PU h with⟨c,k,g⟩|⟨p,e,k,g,o,n,j⟩;·cases g
 ·cases j;exact⟨e,rfl⟩
def tt{a:Type}(b:a->a->Bool)(x:a):List a->List a|[]=>[x]|y::l=>if b x y then x::y::l else y::tt b x l
def isortB{a:Type}(b:a->a->Bool):List a->List a|[]=>[]|x::l=>tt b x (isortB b l)
def iM{a:Type}(b:a->a->Bool)(x:a):∀l:List a,(tt b x l).Perm (x::l)
 |[]=>.refl _|y::l=>by
  unfold tt;split;·exact .refl _
  ·exact((iM b x l).cons y).trans (aaS ..)
def isortB_perm{a:Type}(b:a->a->Bool):∀l:List a,(isortB b l).Perm l|[]=>.refl _|x::l=>(iM b x _).trans ((isortB_perm b l).cons x)
structure L3{α:Type}(le:α->α->Bool):Prop where
 t:∀a b,le a b=D->le b a=L
 tr:∀a b c,le a b=L->le b c=L->le a c=L
 an:∀a b,le a b=L->le b a=L->a=b
def mH{e:Type}{d:e->e->Bool}(o:L3 d)(x:e):∀l:List e,l.Pairwise (λa b=>d a b=L)->(tt d x l).Pairwise (λa b=>d a b=L)
 |[],_=>by simp[tt]|y::l,h=>by
  unfold tt;rw[TC]at h;split
  · rename_i f;rw[TC,TC];refine⟨λz c=>?_,h⟩;rcases v_.mp c with rfl|c;·exact f
    ·exact o.tr _ _ _ f (h.1 z c)
  · rename_i f;rw[TC];refine⟨λz c=>?_,mH o x l h.2⟩;rcases v_.mp ((iM d x l).mem_iff.mp c)with rfl|c;·exact o.t _ _ (by simpa using f)
    ·exact h.1 z c
def isortB_sorted{c:Type}{d:c->c->Bool}(o:L3 d):∀l:List c,(isortB d l).Pairwise (λa b=>d a b=L)|[]=>Zm|x::l=>mH o x _ (isortB_sorted o l)
def sorted_uniq{d:Type}{f:d->d->Bool}(o:L3 f):∀{l m:List d},l.Perm m->l.Pairwise (λa b=>f a b=L)->m.Pairwise (λa b=>f a b=L)->l=m
 |[],m,c,_,_=>(List.Perm.nil_eq c)|x::l,[],c,_,_=>by simpa using c.length_eq|x::l,y::m,c,j,i=>by
  rw[TC]at j i;have e:x=y:=by
   have h:x∈y::m:=c.mem_iff.mp on;have g:y∈x::l:=c.mem_iff.mpr on;rcases v_.mp h with e|h;·exact e
   · rcases v_.mp g with e|g;·exact e.symm
     ·exact o.an _ _ (j.1 y g) (i.1 x h)
  subst e;rw[sorted_uniq o (c.cons_inv) j.2 i.2]
def ő(a b:Int):Bool:=uk (a<=b)
def leS(a b:Str):Bool:=!uk (b.cps.toList<a.cps.toList)
def RZ:L3 ő:=⟨λa b h=>by simp[ő]at*;omega,λa b c h d=>by simp[ő]at*;omega,λa b h d=>by simp[ő]at*;omega⟩
def ordS:L3 leS where
 t:=λa b h=>by simp only[leS,Bool.not_eq_false',decide_eq_true_eq]at h;simp only[leS,Yn,decide_eq_false_iff_not];exactλd=>aaQ _ (abf h d)
 tr:=λa b c h d=>by simp only[leS,Yn,decide_eq_false_iff_not,aaN]at*;exact List.le_trans h d
 an:=λa b h d=>by simp only[leS,Yn,decide_eq_false_iff_not,aaN]at*;have e:a.cps.toList=b.cps.toList:=ab1 h d;obtain⟨⟨a⟩⟩:=a;obtain⟨⟨b⟩⟩:=b;simp at e;rw[e]
def jA:List N->Option (List Int)|[]=>Z []|.int i::r=>(jA r).map (i::·)|_=>U
def L4:Ó
 |[.lst c]=>match jA c with|some b=>if b.length<64 then Z (.ok (.lst ((isortB ő b).map N.int)))else U|none=>match bD c with|some a=>if a.length<64 then Z (.ok (.lst ((isortB leS a).map N.str)))else U|none=>U
 |_=>U
def vn{H:Hp}{K:d_}:∀{a:List N}{d:List Int}{c:List V}{b:List R},jA a=Z d->S K H a c->Ë c b->aa0 b d
 |[],d,c,b,h,r,v=>by cases h;cases(show c=[]from r);cases v;exact .nil|.int i::a,d,c,b,h,r,v=>by obtain⟨y,e,rfl,k,j⟩:∃v e,c=v::e/\Ð K H (.int i) v/\S K H a e:=r;cases(show y=.int i from k);obtain⟨n,m,rfl⟩:=UX.mp (show(jA a).map (i::·)=Z d from h);cases v with|cons g f=>obtain⟨t,rfl⟩:=g;exact .cons i t (vn m j f)
 |.non::a,_,_,_,h,_,_=>by cases h|.bl _::a,_,_,_,h,_,_=>by cases h|.str _::a,_,_,_,h,_,_=>by cases h|.tup _::a,_,_,_,h,_,_=>by cases h|.lst _::a,_,_,_,h,_,_=>by cases h|.scr _::a,_,_,_,h,_,_=>by cases h|.exn _::a,_,_,_,h,_,_=>by cases h|.obj _ _::a,_,_,_,h,_,_=>by cases h
def lR{H:Hp}{K:d_}:∀{a:List N}{d:List Str}{c:List V}{b:List R},bD a=Z d->S K H a c->Ë c b->abL b d
 |[],d,c,b,h,r,v=>by cases h;cases(show c=[]from r);cases v;exact .nil|.str i::a,d,c,b,h,r,v=>by obtain⟨y,e,rfl,k,j⟩:∃v e,c=v::e/\Ð K H (.str i) v/\S K H a e:=r;cases(show y=.str i from k);obtain⟨n,m,rfl⟩:=UX.mp (show(bD a).map (i::·)=Z d from h);cases v with|cons g f=>obtain⟨t,rfl⟩:=g;exact .cons i t (lR m j f)
 |.non::a,_,_,_,h,_,_=>by cases h|.bl _::a,_,_,_,h,_,_=>by cases h|.int _::a,_,_,_,h,_,_=>by cases h|.tup _::a,_,_,_,h,_,_=>by cases h|.lst _::a,_,_,_,h,_,_=>by cases h|.scr _::a,_,_,_,h,_,_=>by cases h|.exn _::a,_,_,_,h,_,_=>by cases h|.obj _ _::a,_,_,_,h,_,_=>by cases h
def iI:∀{a:List R}{b:List Int},aa0 a b->Ë (b.map V.int) a|_,_,.nil=>.nil|_,_,.cons n t h=>.cons ⟨t,rfl⟩ (iI h)
def kP:∀{a:List R}{b:List Str},abL a b->Ë (b.map V.str) a|_,_,.nil=>.nil|_,_,.cons n t h=>.cons ⟨t,rfl⟩ (kP h)
def rE{K:d_}(H:Hp):∀a:List Int,S K H (a.map N.int) (a.map V.int)|[]=>rfl|n::a=>⟨_,_,rfl,rfl,rE H a⟩
def kQ{K:d_}(H:Hp):∀a:List Str,S K H (a.map N.str) (a.map V.str)|[]=>rfl|n::a=>⟨_,_,rfl,rfl,kQ H a⟩
def rF:∀(p:Str)(l:List Str),risingS p l=L->(p::l).Pairwise (λa b=>leS a b=L)
 |p,[],_=>by simp|p,x::r,h=>by
  have f:(!ltCps x.cps.toList p.cps.toList)=L/\risingS x r=L:=by simpa[risingS]using h
  have c:=rF x r f.2;have e:leS p x=L:=by unfold leS;rw[<-ltCps_eq];exact f.1
  rw[TC];refine⟨λz d=>?_,c⟩;rw[TC]at c;rcases v_.mp d with rfl|d;·exact e
  ·exact ordS.tr _ _ _ e (c.1 z d)
def sortedS_pw(l:List Str)(h:sortedS l=L):l.Pairwise (λa b=>leS a b=L):=by cases l with|nil=>exact .nil|cons x r=>exact rF x r h
def line64(h:b<64):b<=sizeLine:=by
 have:sizeLine=16777216:=by decide
 omega
def zn:õ a (.builtin "sorted") (λP H Q=>∃c o m,P=[.ref c]/\H c=Z (.lst o)/\S a.K H m o/\((∃d,jA m=Z d/\d.length<64/\∀l,H l=U->Q (.ref l) (Û H l (.lst ((isortB ő d).map V.int))))\/(∃d,bD m=Z d/\d.length<64/\∀l,H l=U->Q (.ref l) (Û H l (.lst ((isortB leS d).map V.str)))))):=by
 intro f' s σ H P us Q I r h;obtain⟨c,o,m,rfl,h1,h2,h3⟩:=h;obtain⟨u,rfl,ru⟩:=fq r;cases ru;obtain⟨z,j,n,rv,hl,e⟩:=I.lstM h1;rcases h3 with⟨d,p,g,q⟩|⟨d,p,g,q⟩;·have k:=vn p h2 rv;have hn:=k.length;refine sorted_ints ⟨_,e,rfl,n,rfl⟩ k (by omega) λf i E B A=>?_;have w:i=isortB ő d:=sorted_uniq RZ (B.trans (isortB_perm ő d).symm) (A.imp λh=>by simpa[ő]using h) (isortB_sorted RZ d);subst w;obtain⟨y,v⟩:=sortedAll_at s.heap j f;refine⟨.ref (s.heap.objs.size+1),_,I.laid (t':=s.toks) (o:=.lst ((isortB ő d).map V.int)) (λb ob q=>sortedAll_old q) (VR _) ?_,rfl,q _ (I.hok.fresh (VR _))⟩;exact⟨line64 (by rw[N_,(isortB_perm ő d).length_eq];exact g),f.toList,y,iI E,by simpa[Ul]using v⟩
 · have k:=lR p h2 rv;have hn:j.length=d.length:=by
    have:∀{vs:List R}{ss:List Str},abL vs ss->vs.length=ss.length:=λh=>by induction h with|nil=>rfl|cons _ _ _ ih=>simp[ih]
    exact this k
   refine sorted_strs ⟨_,e,rfl,n,rfl⟩ k (by omega) λf i E B A=>?_;have w:i=isortB leS d:=sorted_uniq ordS (B.trans (isortB_perm leS d).symm) (sortedS_pw _ A) (isortB_sorted ordS d);subst w;obtain⟨y,v⟩:=sortedAll_at s.heap j f;refine⟨.ref (s.heap.objs.size+1),_,I.laid (t':=s.toks) (o:=.lst ((isortB leS d).map V.str)) (λb ob q=>sortedAll_old q) (VR _) ?_,rfl,q _ (I.hok.fresh (VR _))⟩;exact⟨line64 (by rw[N_,(isortB_perm leS d).length_eq];exact g),f.toList,y,kP E,by simpa[Ul]using v⟩
def Ht:Ó|[.lst a]=>(match j6 a with|some bs=>Z (.ok (.bl (bs.any id)))|none=>U)|_=>U
def zo:õ a (.builtin "any") (λy H Q=>∃c m bs p,y=[.ref c]/\H c=Z (.lst m)/\S a.K H p m/\j6 p=Z bs/\a.calm=L/\Q (.bl (bs.any id)) H):=by
 intro f' s σ H y us Q I r h;obtain⟨c,m,bs,p,rfl,h1,h2,h3,hc,q⟩:=h;obtain⟨u,rfl,ru⟩:=fq r;cases ru;obtain⟨z,a',n,P,hl,e⟩:=I.lstM h1;have eb:=pC h2 P h3;subst eb;have A:s.heap.IsList c (bs.map H_).toArray:=⟨_,e,rfl,_,rfl⟩;have w:c<s.heap.objs.size:=s_ e;refine call_any_walk (W9 A ?_);refine⟨s.heap.objs.size,[s.heap.objs.size,c],[s.heap.objs.size],(bs.map H_).toArray.size,_,_,λi=>(bs[i]?).getD L,rfl,abi (A:=a.A.in1) (I.ok.hd hc) _ c (A_ w) (bs.map H_).toArray,⟨⟨_,m_ _ rfl,rfl,rfl⟩,A.push _⟩,λi v E Q' E' hP hQ=>?_,λh' B hk=>?_⟩
 · have d:(bs.map H_)[i]?=Z v:=by simpa using hP
   rw[J_]at d;cases g:bs[i]? with|none=>rw[g]at d;cases d|some b=>rw[g]at d;cases d;have j:Q' ((bs[i]?).getD L) E:=hQ;rw[g]at j;exact Vx j
 · have e2:((rl (bs.map H_).toArray.size).any λi=>(bs[i]?).getD L)=bs.any id:=by
    rw[I_,N_];rw[U4];simp only[WQ,Ux,id];constructor;·rintro⟨i,f,k⟩;simp only[t_ f,abY]at k;exact⟨_,Xo f,k⟩
    ·rintro⟨b,g,k⟩;obtain⟨i,f,rfl⟩:=aaP.mp g;exact⟨i,f,by simpa[f]using k⟩
   rw[e2];exact⟨.bl (bs.any id),H,I.kept (t':=B) λb o q=>hk b o (by simp;exact A_ (s_ q)) (i_ _ q),rfl,q⟩
def L5(q:a.calm=L)(n:Gl a "any")(m:a.mg "any"=U)(u:FA a (g::A) ξ)(p:k_ (g::A) a.env=(D,eval g a.env)::k_ A a.env:=by lk)(d:(TF z (k_ A a.env)).any (·.1)=D:=by lk):FE a (.Call (.Name "any" k) (g::A) [] z) (Ý Ht ξ):=dv (hJ zo n m (by decide+kernel) u.h (by decide) (by decide) p d) λB H Q f E o=>⟨f,E,ç.bind o λds P e e1 j c=>by
 unfold Ht at c;split at c
 · rename_i h;split at c;·rename_i bs s;obtain⟨v,rfl,r⟩:=dt j;obtain⟨b,i,rfl,y,w⟩:=r.lstE;exact⟨b,i,bs,h,rfl,y,w,s,q,c _ e (.refl e) rfl⟩
   ·exact c.elim
 ·exact c.elim⟩
def ET{a:Option å}{b:Ò}{c:Ev}:∀e:List N,yx a b c e=kL (gN 0) a b c e|[]=>rfl|d::e=>by unfold yx kL;rw[ET e];rfl
def Hu(e:List (Str×Nat))(a:Þ)(b:Option å)(d:Ò):cf e a b d=cu 1 e a (gN 0) b d:=by funext c;show Ö (a c) _=Ö (a c) _;congr 1;funext f;rw[ET];rfl
def Hv(h:PS a Η (tC a b B))(r:∀f d,B f=Z (.ok d)->∃i,d=.lst i):FS a Η (ce b B):=⟨λu s m H e I⟨f,E,o⟩=>by refine h u s m H e I ⟨f,E,?_⟩;unfold ce at o;match g:B f with|none=>rw[g]at o;exact o.elim|some (.exc c)=>rw[g]at o;exact o|some (.ok d)=>rw[g]at o;obtain⟨i,rfl⟩:=r f d g;exact⟨i,rfl,λv p n k j q=>o _ _ (k.trans (aC j _)) ((E.mono (k.trans (aC j _))).set ⟨p,n,rfl,au,S.mono (aC j _) _ _ q⟩)⟩⟩
end FD
namespace ST
open PySem.SetTable
def SetS(b:n_)(w:y_)(h:O_)(S:O)(c:List Str):Prop:=∃o a d t,h.get? S=Z o/\o.ExactSet/\o.data=.set a d t/\t.fits a.size=L/\c.length<=60/\t.led=(!þ w)/\(a.size≠0->t.plain=D)/\ElemsOf (Uy b w) a.toList/\(∀e∈a.toList,∃x t,e.2=.str x t)/\(a.toList.map λe=>ű e.2).Perm c
def L6(t:SetTable)(n:Nat):(t.orStandIn n).led=t.led/\((t.orStandIn n).plain=t.plain\/(t.orStandIn n).plain=D):=by
 unfold SetTable.orStandIn;split;·exact⟨rfl,.inl rfl⟩
 ·exact⟨rfl,.inr rfl⟩
def Hw(t:SetTable)(a:Array (Int×R))(h:Int)(x:R):(layNew t a h x).2.1.led=t.led:=by
 unfold layNew;split;·exact(L6 _ _).1
 ·rfl
def CQ{d:Array Int}{c:Array Nat}(e:laid b o Ρ H À d=Z (π,c)):π.led=H/\π.plain=À:=by unfold laid at e;cases f:acy b d with|none=>rw[f]at e;cases e|some a=>rw[f]at e;cases e;exact⟨rfl,rfl⟩
def zp(t:SetTable)(b:Array (Int×R))(n:Nat)(c:t.plain=D):(ZB t b n).2.1.led=t.led/\(ZB t b n).2.1.plain=D:=by
 unfold ZB;split
 · rename_i g a e;obtain⟨f,d⟩:=CQ e;dsimp only;split;·exact⟨f,d.trans c⟩
   ·exact⟨rfl,rfl⟩
 ·exact⟨rfl,rfl⟩
def zq{o:Obj}{w:Array (Int×R)}(q:ε.get? e=Z o)(g:o.ExactSet)(k:o.data=.set w b π){c:Array (Int×R)}{d:SetTable}{f:List Str}(v:d.fits c.size=L)(u:f.length<=60)(s:d.led=(!þ j))(p:d.plain=D)(h:ElemsOf (Uy n j) c.toList)(m:∀a∈c.toList,∃x π,a.2=.str x π)(r:(c.toList.map λa=>ű a.2).Perm f):SetS n j (ε.update e (WB c d)) e f:=by have i:=U8 (WB c d) q (by rw[ZC c d k];rfl);rw[ZC c d k]at i;exact⟨_,c,b+1,d,i,g,rfl,v,u,s,λ_=>p,h,m,r⟩
def rG{l a:List (Int×R)}(p:a.Perm l)(c:∀e∈l,∃x t,e.2=U5 x t){b:List Str}(d:(l.map λe=>ű e.2).Perm b):(∀e∈a,∃x t,e.2=U5 x t)/\(a.map λe=>ű e.2).Perm b:=⟨λe f=>c e (p.mem_iff.mp f),(p.map _).trans d⟩
def EU{f:Array (Int×R)}(g:∀e∈f.toList,∃x t,e.2=.str x t)(h:(f.toList.map λe=>ű e.2).Perm u):(∃e∈f.toList,(Uy n j).is c e.2=L)↔c∈u:=by
 rw[<-h.mem_iff,G_];constructor
 · rintro⟨e,b,a⟩;obtain⟨x,t,d⟩:=g e b;refine⟨e,b,?_⟩;rw[d]at a⊢;have:(x==c)=L:=by simpa[Uy,Wz]using a
   show x=c;simpa using this
 ·rintro⟨e,b,a⟩;obtain⟨x,t,d⟩:=g e b;refine⟨e,b,?_⟩;rw[d]at a⊢;have:x=c:=a;rw[this];simp[Uy,Wz]
def SY{y:Tok}{Q:Bool->ge->Prop}(hS:SetS n j d.heap e u)(hn:u.length<60)(h:∀b h',VA e d.heap h'->SetS n j h' e (zl u c)->Q b {d with heap:=h'}):q_ (w_ n j) s (ZV e (.str c y) ((Uy n j).hash c)) Q θ d:=by
 obtain⟨o,A,ep,t,ho,hex,hd,hf,p',hl,hp,d',hs,hm⟩:=id hS;have H:(Uy n j).is c (.str c y)=L:=strKind_is n j c y;have a':(U5 c y).scannable=L:=rfl;have m':A.size=u.length:=by have:=hm.length_eq;simpa using this
 have hb:A.size<scanBound:=by rw[m'];unfold scanBound;omega
 unfold ZV aay;refine Uu (ck (UB ho hd hf ?_));dsimp only;rw[byScan_of a' hb d',if_pos rfl];unfold setAddByScan;refine ck (ck (Wx (ck (wpAny_setScan_of H ho hd hf d' ?_))));have gv:∀(b:Bool){E:ge}{Q':Unit->ge->Prop},Q' () E->q_ (w_ n j) s (match b with|true=>rule "set.scan.the-table-gave-way"|false=>pure ()) Q' θ E:=λb _ _ z=>by
  cases b;·exact h_ z
  ·exact Wx z
 cases hr:List.findIdx? (λf=>(Uy n j).is c f.2) A.toList with|some g=>
  obtain⟨hj,pj,_⟩:=List.findIdx?_eq_some_iff_getElem.mp hr;have n':c∈u:=(EU (n:=n) (j:=j) hs hm).mp ⟨A.toList[g],Xo hj,pj⟩;dsimp only;refine h_ (h_ ?_);have f:d={d with heap:=d.heap}:=by cases d;rfl
  rw[f];refine h _ d.heap (Heap.SameBut.refl e d.heap) ?_;unfold zl;rw[if_pos n'];exact hS|none=>
  have l':c∉u:=λz=>by obtain⟨f,P,q⟩:=(EU (n:=n) (j:=j) hs hm).mpr z;have:=List.findIdx?_eq_none_iff.mp hr f P;rw[q]at this;cases this
  dsimp only;have m:=layNew_perm t A ((Uy n j).hash c) (.str c y);have p:=layNew_fits t A ((Uy n j).hash c) (.str c y);have v:=Hw t A ((Uy n j).hash c) (.str c y);generalize layNew t A ((Uy n j).hash c) (.str c y)=i at m p v⊢;obtain⟨k,t1,wd,q'⟩:=i;dsimp only at m p v⊢;rw[Yo]at m;have k':ElemsOf (Uy n j) k.toList:=(d'.push H a').perm m;have eK:zl u c=c::u:=by unfold zl;rw[if_neg l']
  obtain⟨s1,m1⟩:=rG m (b:=c::u) (λf P=>by
   rcases Ue.mp P with P|P;·exact hs f P
   ·rw[Ua.mp P];exact⟨c,y,rfl⟩) (by rw[U1];exact(hm.append_right _).trans (Xg c u));have z1:k.size=u.length+1:=by have:=m1.length_eq;simpa using this
  have i':k.size<scanBound:=by rw[z1];unfold scanBound;omega
  refine ck (gv _ ?_);have B:∀r:SetTable,r.fits k.size=L->r.led=(!þ j)->r.plain=D->q_ (w_ n j) s (do
   acj e k r if(!wd&&r.tooFull)=L then do(match(ZB r k (Vy k.size)).2.2 with|true=>rule "set.scan.the-table-gave-way"|false=>pure ())acj e (ZB r k (Vy k.size)).1 (ZB r k (Vy k.size)).2.1pure (Z L)else pure (Z L)) (λa s'=>q_ (w_ n j) s (match a with|some e'=>pure e'|none=>aay e (.str c y) ((Uy n j).hash c) 99999) Q θ s') θ d:=by
   intro r I l2 p2;refine ck (X2 ho hd ?_ (fits_of_scanBound i'));have S1:SetS n j (d.heap.update e (WB k r)) e (zl u c):=by rw[eK];exact zq ho hex hd I (by simp;omega) l2 p2 k' s1 m1
   have f':=Ve d.heap e (WB k r);split
   · have w:=relayAll_perm r k (Vy k.size);have c':=relayAll_fits r k (Vy k.size);obtain⟨q1,q2⟩:=zp r k (Vy k.size) p2;generalize ZB r k (Vy k.size)=L2 at w c' q1 q2⊢;obtain⟨o',t3,g2⟩:=L2;dsimp only at w c' q1 q2⊢;obtain⟨s2,m2⟩:=rG w s1 m1;have z2:o'.size=k.size:=by rw[<-UG,w.length_eq,UG]
     have b':=U8 (WB k r) ho (by rw[ZC k r hd];rfl);rw[ZC k r hd]at b';refine ck (gv _ (ck (X2 b' rfl ?_ (fits_of_scanBound (by rw[z2];exact i')))));refine h_ (h_ (h _ _ (f'.trans (Ve _ e _)) ?_));rw[eK];exact zq b' hex rfl c' (by simp;omega) (q1.trans l2) q2 (k'.perm w) s2 m2
   ·exact h_ (h_ (h _ _ f' S1))
  split;·rename_i g';refine ck ?_;rw[hashByValue_scannable 8 a'];refine h_ ?_;exact B _ (SetTable.fits_plain_off p) (v.trans hl) rfl
  ·rename_i g';refine ck (h_ ?_);exact B _ p (v.trans hl) (by simpa using g')
def SetS.moved{a:O_}(x:SetS n j ε e u)(c:∀o,ε.get? e=Z o->a.get? e=Z o):SetS n j a e u:=by obtain⟨o,d,f,t,b,r⟩:=x;exact⟨o,d,f,t,c _ b,r⟩
def L7{f:Zs->ge->Prop}{u:List O}{G:Array aaH->Array aaH->Prop}{P:Nat->R->Prop}{St:Nat->ge->Prop}(W:WalksS n j s.in1 e ω u G b P St)(S:O)(H:S∉ω)(g:Nat->Str)(b':∀i v,P i v->∃w,v=.str (g i) w)(hn:b<=59):∀(k i:Nat)(a:ge),b-i=k->i<=b->St i a->SetS n j a.heap S (ddk ((rl i).map g))->(∀m,Moved (S::u) G a m->SetS n j m.heap S (ddk ((rl b).map g))->f (.ok (.ret .none)) m)->WH (w_ n j) s (.builtin "set.update.loop" ⟨[.ref S,.ref e],[]⟩) f a:=by have E:S∉u:=λh=>H (W.sub _ h);have p:∀c∈u,c∈S::u:=λc z=>r_ _ z;intro k;induction k with
 |zero=>
 intro i a hk hi q hS hR;have g':i=b:=by omega
 subst g';refine UY WO ?_;rw[Vo Vq _];show q_ _ s.in1 (Wf (.ref e)>>=_) _ _ a;refine ck (W.done a _ _ q λm y=>?_);show q_ _ s.in1 (ret C_) _ _ m;exact h_ (hR m (y.mono p) (hS.moved λo ho=>y.heap S _ E ho))|succ k ih=>
 intro i a hk hi q hS hR;have B:i<b:=by omega
 refine UY WO ?_;rw[Vo Vq _];show q_ _ s.in1 (Wf (.ref e)>>=_) _ _ a;refine ck (W.item i a _ _ B q λv m hP c' y=>?_);obtain⟨w,rfl⟩:=b' i v hP;have i':SetS n j m.heap S (ddk ((rl i).map g)):=hS.moved λo ho=>y.heap S _ E ho;show q_ _ s.in1 (Xk [U5 (g i) w] (setAdd S (.str (g i) w))>>=_) _ _ m;refine ck (Uu ?_);unfold setAdd;refine Uu ?_;refine ck ((Uy n j).pyHash (strKind_is n j (g i) w) ?_);have r:ddk ((rl (i+1)).map g)=zl (ddk ((rl i).map g)) (g i):=by unfold ddk;rw[aaj,U1,List.foldl_append];rfl
 have k':(ddk ((rl i).map g)).length<=i:=by have:=ddk_le ((rl i).map g);simpa using this
 refine SY (d:={m with toks:=m.toks+1}) i' (by omega) λbb h' A a'=>?_;rw[<-r]at a';refine h_ ⟨Yy Vq _,ih (i+1) _ (by omega) B (W.frame _ m _ _ c' (by simp) λc z o d=>?_) a' λf' d' e'=>?_⟩;·rw[A.2 c (λh:c=S=>H (by rw[<-h];exact z))];exact d
 ·refine hR f' (Moved.trans W.gtrans ((y.mono p).then_heap (by simp) λc o z d=>?_) d') e';rw[A.2 c (λh:c=S=>z (by rw[h];exact on))];exact d
def vo(a:ε.get? e=Z (iE (!þ j))):SetS n j ε e []:=⟨_,#[],0,_,a,⟨rfl,rfl,rfl⟩,rfl,rfl,by simp,rfl,λz=>absurd rfl z,λa b=>by simp at b,λa b=>by simp at b,.refl _⟩
def Hx{g:Nat->Str}{a:Zs->ge->Prop}(hh:s.handled=U)(hl:d.heap.IsList e Β)(hk:∀(i:Nat)(v:R),Β[i]?=Z v->∃A,v=U5 (g i) A)(hn:Β.size<=59)(hR:∀(k:O_)(A:Nat),SetS n j k d.heap.objs.size (ddk ((rl Β.size).map g))->(∀b o,b<d.heap.objs.size->d.heap.get? b=Z o->k.get? b=Z o)->a (.ok (.ret .none)) {d with heap:=k,toks:=A}):WH (w_ n j) s (.call (.builtin "set.__init__") ⟨[.ref d.heap.objs.size,.ref e],[]⟩) a {d with heap:=d.heap.push (iE (!þ j))}:=by
 have hS:(d.heap.push (iE (!þ j))).get? d.heap.objs.size=Z (iE (!þ j)):=m_ _ rfl;have hT:WA {d with heap:=d.heap.push (iE (!þ j))} (.ref d.heap.objs.size) "set":=⟨_,hS,rfl⟩;refine YB Ui.init.plain ZL (ZE hT ?_);obtain⟨ol,m,u,nl,r⟩:=hl;obtain⟨f',h,e',f⟩:=ol;simp only at u r;subst u;subst r;have w:(d.heap.push (iE (!þ j))).get? e=Z {cls:=.type "list",dict:=h,data:=.seq Β nl,slots:=f}:=i_ _ m;have s1:=F.sub_list_set;have s2:=aaI;have s3:(l_ "list"==l_ "dict")=D:=by decide
 have q:(d.heap.push (iE (!þ j))).IsList e Β:=⟨_,w,rfl,nl,rfl⟩;unfold U9.«set.__init__»noKeywords WY;generalize c':ž=PI;wp_walk;subst c';refine W9 q (ck (X3 ?_));have p:e<d.heap.objs.size:=s_ m;have y:e≠(d.heap.push (iE (!þ j))).objs.size:=by rw[L_];exact A_ (TV p)
 have a':d.heap.objs.size∉[(d.heap.push (iE (!þ j))).objs.size,e]:=by rw[L_];simp only[v_,TD,or_false,not_or];exact⟨A_ (U6 _),Wr p⟩
 refine L7 ((abi (by simp[hh]) _ e y Β).toS) d.heap.objs.size a' g hk hn (Β.size-0) 0 _ (by omega) (TN _) ⟨⟨_,m_ _ rfl,rfl,rfl⟩,(q.push _)⟩ ?_ ?_;·exact vo (i_ _ hS)
 · intro s' z b';obtain⟨k,g',d',B,E⟩:=s';have eg:g'=d.gens:=z.gens;have ed:d'=d.drawn:=z.drawn;have eo:E=d.os:=z.os;subst eg;subst ed;subst eo;show q_ _ _ _ _ _ _;refine h_ ?_;show q_ _ _ (ret C_) _ _ _;refine h_ (hR k B b' λb o hb c=>?_);have P:b≠d.heap.objs.size:=A_ hb;have H:b≠(d.heap.push (iE (!þ j))).objs.size:=by rw[L_];exact A_ (TV hb)
   exact z.heap b o (by simp only[v_,TD,or_false,not_or];exact⟨P,H⟩) (i_ _ (i_ _ c))
def call_set_L2{q:Nat->Str}(hh:s.handled=U)(hl:d.heap.IsList e Β)(hk:∀(i:Nat)(v:R),Β[i]?=Z v->∃k,v=U5 (q i) k)(hn:Β.size<=59)(h:∀(g:O_)(k:Nat),SetS n j g d.heap.objs.size (ddk ((rl Β.size).map q))->(∀b o,b<d.heap.objs.size->d.heap.get? b=Z o->g.get? b=Z o)->Ω (.ref d.heap.objs.size) {d with heap:=g,toks:=k}):q_ (w_ n j) s (call (.type "set") [.ref e]) Ω θ d:=by
 obtain⟨c,tl,P⟩:=Ui.mro;have E:=Ui.made;have H:=Ui.sub;refine YX (YI ?_);show q_ _ _ (callAny (.type "set") _) _ _ _;refine h_ ⟨XG _ (by decide+kernel),UY Zg ?_⟩;rw[Y7 (Yr "set" [.ref e] []) rfl];have h1:=Ui.notType;have h2:=Ui.canCreate;have b':=ZH (.ref e);repeat(any_goals(first|assumption|wp_step))
 refine VI (ub (.ref e) (θ:=θ) (c:=λw p=>w=.ref d.heap.objs.size/\p={d with heap:=d.heap.push (iE (!þ j))}) ⟨rfl,rfl⟩) λr p z=>?_;cases r with|error a=>exact z|ok fl=>cases fl with
 |ret w=>
  obtain⟨rfl,rfl⟩:=z;have hT:WA {d with heap:=d.heap.push (iE (!þ j))} (.ref d.heap.objs.size) "set":=⟨_,m_ _ rfl,rfl⟩;have a':=Ui.init.lookup;have c':=Ui.init.bind (.ref d.heap.objs.size);repeat(any_goals(first|assumption|wp_step))
  refine VI (Hx (a:=wants (λr m=>r=.none/\∃g k,m={d with heap:=g,toks:=k}/\SetS n j g d.heap.objs.size (ddk ((rl Β.size).map q))/\(∀b o,b<d.heap.objs.size->d.heap.get? b=Z o->g.get? b=Z o)) θ) (by simp[hh]) hl hk hn λg k q1 q2=>⟨rfl,g,k,rfl,q1,q2⟩) λy m f=>?_;cases y with|error a=>exact f|ok u=>cases u with
  |ret r=>
  obtain⟨rfl,g,k,rfl,B,A⟩:=f;repeat(any_goals(first|assumption|wp_step))
  exact h _ _ B A|_=>exact f.elim
 |_=>exact z.elim
def Hy{g:Nat->Str}{a:Zs->ge->Prop}(hh:s.handled=U)(hl:d.heap.IsTuple e Β)(hk:∀(i:Nat)(v:R),Β[i]?=Z v->∃A,v=U5 (g i) A)(hn:Β.size<=59)(hR:∀(k:O_)(A:Nat),SetS n j k d.heap.objs.size (ddk ((rl Β.size).map g))->(∀b o,b<d.heap.objs.size->d.heap.get? b=Z o->k.get? b=Z o)->a (.ok (.ret .none)) {d with heap:=k,toks:=A}):WH (w_ n j) s (.call (.builtin "set.__init__") ⟨[.ref d.heap.objs.size,.ref e],[]⟩) a {d with heap:=d.heap.push (iE (!þ j))}:=by
 have hS:(d.heap.push (iE (!þ j))).get? d.heap.objs.size=Z (iE (!þ j)):=m_ _ rfl;have hT:WA {d with heap:=d.heap.push (iE (!þ j))} (.ref d.heap.objs.size) "set":=⟨_,hS,rfl⟩;refine YB Ui.init.plain ZL (ZE hT ?_);obtain⟨ol,m,u,nl,r⟩:=hl;obtain⟨f',h,e',f⟩:=ol;simp only at u r;subst u;subst r;have w:(d.heap.push (iE (!þ j))).get? e=Z {cls:=.type "tuple",dict:=h,data:=.seq Β nl,slots:=f}:=i_ _ m;have s1:=F.sub_tuple_set;have s2:=F.sub_tuple_frozenset;have s3:(l_ "tuple"==l_ "dict")=D:=by decide
 have q:(d.heap.push (iE (!þ j))).IsTuple e Β:=⟨_,w,rfl,nl,rfl⟩;unfold U9.«set.__init__»noKeywords WY;generalize c':ž=PI;wp_walk;subst c';refine WS q (ck (X3 ?_));have p:e<d.heap.objs.size:=s_ m;have y:e≠(d.heap.push (iE (!þ j))).objs.size:=by rw[L_];exact A_ (TV p)
 have a':d.heap.objs.size∉[(d.heap.push (iE (!þ j))).objs.size,e]:=by rw[L_];simp only[v_,TD,or_false,not_or];exact⟨A_ (U6 _),Wr p⟩
 refine L7 ((Walks.tuple (by simp[hh]) _ e y Β).toS) d.heap.objs.size a' g hk hn (Β.size-0) 0 _ (by omega) (TN _) ⟨⟨_,m_ _ rfl,rfl,rfl⟩,(q.push _)⟩ ?_ ?_;·exact vo (i_ _ hS)
 · intro s' z b';obtain⟨k,g',d',B,E⟩:=s';have eg:g'=d.gens:=z.gens;have ed:d'=d.drawn:=z.drawn;have eo:E=d.os:=z.os;subst eg;subst ed;subst eo;show q_ _ _ _ _ _ _;refine h_ ?_;show q_ _ _ (ret C_) _ _ _;refine h_ (hR k B b' λb o hb c=>?_);have P:b≠d.heap.objs.size:=A_ hb;have H:b≠(d.heap.push (iE (!þ j))).objs.size:=by rw[L_];exact A_ (TV hb)
   exact z.heap b o (by simp only[v_,TD,or_false,not_or];exact⟨P,H⟩) (i_ _ (i_ _ c))
def call_set_T2{q:Nat->Str}(hh:s.handled=U)(hl:d.heap.IsTuple e Β)(hk:∀(i:Nat)(v:R),Β[i]?=Z v->∃k,v=U5 (q i) k)(hn:Β.size<=59)(h:∀(g:O_)(k:Nat),SetS n j g d.heap.objs.size (ddk ((rl Β.size).map q))->(∀b o,b<d.heap.objs.size->d.heap.get? b=Z o->g.get? b=Z o)->Ω (.ref d.heap.objs.size) {d with heap:=g,toks:=k}):q_ (w_ n j) s (call (.type "set") [.ref e]) Ω θ d:=by
 obtain⟨c,tl,P⟩:=Ui.mro;have E:=Ui.made;have H:=Ui.sub;refine YX (YI ?_);show q_ _ _ (callAny (.type "set") _) _ _ _;refine h_ ⟨XG _ (by decide+kernel),UY Zg ?_⟩;rw[Y7 (Yr "set" [.ref e] []) rfl];have h1:=Ui.notType;have h2:=Ui.canCreate;have b':=ZH (.ref e);repeat(any_goals(first|assumption|wp_step))
 refine VI (ub (.ref e) (θ:=θ) (c:=λw p=>w=.ref d.heap.objs.size/\p={d with heap:=d.heap.push (iE (!þ j))}) ⟨rfl,rfl⟩) λr p z=>?_;cases r with|error a=>exact z|ok fl=>cases fl with
 |ret w=>
  obtain⟨rfl,rfl⟩:=z;have hT:WA {d with heap:=d.heap.push (iE (!þ j))} (.ref d.heap.objs.size) "set":=⟨_,m_ _ rfl,rfl⟩;have a':=Ui.init.lookup;have c':=Ui.init.bind (.ref d.heap.objs.size);repeat(any_goals(first|assumption|wp_step))
  refine VI (Hy (a:=wants (λr m=>r=.none/\∃g k,m={d with heap:=g,toks:=k}/\SetS n j g d.heap.objs.size (ddk ((rl Β.size).map q))/\(∀b o,b<d.heap.objs.size->d.heap.get? b=Z o->g.get? b=Z o)) θ) (by simp[hh]) hl hk hn λg k q1 q2=>⟨rfl,g,k,rfl,q1,q2⟩) λy m f=>?_;cases y with|error a=>exact f|ok u=>cases u with
  |ret r=>
  obtain⟨rfl,g,k,rfl,B,A⟩:=f;repeat(any_goals(first|assumption|wp_step))
  exact h _ _ B A|_=>exact f.elim
 |_=>exact z.elim
def Ā:Slot "set_iterator" "__next__" "set_iterator.__next__":=.of (n:="__next__") (owner:="set_iterator") (by rw[typeLookup_type,aao];lk) (by decide+kernel) (by decide+kernel) (by decide+kernel) (by first|exact .inl (by decide+kernel)|exact .inr (by decide+kernel)) (by rw[aaB];lk)
def vp:entryFor table "set_iterator.__next__"=Z U9.«set_iterator.__next__»:=entryFor_of_tree (by lk)
def vq(a:R):argsOk "set_iterator.__next__" ⟨[a],[]⟩:=by unfold argsOk;lk
def Qm:entryFor table "set.__iter__"=Z U9.«frozenset.__iter__»:=entryFor_alias (id':="frozenset.__iter__") (by lk) rfl (by decide+kernel) (by lk)
def kT{a:Type}:∀(l:List a)(i:Nat)(h:i<l.length),(l[i]::l.eraseIdx i).Perm l|x::l,0,_=>.refl _|x::l,i+1,h=>by have b:=kT l i (by simpa using h);exact(aaS ..).trans (b.cons x)
def rH{d:Type}(a:Nat->Nat):∀(n k:Nat)(left:List d)(b:Array d),left.length=n->(abq a n k left b).toList.Perm (b.toList++left)|0,k,left,b,h=>by have:left=[]:=Vr.mp h;subst this;unfold abq;simp|n+1,k,left,b,h=>by unfold abq;have c:a k%left.length<left.length:=XJ _ (by omega);rw[t_ c];dsimp only;refine(rH a n (k+1) _ _ (by rw[Y8 c];omega)).trans ?_;rw[Yo,VT];exact List.Perm.append_left _ (kT _ _ c)
def zr{c:Source}{Q:Nat->ge->Prop}(e:b≠0)(h:∀i a,i<b->Q i {d with drawn:=a}):q_ (w_ n j) s (choose c b) Q θ d:=λ_ _ _=>⟨e,h _ _ (XJ _ (Nat.pos_of_ne_zero e))⟩
def zt{c:n_}{w:y_}{A:x_}{E:R->ge->Prop}{j:Type}:∀(n:Nat)(a:List j)(s:ge)(Q:List j->ge->Prop),a.length=n->(∀f d,f.Perm a->Q f {s with drawn:=d})->q_ (w_ c w) A (drawOrder n a) Q E s
 |0,a,s,Q,b,h=>by
  have:a=[]:=Vr.mp b;subst this;unfold drawOrder;have e:s={s with drawn:=s.drawn}:=by cases s;rfl
  refine h_ ?_;rw[e];exact h [] s.drawn (.refl _)|n+1,[],s,Q,b,h=>by simp at b|n+1,x::a,s,Q,b,h=>by unfold drawOrder;refine ck (zr (by simp) λi d g=>?_);rw[t_ g];dsimp only;refine ck (zt n ((x::a).eraseIdx i) _ _ (by rw[Y8 g];simp at b⊢;omega) λf m k=>?_);refine h_ (h _ m ?_);exact(k.cons _).trans (kT _ _ g)
structure Rd(w:y_)(h:O_)(S:O)(es:Array (Int×R))(ep:Nat)(t:SetTable):Prop where
 o:∃o,h.get? S=Z o/\o.ExactSet/\o.data=.set es ep t
 f:t.fits es.size=L
 l:t.led=(!þ w)p:es.size≠0->t.plain=D
def Rd.moved{a:O_}{c:Array (Int×R)}(r:Rd j ε e c b π)(k:∀o,ε.get? e=Z o->a.get? e=Z o):Rd j a e c b π:=by obtain⟨⟨o,f,d⟩,i,h,g⟩:=r;exact⟨⟨o,k _ f,d⟩,i,h,g⟩
abbrev ň(a:R)(i:Nat)(S:O)(n b:Nat):Obj:={cls:=.type "set_iterator",dict:=U,data:=.fields #[a,Vd i,.ref S,Vd n,Vd b],slots:=#[]}
def vt(f:R)(i:Nat)(S:O)(n a:Nat):ň f (i+1) S n a={cls:=.type "set_iterator",dict:=U,data:=.fields #[f,.int ((i:Int)+1) 0,.ref S,.int n 0,.int a 0],slots:=#[]}:=by simp[Vd]
def CS{h:Array (Int×R)}{Q:Option R->ge->Prop}(r:Rd j d.heap y h b π)(f:d.heap.get? e=Z (ň (Vd Ρ) o y h.size b)){x:R}{k:Nat}(u:∀(a:Option (R×Nat)->ge->Prop)(B:R->ge->Prop),a (Z (x,k)) d->q_ (w_ n j) s.in1 (ZU y Ρ o b) a B d)(q:∀g,g.get? e=Z (ň (Vd k) (o+1) y h.size b)->VA e d.heap g->Q (Z x) {d with heap:=g}):q_ (w_ n j) s (Wf (.ref e)) Q θ d:=by have i:d.TypeIs (.ref e) "set_iterator":=⟨_,f,rfl⟩;obtain⟨c,m,hex,p⟩:=r.o;unfold Wf;refine ck (VH (Uc (name:=b_ "__next__") i Ā (Ub Ā i vp ?_ (vq _))));unfold U9.«set_iterator.__next__»;refine ck (m:=ack _ _ _) (V3 (a:=(z_ e,[])) (by rfl) ?_);refine ck (V7 f rfl ?_);dsimp only[Vd,Yp];refine ck (WF m p r.f ?_);rw[if_neg (by simp)];refine ck (m:=pure _) (h_ ?_);dsimp only;refine ck (u _ _ ?_);dsimp only;refine ck (UJ f (by simp) λH w A=>?_);refine ck (UJ w (by simp) λE v z=>?_);exact h_ ⟨x,rfl,h_ (q _ (by rw[vt];simpa[Vd]using v) (A.trans z))⟩
def rJ{i:Array (Int×R)}{Q:Option R->ge->Prop}(m:s.handled=U)(r:Rd j d.heap y i b π)(f:d.heap.get? e=Z (ň (Vd Ρ) o y i.size b))(u:∀(a:Option (R×Nat)->ge->Prop)(w:R->ge->Prop),a U d->q_ (w_ n j) s.in1 (ZU y Ρ o b) a w d)(q:∀h,aaG e d.heap h->Q U {d with heap:=h}):q_ (w_ n j) s (Wf (.ref e)) Q θ d:=by have g:d.TypeIs (.ref e) "set_iterator":=⟨_,f,rfl⟩;obtain⟨c,k,hex,p⟩:=r.o;unfold Wf;refine ck (VH (Uc (name:=b_ "__next__") g Ā (Ub Ā g vp ?_ (vq _))));unfold U9.«set_iterator.__next__»;refine ck (m:=ack _ _ _) (V3 (a:=(z_ e,[])) (by rfl) ?_);refine ck (V7 f rfl ?_);dsimp only[Vd,Yp];refine ck (WF k p r.f ?_);rw[if_neg (by simp)];refine ck (m:=pure _) (h_ ?_);dsimp only;refine ck (u _ _ ?_);dsimp only;refine ck (UJ f (by simp) λz A v=>?_);refine ck ?_;simp only[acm,abt];refine ck (TJ ?_ (by size_fits));refine ck (m:=V8 _ _) (V3 (a:=C_) (by first|rfl|(simp only[V8];rfl)) ?_);refine TJ ?_ (by size_fits);simp only[acl];refine ck (Zp ?_);rw[show s.in1.handled=U from m];refine ck (h_ (aav ?_));refine ck (Xi (T:="StopIteration") (b:=L) ⟨_,m_ _ rfl,rfl⟩ YY ?_);exact h_ (q _ ((v.extBut.push _).push _))
def CT{T:O}{c:Array (Int×R)}{Q:Option R->ge->Prop}(r:Rd j d.heap y c b π)(f:d.heap.get? e=Z (ň (.ref T) o y c.size b))(w:d.heap.IsTuple T Β){k:Nat}{A:Int}{x:R}(u:Β[o]?=Z (Vd k))(v:c[k]?=Z (A,x))(z:∀g,g.get? e=Z (ň (.ref T) (o+1) y c.size b)->VA e d.heap g->Q (Z x) {d with heap:=g}):q_ (w_ n j) s (Wf (.ref e)) Q θ d:=by have m:d.TypeIs (.ref e) "set_iterator":=⟨_,f,rfl⟩;obtain⟨a,p,hex,q⟩:=r.o;obtain⟨H,h,_,P,i⟩:=w;unfold Wf;refine ck (VH (Uc (name:=b_ "__next__") m Ā (Ub Ā m vp ?_ (vq _))));unfold U9.«set_iterator.__next__»;refine ck (m:=ack _ _ _) (V3 (a:=(z_ e,[])) (by rfl) ?_);refine ck (V7 f rfl ?_);dsimp only[Vd,Yp];refine ck (WF p q r.f ?_);rw[if_neg (by simp)];refine ck (m:=pure _) (h_ ?_);dsimp only;refine ck (Vk h i ?_);dsimp only;rw[VU,u];dsimp only[Vd];refine ck ?_;unfold setNextDrawn;refine ck (UB p q r.f ?_);dsimp only;rw[if_neg (by simp)];refine ck (m:=pure _) (h_ ?_);rw[VU,v];dsimp only;refine h_ ?_;refine ck (UJ f (by simp) λh1 B E=>?_);exact h_ ⟨x,rfl,h_ (z _ (by rw[vt];simpa[Vd]using B) E)⟩
def rK{T:O}{k:Array (Int×R)}{Q:Option R->ge->Prop}(q:s.handled=U)(r:Rd j d.heap y k b π)(c:d.heap.get? e=Z (ň (.ref T) o y k.size b))(v:d.heap.IsTuple T Β)(m:Β[o]?=U)(w:∀i,aaG e d.heap i->Q U {d with heap:=i}):q_ (w_ n j) s (Wf (.ref e)) Q θ d:=by have h:d.TypeIs (.ref e) "set_iterator":=⟨_,c,rfl⟩;obtain⟨a,p,hex,u⟩:=r.o;obtain⟨E,f,_,H,g⟩:=v;unfold Wf;refine ck (VH (Uc (name:=b_ "__next__") h Ā (Ub Ā h vp ?_ (vq _))));unfold U9.«set_iterator.__next__»;refine ck (m:=ack _ _ _) (V3 (a:=(z_ e,[])) (by rfl) ?_);refine ck (V7 c rfl ?_);dsimp only[Vd,Yp];refine ck (WF p u r.f ?_);rw[if_neg (by simp)];refine ck (m:=pure _) (h_ ?_);dsimp only;refine ck (Vk f g ?_);dsimp only;rw[VU,m];dsimp only;refine ck (UJ c (by simp) λh1 z B=>?_);refine ck (UJ z (by simp) λP g2 A=>?_);refine ck ?_;simp only[acm,abt];refine ck (TJ ?_ (by size_fits));refine ck (m:=V8 _ _) (V3 (a:=C_) (by first|rfl|(simp only[V8];rfl)) ?_);refine TJ ?_ (by size_fits);simp only[acl];refine ck (Zp ?_);rw[show s.in1.handled=U from q];refine ck (h_ (aav ?_));refine ck (Xi (T:="StopIteration") (b:=L) ⟨_,m_ _ rfl,rfl⟩ YY ?_);exact h_ (w _ (((B.trans A).extBut.push _).push _))
def EV{k:Array (Int×R)}{a:Option (R×Nat)->ge->Prop}(r:Rd j d.heap e k b π)(i:þ j=L)(m:a (((YV (j.params.setOrder e b) k)[o]?).map λc=>(c.2,Ρ)) d):q_ (w_ n j) s (ZU e Ρ o b) a θ d:=by obtain⟨f,g,hex,h⟩:=r.o;unfold ZU abg setWalk abg;refine ck (UB g h r.f ?_);dsimp only;refine ck (ck (WJ (h_ ?_)));dsimp only;rw[if_pos (show(w_ n j).w.params.followText "set-order"=L from i),if_neg (by simp)];refine ck (ck (UB g h r.f ?_));dsimp only;refine ck (ck (WJ (h_ ?_)));dsimp only;rw[if_pos (show(w_ n j).w.params.followText "set-order"=L from i)];refine ck (WJ (h_ ?_));exact h_ m
def EW{g:Array (Int×R)}{a:Option (R×Nat)->ge->Prop}(r:Rd j d.heap e g b π)(i:þ j=D)(v:g.size<=1)(u:a (match g[SetTable.below π.place Ρ]?,π.place[SetTable.below π.place Ρ]? with|some (_,x),Z c=>Z (x,c+1)|_,_=>U) d):q_ (w_ n j) s (ZU e Ρ o b) a θ d:=by
 obtain⟨f,k,hex,p⟩:=r.o;have m:π.led=L:=by rw[r.l,i];rfl
 unfold ZU abg;refine ck (UB k p r.f ?_);dsimp only;refine ck (ck (WJ (h_ ?_)));dsimp only;rw[if_neg (show¬((w_ n j).w.params.followText "set-order"=L)from by rw[show(w_ n j).w.params.followText "set-order"=D from i];simp)];split;·rename_i q;have h:(!π.plain&&uk (g.size>1))=L:=q;simp at h;omega
 ·refine ck (V3 (a:=()) ?_ (h_ u));show(if(!π.led&&!g.isEmpty)=L then _ else pure ())=pure ();rw[m];rfl
def EX:Slot "set_iterator" "__iter__" "set_iterator.__iter__":=.of (n:="__iter__") (owner:="set_iterator") (by rw[typeLookup_type,aao];lk) (by decide+kernel) (by decide+kernel) (by decide+kernel) (by first|exact .inl (by decide+kernel)|exact .inr (by decide+kernel)) (by rw[aaB];lk)
def L8:entryFor table "set_iterator.__iter__"=Z U9.«dict_keyiterator.__iter__»:=entryFor_alias (id':="dict_keyiterator.__iter__") (by lk) (by first|rfl|decide+kernel|(unfold String.splitOn;simp+decide[String.splitOnAux])) (by decide+kernel) (by lk)
def L9(a:R):argsOk "set_iterator.__iter__" ⟨[a],[]⟩:=by unfold argsOk;lk
def zu{b:Array P}(h:b.size=1):∃a,b=#[a]:=by obtain⟨l⟩:=b;match l,h with|[a],_=>exact⟨a,rfl⟩
def rL(a:d.TypeIs (.ref e) "set_iterator")(h:Ω (.ref e) d):q_ (w_ n j) s (ž (.ref e)) Ω θ d:=by refine Zc a EX (Ub EX a L8 ?_ (L9 _));show q_ _ _ (ret (.ref e)) _ _ d;exact h_ ⟨_,rfl,"set_iterator",_,a,Ā.lookup,h⟩
def rM(P:s.handled=U)(I S:O)(y:S≠I)(r:Array (Int×R))(m:Nat)(t:SetTable)(d:List R)(p:Nat->Nat)(hl:d.length=r.size)(hN:∀(i:Nat)(v:R)(a:ge)(c:Option (R×Nat)->ge->Prop)(f:R->ge->Prop),Rd j a.heap S r m t->d[i]?=Z v->c (Z (v,p (i+1))) a->q_ (w_ n j) s.in1 (ZU S (p i) i m) c f a)(hE:∀(a:ge)(c:Option (R×Nat)->ge->Prop)(f:R->ge->Prop),Rd j a.heap S r m t->c U a->q_ (w_ n j) s.in1 (ZU S (p d.length) d.length m) c f a):Walks n j s I [I,S] [I] d.length (λi v=>d[i]?=Z v) (λi h=>h.get? I=Z (ň (Vd (p i)) i S r.size m)/\Rd j h S r m t)where
 sub:=λb k=>by simp at k;simp[k]
 frame:=λ_ _ _ st B=>⟨B I (by simp) _ st.1,st.2.moved λo e=>B S (by simp) o e⟩;item:=λi a Q E H st q=>by
  have A:d[i]?=Z d[i]:=by simp[H]
  refine CS st.2 st.1 (x:=d[i]) (k:=p (i+1)) (λc f u=>hN i _ a c f st.2 A u) λw g b=>?_;exact q _ w a.toks A ⟨g,st.2.moved λo e=>b.extBut S o y e⟩ λb' o k e=>b.extBut b' o (λh=>k (by simp[h])) e
 done:=λa Q E st q=>rJ P st.2 st.1 (λc f u=>hE a c f st.2 u) λw z=>q w a.toks λb o k e=>z b o (λh=>k (by simp[h])) e;self:=λ_ _ _ _ st q=>rL ⟨_,st.1,rfl⟩ q
def zv(hh:s.handled=U)(I S T:O)(w:S≠I)(hT:T≠I)(u:Array (Int×R))(B:Nat)(t:SetTable)(c:List Nat)(d:List R)(H:d.length=c.length)(m:∀(i:Nat)(k:Nat)(v:R),c[i]?=Z k->d[i]?=Z v->∃q,u[k]?=Z (q,v)):Walks n j s I [I,S,T] [I] d.length (λi v=>d[i]?=Z v) (λi h=>h.get? I=Z (ň (.ref T) i S u.size B)/\Rd j h S u B t/\h.IsTuple T (c.map λ(i:Nat)=>Vd i).toArray)where
 sub:=λb f=>by simp at f;simp[f]
 frame:=λ_ _ _ st m=>⟨m I (by simp) _ st.1,st.2.1.moved λo e=>m S (by simp) o e,st.2.2.at λo e=>m T (by simp) o e⟩;item:=λi a Q E P st p=>by
  have A:d[i]?=Z d[i]:=by simp[P]
  have y:c[i]?=Z (c[i]'(by omega)):=by simp[show i<c.length by omega]
  obtain⟨q,e0⟩:=m i _ _ y A;refine CT st.2.1 st.1 st.2.2 (x:=d[i]) (k:=c[i]'(by omega)) (A:=q) (by simp[show i<c.length by omega]) e0 λr g b=>?_;exact p _ r a.toks A ⟨g,st.2.1.moved λo e=>b.extBut S o w e,st.2.2.extBut b.extBut hT⟩ λb' o f e=>b.extBut b' o (λh=>f (by simp[h])) e
 done:=λa Q E st p=>rK hh st.2.1 st.1 st.2.2 (by simp[H]) λr z=>p r a.toks λb o f e=>z b o (λh=>f (by simp[h])) e;self:=λ_ _ _ _ st p=>rL ⟨_,st.1,rfl⟩ p
structure Wk(prog:n_)(w:y_)(S I:O)(h:O_)(h':O_)(es:Array (Int×R))(vs:List R)(fp:List O)(St:Nat->O_->Prop):Prop where
 W:∀A:x_,A.handled=U->Walks prog w A I fp [I] vs.length (λi v=>vs[i]?=Z v) St
 st:St 0 h'
 pm:vs.Perm (es.toList.map (·.2))up:∀b o,h.get? b=Z o->h'.get? b=Z o
 nw:h.objs.size<=I
 fp:∀b∈fp,(b=S\/h.objs.size<=b)/\b<h'.objs.size
def CU{u:Array (Int×R)}(r:Rd j d.heap e u b π)(k':u.size<=60)(hQ:∀(I:O)(E:O_)(g:Drawn)(H:List R)(fp:List O)(St:Nat->O_->Prop),Wk n j e I d.heap E u H fp St->Ω (.ref I) {d with heap:=E,drawn:=g}):q_ (w_ n j) s (ž (.ref e)) Ω θ d:=by
 obtain⟨o,ho,hex,hd⟩:=id r.o;have hT:d.TypeIs (.ref e) "set":=⟨o,ho,hex.1⟩;have hS:e<d.heap.objs.size:=s_ ho;have c':π.place.size=u.size:=by have:=r.f;unfold acH at this;simp at this;exact this.1
 refine Zc hT F.slot_set_iter (Ub F.slot_set_iter hT Qm ?_ (F.args_set_iter_1 _));unfold U9.«frozenset.__iter__»;refine ck (m:=acM _ _) (V3 (a:=e) (by rfl) ?_);refine ck ?_;unfold acJ;refine ck (WF ho hd r.f (h_ ?_));refine ck ?_;unfold setDrawn abg;refine ck (UB ho hd r.f ?_);dsimp only;refine ck (ck (WJ (h_ (h_ ?_))));dsimp only;split
 · rename_i hc;have y:(!þ j&&(!π.plain&&uk (u.size>1)))=L:=hc;simp at y;refine ck (zt _ _ _ _ (by simp) λks g hp=>?_);have z:ks.length<=sizeLine:=by
    have h1:=hp.length_eq;rw[Xb]at h1;have:sizeLine=16777216:=by decide
    omega
   unfold abt;refine ck (TJ ?_ (by simpa[sizeOk]using z));have g':(d.heap.push {cls:=.type "tuple",data:=.seq (ks.map λ(i:Nat)=>Vd i).toArray}).get? e=Z o:=i_ _ ho;refine ck ?_;unfold setEpoch;refine ck (UB g' hd r.f (h_ ?_));refine ck (TJ (h_ ⟨_,rfl,"set_iterator",_,⟨_,m_ _ rfl,rfl⟩,Ā.lookup,?_⟩));have i':∀k∈ks,k<u.size:=λk hk=>by simpa using hp.mem_iff.mp hk
   refine hQ _ _ g (ks.map λk=>(u.toList.map (·.2)).getD k .none) [(d.heap.push {cls:=.type "tuple",data:=.seq (ks.map λ(i:Nat)=>Vd i).toArray}).objs.size,e,d.heap.objs.size] _ ⟨λA' E=>zv E _ e d.heap.objs.size (by rw[L_];exact A_ (TV hS)) (by rw[L_];exact A_ (U6 _)) u b π ks _ (by simp) (λi k v A e2=>?_),⟨m_ _ rfl,r.moved (λo' c=>i_ _ (i_ _ c)),?_⟩,?_,λm o' c=>i_ _ (i_ _ c),by rw[L_];exact VR _,?_⟩;·have hk:=i' k (S_ A);simp[A]at e2;refine⟨u[k].1,?_⟩;rw[<-e2];simp[hk]
   ·exact⟨_,i_ _ (m_ _ rfl),rfl,0,rfl⟩
   ·have c:(rl u.size).map (λk=>(u.toList.map (·.2)).getD k .none)=u.toList.map (·.2):=FD.range_getD _ _ _ (by simp);exact(hp.map _).trans (by rw[c])
   · intro m w;rw[L_,L_];rw[L_]at w;simp only[v_,TD,or_false]at w;rcases w with w|w|w;·subst w;exact⟨.inr (VR _),U6 _⟩
     ·subst w;exact⟨.inl rfl,TV (TV hS)⟩
     ·subst w;exact⟨.inr (o_ _),TV (U6 _)⟩
 · rename_i hc;have y:¬((!þ j&&(!π.plain&&uk (u.size>1)))=L):=hc;refine ck (h_ ?_);refine ck ?_;unfold setEpoch;refine ck (UB ho hd r.f (h_ ?_));refine ck (TJ (h_ ⟨_,rfl,"set_iterator",_,⟨_,m_ _ rfl,rfl⟩,Ā.lookup,?_⟩));have e':∀(H:List R)(sl:Nat->Nat),sl 0=0->H.Perm (u.toList.map (·.2))->(∀s:x_,s.handled=U->Walks n j s d.heap.objs.size [d.heap.objs.size,e] [d.heap.objs.size] H.length (λi v=>H[i]?=Z v) (λi h=>h.get? d.heap.objs.size=Z (ň (Vd (sl i)) i e u.size b)/\Rd j h e u b π))->Ω (.ref d.heap.objs.size) {d with heap:=d.heap.push (ň (Vd 0) 0 e u.size b)}:=by
    intro H sl h0 hp hW;have c:({d with heap:=d.heap.push (ň (Vd 0) 0 e u.size b)}:ge)={d with heap:=d.heap.push (ň (Vd 0) 0 e u.size b),drawn:=d.drawn}:=rfl;rw[c];refine hQ _ _ d.drawn H _ _ ⟨hW,⟨by rw[h0];exact m_ _ rfl,r.moved (λo' c=>i_ _ c)⟩,hp,λm o' c=>i_ _ c,o_ _,λm w=>?_⟩;rw[L_];simp only[v_,TD,or_false]at w;rcases w with w|w;·subst w;exact⟨.inr (o_ _),U6 _⟩
    ·subst w;exact⟨.inl rfl,TV hS⟩
   by_cases w:þ j=L
   · have d':(YV (j.params.setOrder e b) u).toList.Perm u.toList:=by have:=rH (j.params.setOrder e b) u.size 0 u.toList #[] (by simp);simpa[YV]using this
     have f':(YV (j.params.setOrder e b) u).size=u.size:=by simpa using d'.length_eq
     refine e' ((YV (j.params.setOrder e b) u).toList.map (·.2)) (λ_=>0) rfl (d'.map _) λA' E=>rM E _ e (A_ hS) u b π _ _ (by simp[f']) (λi v s1 p E' P A B=>EV P w ?_) (λs1 p E' P B=>EV P w ?_);·simp at A;obtain⟨a,A⟩:=A;rw[A];exact B
     ·rw[show(YV (j.params.setOrder e b) u)[(List.map (·.2) (YV (j.params.setOrder e b) u).toList).length]?=U by simp];exact B
   · have b':þ j=D:=by simpa using w
     have a':u.size<=1:=by
      rw[b']at y;by_cases z:u.size=0;·omega
      ·rw[r.p z]at y;simp at y;exact y
     refine e' (u.toList.map (·.2)) (λi=>if i=0 then 0 else π.place.getD 0 0+1) rfl (.refl _) λA' E=>rM E _ e (A_ hS) u b π _ _ (by simp) (λi v s1 p E' P A B=>EW P b' a' ?_) (λs1 p E' P B=>EW P b' a' ?_)
     · have hi:i=0:=by have:=B_.mp A;obtain⟨q,_⟩:=this;simp at q;omega
       subst hi;obtain⟨a,ea⟩:∃a,u=#[a]:=by obtain⟨l⟩:=u;have:=(B_.mp A).1;match l,this,a' with|[a],_,_=>exact⟨a,rfl⟩|_::_::_,_,h=>simp at h
       subst ea;obtain⟨f,ej⟩:∃f,π.place=#[f]:=zu c';simp at A;subst A;rw[ej]at B⊢;simpa[below,abD]using B
     · by_cases z:u.size=0;·have e0:u=#[]:=Array.eq_empty_of_size_eq_zero z;subst e0;simpa using B
       ·obtain⟨a,ea⟩:=zu (b:=u) (by omega:u.size=1);subst ea;obtain⟨f,ej⟩:∃f,π.place=#[f]:=zu c';rw[ej];simpa[below,abD]using B
def uc{es:Array (Int×R)}{Q:List R->ge->Prop}(hh:s.handled=U)(r:Rd j d.heap e es b π)(e':es.size<=60)(hQ:∀(m:O_)(f:Drawn)(tk:Nat)(q:List R),q.Perm (es.toList.map (·.2))->d.heap.objs.size<m.objs.size->(∀c o,d.heap.get? c=Z o->m.get? c=Z o)->Q q {d with heap:=m,drawn:=f,toks:=tk}):q_ (w_ n j) s (abx (.ref e)) Q θ d:=by
 obtain⟨o,ho,hex,hd⟩:=id r.o;have hS:e<d.heap.objs.size:=s_ ho;unfold abx;refine ck (X3 (UY F.entry_proto_collect ?_));rw[Vo F.plain_proto_collect _];show q_ _ s.in1 (abu []>>=λl=>T' (.builtin "list.__iadd__" ⟨[l,.ref e],[]⟩)) _ _ d;refine ck (TJ ?_);refine h_ ⟨Yy F.plain_list_iadd _,UY F.entry_list_iadd ?_⟩;rw[Vo F.plain_list_iadd _];show q_ _ s.in1 (V2 (.ref d.heap.objs.size) (.ref e) (.ref d.heap.objs.size)) _ _ _;unfold V2;generalize hH:d.heap.push {cls:=.type "list",data:=.seq ([]:List R).toArray}=H;have b':H.objs.size=d.heap.objs.size+1:=by rw[<-hH,L_]
 have p:∀c k,d.heap.get? c=Z k->H.get? c=Z k:=λc k a=>hH▸i_ _ a;have hL:H.get? d.heap.objs.size=Z {cls:=.type "list",data:=.seq ([]:List R).toArray}:=hH▸m_ _ rfl;have ty:WA {d with heap:=H} (.ref e) "set":=⟨o,p _ _ ho,hex.1⟩;refine ck (Wm (T:="set") ty ?_);have h1:Zw (.ref d.heap.objs.size) (.ref e)=D:=by simp[Zw];exact(A_ hS).symm
 have h2:(l_ "set"==l_ "list")=D:=by decide
 have h3:(l_ "set"==l_ "tuple")=D:=by decide
 simp only[h1,h2,h3,Zz,xy,if_false];refine ck (CU (d:={d with heap:=H}) (r.moved λo a=>p _ _ a) e' λI m f q fp St K=>?_);have v:WA {d with heap:=m,drawn:=f} (.ref e) "set":=⟨o,K.up _ _ (p _ _ ho),hex.1⟩;refine ck (Uu ?_);unfold Builtin.List.listLengthHint;refine ck (wpAny_specialOf v F.slot_set_len.lookup ?_);wp_delta;refine ck (Xi (T:="set") (b:=L) v (by rw[aaB];lk) ?_);show q_ _ s.in1 (aci (z_ e)>>=_) _ _ _;refine ck (Wm (T:="set") v ?_);refine h_ ?_;show q_ _ s.in1 (rule "list.extend.makes-room">>=λ_=>Builtin.List.listTouch (.ref d.heap.objs.size)>>=λ_=>T' (.builtin "list.extend.loop" ⟨[.ref d.heap.objs.size,.ref I,.ref d.heap.objs.size],[]⟩)) _ _ _;refine ck (Wx ?_);have P:m.get? d.heap.objs.size=Z {cls:=.type "list",data:=.seq ([]:List R).toArray}:=K.up _ _ hL;refine ck ?_;show q_ _ s.in1 (updateSeq d.heap.objs.size (·.push .none)>>=λ_=>updateSeq d.heap.objs.size (·.pop)) _ _ _;refine ck (wpAny_updateSeq P rfl ?_);have E:=U8 (TQ (·.push C_)) P rfl;refine wpAny_updateSeq E rfl ?_;have m':=U8 (TQ (·.pop)) E rfl;have A:∀c k,c≠d.heap.objs.size->m.get? c=Z k->((m.update d.heap.objs.size (TQ (·.push C_))).update d.heap.objs.size (TQ (·.pop))).get? c=Z k:=λc k z a=>(V1 _ _ (VB z)).trans ((V1 _ _ (VB z)).trans a);have B:d.heap.objs.size∉fp:=λy=>by
  rcases(K.fp _ y).1 with a|a;·exact absurd a (A_ hS).symm
  ·rw[b']at a;exact absurd a (Nat.not_le.mpr (U6 _))
 have W:=K.W s.in1 hh;have l':q.length<=sizeLine:=by
  have h1:=K.pm.length_eq;simp at h1;have:sizeLine=16777216:=by decide
  omega
 refine h_ ⟨Yy F.plain_extend_loop _,codeAny_extend_loopS W.toS l' _ B _ q.length 0 _ _ _ rfl (TN _) (W.frame 0 m _ K.st λc z k a=>A c k (λh=>B (h▸z)) a) m' (ItemsOf.nil _) λs' g c' y a' u=>?_⟩;show q_ _ s (load d.heap.objs.size>>=_) _ _ s';refine ck (wpAny_load a' ?_);have f':g.toList=q:=by
  apply ZS;·simpa using u.1
  ·intro i h1 h2;have:q[i]?=Z g[i]:=u.2 i g[i] (by simp);rw[t_ h2]at this;simpa using this.symm
 show q_ _ s (pure g.toList) _ _ s';rw[f'];obtain⟨n',g',d',i',k'⟩:=s';have eg:g'=d.gens:=y.gens;have ed:d'=f:=y.drawn;have eo:k'=d.os:=y.os;subst eg;subst ed;subst eo;refine h_ (hQ n' d' i' q K.pm (s_ a') λc k a=>y.heap c k (λz=>?_) (A c k (A_ (s_ a)) (K.up _ _ (p _ _ a))));have w:=s_ a;rcases v_.mp z with h|h;·exact absurd w (h▸UR _)
 ·rw[Ua.mp h]at w;have:=K.nw;rw[b']at this;exact absurd (YT w this) (UR _)
def SetS.rd(x:SetS n j ε e u):∃b c t,Rd j ε e b c t/\b.size<=60/\(∀a∈b.toList,∃x t,a.2=.str x t)/\(b.toList.map λa=>ű a.2).Perm u:=by obtain⟨o,b,c,t,h,hex,m,k,q,i,g,p,f,d⟩:=x;refine⟨b,c,t,⟨⟨o,h,hex,m⟩,k,i,g⟩,?_,f,d⟩;have:=d.length_eq;simp at this;omega
def zw:∀{a:List R},(∀v∈a,∃x t,v=.str x t)->abL a (a.map ű)|[],_=>.nil|v::a,h=>by obtain⟨x,t,rfl⟩:=h v on;exact .cons x t (zw λv b=>h v (r_ _ b))
def sorted_set(hh:s.handled=U)(x:SetS n j d.heap e u)(h:∀(l:O)(z:O_)(c:Drawn)(p:Nat)(m:List R)(a:Nat),abL m (FD.isortB FD.leS u)->z.get? l=Z (Ul "list" m.toArray a)->d.heap.objs.size<=l->(∀b o,d.heap.get? b=Z o->z.get? b=Z o)->Ω (.ref l) {d with heap:=z,drawn:=c,toks:=p}):q_ (w_ n j) s (call (.builtin "sorted") [.ref e]) Ω θ d:=by
 obtain⟨es,ep,t,r,c',hs,hm⟩:=x.rd;refine Zb aca abJ abK (args_sorted1 _) ?_;unfold U9.«sorted»;refine ck (m:=checkCount "sorted" 1 1 _) (h_ ?_);refine ck (uc hh r c' λh1 c p k w b' up=>?_);have E:∀v∈k,∃x t,v=U5 x t:=λv hv=>by obtain⟨a,y,rfl⟩:=G_.mp (w.mem_iff.mp hv);exact hs a y
 have hS:=zw E;have f:k.length<64:=by have:=w.length_eq;simp at this;omega
 have P:(k.map ű).Perm u:=by have:=w.map ű;rw[Uq]at this;exact this.trans hm
 refine ck (Xx ?_ (FD.line64 f));have g:(h1.push (Ul "list" k.toArray 0)).get? h1.objs.size=Z (Ul "list" k.toArray 0):=m_ _ rfl;refine ck (Uu (Ub aaL ⟨_,g,rfl⟩ aah (list_sort_treeK strKind_oneLt g hS.keysOf (λf' e' rest a=>keyKind_strs (by rw[<-a];exact hS)) f λA a' H=>⟨_,rfl,?_⟩) (args_list_sort _)));obtain⟨B,a1,a2,a3⟩:=sorted_out_str hS a' H;have d':B=FD.isortB FD.leS u:=FD.sorted_uniq FD.ordS ((a2.trans P).trans (FD.isortB_perm FD.leS u).symm) (FD.sortedS_pw _ a3) (FD.isortB_sorted FD.ordS u);subst d';obtain⟨a,y⟩:=sortedHeap_at (out:=(Yt A).map (·.2)) g;refine h_ ⟨_,rfl,h _ _ c p _ a a1 (by rw[aaT];exact y) (WV b') λb ob q=>?_⟩;·have q1:=up _ _ q;have i:=s_ q1;rw[sortedHeap_old (A_ i) (by rw[L_];exact TV i),Vh _ _ _ (A_ i)];exact q1
end ST
namespace FD
open L2
def kU:Ó
 |[.lst b]=>match bD b with|some a=>if a.length<=59 then Z (.ok (.lst ((isortB leS (ST.ddk a)).map N.str)))else U|none=>U
 |[.tup b]=>match bD b with|some a=>if a.length<=59 then Z (.ok (.lst ((isortB leS (ST.ddk a)).map N.str)))else U|none=>U
 |_=>U
def zx(I:Ê a δ Ã f d)(b:Drawn):Ê a δ Ã f {d with drawn:=b}:=⟨I.ok,I.os,I.bare,I.base,I.loc,I.cell,I.free,I.freeC,I.pin,I.hok,I.len⟩
def pH:∀{a:List R}{c:List Str},abL a c->a.length=c.length/\∀(i:Nat)(v:R),a[i]?=Z v->∃b,v=U5 (c.getD i "") b|_,_,.nil=>⟨rfl,λi v h=>by simp at h⟩|_,_,.cons x t h=>by obtain⟨f,d⟩:=pH h;refine⟨by simp[f],λi v e=>?_⟩;cases i with|zero=>simp at e;exact⟨t,by simp[<-e]⟩|succ i=>obtain⟨b,q⟩:=d i v (by simpa using e);exact⟨b,by simpa using q⟩
def wT{e:Pos}(hc:a.calm=L)(hg:Gl a "sorted")(hm:a.mg "sorted"=U)(k':Gl a "set")(i':a.mg "set"=U)(ha:FA a [g] ξ)(he:k_ [.Call (.Name "set" z) [g] [] e] a.env=(D,eval (.Call (.Name "set" z) [g] [] e) a.env)::k_ [] a.env:=by lk)(g':(TF Λ (k_ [] a.env)).any (·.1)=D:=by lk)(l':k_ [g] a.env=(D,eval g a.env)::k_ [] a.env:=by lk)(c':(TF e (k_ [] a.env)).any (·.1)=D:=by lk):FE a (.Call (.Name "sorted" k) [.Call (.Name "set" z) [g] [] e] [] Λ) (Ý kU ξ):=⟨λf' s σ H Q I⟨ρ,E,o⟩=>by
 refine UV (gF I hg hm (ψ:=.builtin "sorted") (by decide+kernel) ?_ (by decide) (by decide));refine WN ?_ he g';rw[he];show q_ _ _ (spliced ((D,eval (.Call (.Name "set" z) [g] [] e) a.env)::TF Λ (k_ [] a.env))) _ _ s;refine V_ ?_;refine UV (gF I k' i' (ψ:=.type "set") (by decide+kernel) ?_ (by decide) (by decide));refine UM (á (ha.h e f' s σ H _ I ⟨ρ,E,ç.bind o λds vs H1 e1 rs f=>(show∃ds,S a.K H1 ds vs/\ê a H1 (kU ds) Q from⟨ds,rs,f⟩)⟩) λus s1⟨vs,H1,A,r1,ds,rs,f⟩=>?_) l' c';have b':∀(h:List Str)(y:O_)(P:Nat),h.length<=59->ê a H1 (Z (.ok (.lst ((isortB leS (ST.ddk h)).map N.str)))) Q->ST.SetS a.prog a.w y s1.heap.objs.size (ST.ddk h)->(∀b o,b<s1.heap.objs.size->s1.heap.get? b=Z o->y.get? b=Z o)->q_ (w_ a.prog a.w) a.A (call (.builtin "sorted") [.ref s1.heap.objs.size]) (EP a f' σ Q) a.xe {s1 with heap:=y,toks:=P}:=by
  intro h y P hk f hS w;refine ST.sorted_set (A.ok.hd hc) hS λl h2 d d' e' e0 a1 a2 a3 a4=>?_;have a':s1.heap.objs.size<=l:=by obtain⟨_,_,_,_,q,_⟩:=hS;exact WV (TB (s_ q) a3)
  refine⟨.ref l,_,zx (A.laid (h':=h2) (t':=d') (o:=.lst ((isortB leS (ST.ddk h)).map V.str)) (λb ob q=>a4 _ _ (w b ob (s_ q) q)) a' ?_) d,rfl,f _ _ (aC (A.hok.fresh a') _) ⟨l,_,rfl,au,kQ _ _⟩⟩;exact⟨line64 (by rw[N_,(isortB_perm leS _).length_eq];have:=ST.ddk_le h;omega),e',e0,kP a1,by simpa[Ul]using a2⟩
 unfold kU at f;split at f
 · rename_i es;obtain⟨v,rfl,r⟩:=dt rs;obtain⟨l,xs,rfl,hl,rx⟩:=r.lstE;obtain⟨u,rfl,ru⟩:=fq r1;cases(show u=z_ l from ru);split at f
   · rename_i h B;split at f
     · rename_i p;obtain⟨c,j,n,rv,hz,eh⟩:=A.lstM hl;obtain⟨q1,q2⟩:=pH (lR B rx rv);have m:j.toArray.size=h.length:=by simp[q1]
       refine ST.call_set_L2 (Β:=j.toArray) (q:=λi=>h.getD i "") (A.ok.hd hc) ⟨_,eh,rfl,n,rfl⟩ (λi v hi=>q2 i v (by simpa using hi)) (by rw[m];exact p) λy P hS w=>?_;refine Wo ?_;rw[range_getD h "" _ m]at hS;exact b' h y P p f hS w
     ·exact f.elim
   ·exact f.elim
 · rename_i es;obtain⟨v,rfl,r⟩:=dt rs;obtain⟨l,xs,rfl,hl,rx⟩:=r.tupE;obtain⟨u,rfl,ru⟩:=fq r1;cases(show u=z_ l from ru);split at f
   · rename_i h B;split at f
     · rename_i p;obtain⟨j,rv,pl,hz⟩:=A.tuple (ð.of hl);obtain⟨q1,q2⟩:=pH (lR B rx rv);have m:j.toArray.size=h.length:=by simp[q1]
       refine ST.call_set_T2 (Β:=j.toArray) (q:=λi=>h.getD i "") (A.ok.hd hc) pl (λi v hi=>q2 i v (by simpa using hi)) (by rw[m];exact p) λy P hS w=>?_;refine Wo ?_;rw[range_getD h "" _ m]at hS;exact b' h y P p f hS w
     ·exact f.elim
   ·exact f.elim
 ·exact f.elim⟩
end FD
namespace TS
def ğ{a:Type}(M:WX)(A:x_)(E:R->ge->Prop)(J:ge->Prop)(m:StateT P Sem a)(Q:a->P->Prop)(b:P):Prop:=∀s,J s->q_ M A (m.run b) (λr c=>J c/\Q r.1 r.2) E s
variable{É:ge->Prop}
def cv{c:Type}{a:c}{Q:c->P->Prop}(h:Q a È):ğ Å s θ É (pure a:StateT P Sem c) Q È:=λb d=>by rw[aab];exact h_ ⟨d,h⟩
def bu{g d:Type}{m:StateT P Sem g}{f:g->StateT P Sem d}{Q:d->P->Prop}(h:ğ Å s θ É m (λa c=>ğ Å s θ É (f a) Q c) È):ğ Å s θ É (m>>=f) Q È:=λb k=>by rw[StateT.run_bind];exact ck (Ur (h b k) (λr j i=>i.2 j i.1) λ_ _ e=>e)
def rN{d:Type}{m:StateT P Sem d}{Q g:d->P->Prop}(h:ğ Å s θ É m Q È)(j:∀a c,Q a c->g a c):ğ Å s θ É m g È:=λb i=>Ur (h b i) (λr _ f=>⟨f.1,j _ _ f.2⟩) λ_ _ e=>e
def wU{Q:P->P->Prop}(h:Q È È):ğ Å s θ É (get:StateT P Sem P) Q È:=λa b=>by rw[StateT.run_get];exact h_ ⟨b,h⟩
def lS{f:P->P}{Q:PUnit->P->Prop}(h:Q ⟨⟩ (f È)):ğ Å s θ É (modify f:StateT P Sem PUnit) Q È:=λa b=>by rw[StateT.run_modify];exact h_ ⟨b,h⟩
def zy{c:Type}{m:Sem c}{Q:c->P->Prop}(h:∀b,É b->q_ Å s m (λa d=>É d/\Q a È) θ b):ğ Å s θ É (liftM m:StateT P Sem c) Q È:=λb f=>by show q_ Å s ((StateT.lift m:StateT P Sem c).run È) _ θ b;rw[StateT.run_lift];exact ck (Ur (h b f) (λa d g=>h_ g) λ_ _ e=>e)
def Ma{M:WX}{A:x_}{E:R->ge->Prop}{J:ge->Prop}{o k:Type}(f:Nat->k->StateT o Sem (ForInStep k))(I:Nat->k->o->Prop)(Q:k->o->Prop)(b:Nat)(g:∀i c st,i<b->I i c st->ğ M A E J (f i c) (λr d=>match r with|.done j=>Q j d|.yield j=>I (i+1) j d) st)(m:∀c st,I b c st->Q c st):∀(n a:Nat)(c:k)(st:o),a+n=b->I a c st->ğ M A E J (G' (List.range' a n 1) c f) Q st
 |0,a,c,st,e,h=>by
  rw[List.range'_zero,Yj];have:a=b:=by omega
  subst this;exact cv (m c st h)|n+1,a,c,st,e,h=>by rw[List.range'_succ,YL];refine bu (rN (g a c st (by omega) h) λr d p=>?_);cases r with|done j=>exact cv p|yield j=>exact Ma f I Q b g m n (a+1) j d (by omega) p
def kW{d:Type}{f:Nat->d->StateT P Sem (ForInStep d)}(I:Nat->d->P->Prop){Q:d->P->Prop}(n:b<=o)(g:∀i c a,i<o->I i c a->ğ Å s θ É (f i c) (λr e=>match r with|.done j=>Q j e|.yield j=>I (i+1) j e) a)(m:∀c a,I o c a->Q c a){c:d}{a:P}(h:I b c a):ğ Å s θ É (G' [b:o] c f) Q a:=by
 rw[Std.Legacy.Range.forIn_eq_forIn_range'];have k:([b:o]:abQ).size=o-b:=by simp[Std.Legacy.Range.size]
 show ğ Å s θ É (G' (List.range' b ([b:o]:abQ).size 1) c f) Q a;rw[k];exact Ma f I Q o g m (o-b) b c a (by omega) h
structure Od(blt:Nat->Nat->Bool):Prop where
 ir:∀a,blt a a=D
 tr:∀a b c,blt a b=L->blt b c=L->blt a c=L
 nt:∀a b c,blt a c=L->blt a b=L\/blt b c=L
def ĩ(c:Nat->Nat->Bool)(a b:Nat):Prop:=c a b=L\/(c b a=D/\a<b)
variable{Γ:Nat->Nat->Bool}
def Od.le(O:Od Γ){a b c:Nat}(e:Γ b a=D)(d:Γ c b=D):Γ c a=D:=by cases h:Γ c a with|false=>rfl|true=>
 rcases O.nt _ b _ h with q|q;·rw[q]at d;cases d
 ·rw[q]at e;cases e
def Od.lt_le(O:Od Γ){a b c:Nat}(e:Γ a b=L)(d:Γ c b=D):Γ a c=L:=by
 rcases O.nt _ c _ e with q|q;·exact q
 ·rw[q]at d;cases d
def Od.le_lt(O:Od Γ){a b c:Nat}(d:Γ b a=D)(e:Γ b c=L):Γ a c=L:=by
 rcases O.nt _ a _ e with q|q;·rw[q]at d;cases d
 ·exact q
def Od.as(O:Od Γ){a b:Nat}(h:Γ a b=L):Γ b a=D:=by cases c:Γ b a with|false=>rfl|true=>have:=O.tr _ _ _ h c;rw[O.ir]at this;cases this
def ĩ.tr(O:Od Γ){a b c:Nat}(e:ĩ Γ a b)(d:ĩ Γ b c):ĩ Γ a c:=by
 rcases e with e|⟨e,f⟩
 · rcases d with d|⟨d,i2⟩;·exact .inl (O.tr _ _ _ e d)
   ·exact .inl (O.lt_le e d)
 · rcases d with d|⟨d,i2⟩;·exact .inl (O.le_lt e d)
   ·exact .inr ⟨O.le e d,by omega⟩
def ĩ.of_le(h:Γ o b=D)(i:b<o):ĩ Γ b o:=.inr ⟨h,i⟩
structure SB(a₀:Array Yu)(kd:Wp)(p:Nat->Nat)(st:Wa):Prop where
 sz:(Yt st).size=a₀.size
 at':∀k,k<a₀.size->(Yt st)[k]?=a₀[p k]?lt:∀k,k<a₀.size->p k<a₀.size
 inj:∀a b,a<a₀.size->b<a₀.size->p a=p b->a=b
 kind:kindOf st=kd
 failed:aaM st=U
 pend:ZN st=#[]
def Ğ(p:Nat->Nat)(i j k:Nat):Nat:=if i<=k/\k<j then p (i+j-1-k)else p k
def Ň(p:Nat->Nat)(a b k:Nat):Nat:=if k=b then p a else if b<k/\k<=a then p (k-1)else p k
variable{Θ:Nat->Nat}
def SB.mirror{c:Array Yu}{g:Wp}{d:Wa}(B:SB c g Θ d){i j:Nat}(n:j<=c.size):SB c g (Ğ Θ i j) (setArr d (mirror (Yt d) i j ((j-i)/2)))where
 sz:=(mirror_size _ _ _ _).trans B.sz;at':=λk f=>by
  show(PyProof.Rows.mirror (Yt d) i j ((j-i)/2))[k]?=_;rw[getElem?_mirror_all (by rw[B.sz];exact n)];unfold Ğ;split;·exact B.at' _ (by omega)
  ·exact B.at' _ f
 lt:=λk f=>by
  unfold Ğ;split;·exact B.lt _ (by omega)
  ·exact B.lt _ f
 inj:=λa b m h e=>by
  unfold Ğ at e;split at e<;>split at e;·have:=B.inj _ _ (by omega) (by omega) e;omega
  ·have:=B.inj _ _ (by omega) h e;omega
  ·have:=B.inj _ _ m (by omega) e;omega
  ·exact B.inj _ _ m h e
 kind:=B.kind;failed:=B.failed;pend:=B.pend
def SB.bubble{f:Array Yu}{j:Wp}{g:Wa}(B:SB f j Θ g){c d:Nat}(h:c<f.size)(m:d<=c):SB f j (Ň Θ c d) (setArr g (bubble (Yt g) c (c-d)))where
 sz:=(bubble_size _ _ _).trans B.sz;at':=λk i=>by
  show(PyProof.Rows.bubble (Yt g) c (c-d))[k]?=_;rw[getElem?_bubble (by rw[B.sz];exact h) _ (by omega),show c-(c-d)=d by omega];unfold Ň;split;·exact B.at' _ h
  · split;·exact B.at' _ (by omega)
    ·exact B.at' _ i
 lt:=λk i=>by
  unfold Ň;split;·exact B.lt _ h
  · split;·exact B.lt _ (by omega)
    ·exact B.lt _ i
 inj:=λa b o n e=>by
  unfold Ň at e;repeat' split at e
  all_goals first|omega|(have:=B.inj _ _ (by omega) (by omega) e;omega)
 kind:=B.kind;failed:=B.failed;pend:=B.pend
def Cm(M:WX)(A:x_)(J:ge->Prop)(a:Array Yu)(e:Wp)(c:Nat->Nat->Bool):Prop:=∀(i j:Nat)(x y:Yu)(s:ge)(f:R->ge->Prop),a[i]?=Z x->a[j]?=Z y->J s->q_ M A (keyLt' e x.1 y.1) (λb d=>J d/\b=c i j) f s
def Mb{d:Array Yu}{j:Wp}{f:Wa}{Q:Option Bool->Wa->Prop}(C:Cm Å s É d j Γ)(B:SB d j Θ f)(i:b<d.size)(g:o<d.size)(h:Q (Z (Γ (Θ b) (Θ o))) f):ğ Å s θ É (ltAt' b o) Q f:=by
 have q:(Yt f)[b]?=Z (d[Θ b]'(B.lt b i)):=by rw[B.at' b i];simp[B.lt b i]
 have p:(Yt f)[o]?=Z (d[Θ o]'(B.lt o g)):=by rw[B.at' o g];simp[B.lt o g]
 rw[ltAt'_eq];refine bu (wU ?_);show ğ Å s θ É (do let x<-elem' (Yt f) b;let y<-elem' (Yt f) o;lt' x y) Q f;rw[elem'_eq,elem'_eq,q,p];refine bu (cv (bu (cv ?_)));rw[lt'_eq];refine bu (wU ?_);rw[B.kind];refine bu (zy λa k=>VH (Ur (C (Θ b) (Θ o) _ _ a _ (by simp[B.lt b i]) (by simp[B.lt o g]) k) (λc r n=>?_) λ_ _ e=>e));obtain⟨m,rfl⟩:=n;exact⟨m,cv h⟩
def CV{a:Wa}{Q:Unit->Wa->Prop}(h:Q () (setArr a (mirror (Yt a) b o ((o-b)/2)))):ğ Å s θ É (reverseSlice' b o) Q a:=by rw[reverseSlice'_eq];exact lS h
structure Up(blt:Nat->Nat->Bool)(p:Nat->Nat)(n N:Nat):Prop where
 so:∀a b,a<b->b<n->ĩ blt (p a) (p b)lo:∀a,a<n->p a<n
 re:∀a,n<=a->a<N->p a=a
def Up.next(O:Od Γ){n N:Nat}(c:Up Γ Θ n N)(p:1<=n)(k:n<N)(h:Γ (Θ n) (Θ (n-1))=D):Up Γ Θ (n+1) N where
 so:=λa b j o=>by
  by_cases f:b<n;·exact c.so a b j f
  · have g:b=n:=by omega
    subst g;have d:ĩ Γ (Θ (b-1)) (Θ b):=.of_le h (by rw[c.re b (o_ _) k];exact c.lo _ (by omega));by_cases e:a=b-1;·subst e;exact d
    ·exact(c.so a (b-1) (by omega) (by omega)).tr O d
 lo:=λa e=>by
  by_cases i:a<n;·have:=c.lo a i;omega
  · have:a=n:=by omega
    subst this;rw[c.re a (o_ _) k];omega
 re:=λa e m=>c.re a (by omega) m
def Mc{d:Array Yu}{k:Wp}{g:Wa}{Q:AscSt->Wa->Prop}(O:Od Γ)(C:Cm Å s É d k Γ)(B:SB d k Θ g)(r:1<=b)(j:b<=o)(q:o<=d.size)(a:Up Γ Θ b d.size)(h:∀n,b<=n->n<=o->Up Γ Θ n d.size->(n=o\/Γ (Θ n) (Θ (n-1))=L)->Q (U,n) g):ğ Å s θ É (ascLoop b o) Q g:=by
 unfold ascLoop;refine kW (I:=λx c e=>e=g/\c=(U,x)/\b<=x/\Up Γ Θ x d.size) j ?_ ?_ ⟨rfl,rfl,o_ _,a⟩;·rintro x c e p⟨rfl,rfl,f,i⟩;dsimp only;refine bu (Mb C B (by omega) (by omega) ?_);cases m:Γ (Θ x) (Θ (x-1))with|true=>simp only[if_true];exact cv (h x f (by omega) i (.inr m))|false=>simp only[xy,if_false];exact cv ⟨rfl,rfl,by omega,i.next O (by omega) (by omega) m⟩
 ·rintro c e⟨rfl,rfl,f,i⟩;exact h o f (o_ _) i (.inl rfl)
structure Dn(blt:Nat->Nat->Bool)(p:Nat->Nat)(n N:Nat):Prop where
 so:∀a b,a<b->b<n->ĩ blt (p b) (p a)lo:∀a,a<n->p a<n
 re:∀a,n<=a->a<N->p a=a
structure Dq(blt:Nat->Nat->Bool)(p:Nat->Nat)(c n N:Nat):Prop where
 cn:c<n
 d1:∀a b,a<b->b<c->ĩ blt (p b) (p a)d2:∀a b,a<c->c<=b->b<n->blt (p b) (p a)=L
 d3:∀a b,c<=a->a<b->b<n->blt (p a) (p b)=D/\blt (p b) (p a)=D/\p a<p b
 lo:∀a,a<n->p a<n
 re:∀a,n<=a->a<N->p a=a
def Dq.turn(c:Dq Γ Θ b o Ρ):Dn Γ (Ğ Θ b o) o Ρ where
 so:=λa d h i=>by
  unfold Ğ;by_cases f:b<=d
  · rw[if_pos ⟨f,i⟩];by_cases g:b<=a;·rw[if_pos ⟨g,by omega⟩];have:=c.d3 (b+o-1-d) (b+o-1-a) (by omega) (by omega) (by omega);exact .inr ⟨this.2.1,this.2.2⟩
    ·rw[if_neg (by omega)];exact .inl (c.d2 a _ (by omega) (by omega) (by omega))
  ·rw[if_neg (by omega),if_neg (by omega)];exact c.d1 a d h (by omega)
 lo:=λa e=>by
  unfold Ğ;split;·exact c.lo _ (by omega)
  ·exact c.lo _ e
 re:=λa e j=>by unfold Ğ;rw[if_neg (by omega)];exact c.re a e j
def Dq.one(c:Dq Γ Θ (b-1) b o):Dn Γ Θ b o where
 so:=λa d f g=>by
  by_cases e:d<b-1;·exact c.d1 a d f e
  ·exact .inl (c.d2 a d (by omega) (by omega) g)
 lo:=c.lo;re:=c.re
def Dn.turn(c:Dn Γ Θ b o):Up Γ (Ğ Θ 0 b) b o where
 so:=λa d h f=>by unfold Ğ;rw[if_pos ⟨TN _,by omega⟩,if_pos ⟨TN _,f⟩];exact c.so _ _ (by omega) (by omega)
 lo:=λa e=>by unfold Ğ;rw[if_pos ⟨TN _,e⟩];exact c.lo _ (by omega)
 re:=λa e g=>by unfold Ğ;rw[if_neg (by omega)];exact c.re a e g
def Dn.next(O:Od Γ){n N:Nat}(c:Dn Γ Θ n N)(o:1<=n)(g:n<N)(h:Γ (Θ n) (Θ (n-1))=L):Dq Γ Θ n (n+1) N where
 cn:=by omega
 d1:=c.so;d2:=λa b d i k=>by
  have:b=n:=by omega
  subst this;by_cases e:a=b-1;·subst e;exact h
  · rcases c.so a (b-1) (by omega) (by omega)with q|⟨q,_⟩;·exact O.tr _ _ _ h q
    ·exact O.lt_le h q
 d3:=λa b d m i=>by omega
 lo:=λa d=>by
  by_cases f:a<n;·have:=c.lo a f;omega
  · have:a=n:=by omega
    subst this;rw[c.re a (o_ _) g];omega
 re:=λa d j=>c.re a (by omega) j
def Dq.next(O:Od Γ){c n N:Nat}(d:Dq Γ Θ c n N)(m:n<N)(p:Γ (Θ n) (Θ (n-1))=D)(i:Γ (Θ (n-1)) (Θ n)=D):Dq Γ Θ c (n+1) N where
 cn:=by have:=d.cn;omega
 d1:=d.d1;d2:=λa b f o u=>by
  by_cases g:b<n;·exact d.d2 a b f o g
  · have:b=n:=by omega
    subst this;exact O.le_lt i (d.d2 a (b-1) f (by have:=d.cn;omega) (by omega))
 d3:=λa b f k o=>by
  by_cases g:b<n;·exact d.d3 a b f k g
  · have:b=n:=by omega
    subst this;have h:Θ a<Θ b:=by have:=d.lo a (by omega);rw[d.re b (o_ _) m];exact this
    by_cases e:a=b-1;·subst e;exact⟨i,p,h⟩
    ·obtain⟨r,q,_⟩:=d.d3 a (b-1) f (by omega) (by omega);exact⟨O.le i r,O.le q p,h⟩
 lo:=λa f=>by
  by_cases j:a<n;·have:=d.lo a j;omega
  · have:a=n:=by omega
    subst this;rw[d.re a (o_ _) m];omega
 re:=λa f s=>d.re a (by omega) s
def zC{d:Array Yu}{f:Wp}{j:Wa}{Q:Option Nat->Wa->Prop}(O:Od Γ)(C:Cm Å s É d f Γ)(B:SB d f Θ j)(q:1<=b)(g:b<=o)(p:o<=d.size)(c:Dn Γ Θ b d.size)(h:∀m k e,SB d f k e->1<=m->m<=o->Up Γ k m d.size->Q (Z m) e):ğ Å s θ É (tail3 b o) Q j:=by unfold tail3;refine bu (CV ?_);have n:=B.mirror (i:=0) (j:=b) (by omega);exact bu (Mc O C n q g p c.turn λm r i a _=>cv (h m _ _ n (by omega) i a))
def Md{f:Array Yu}{q:Wp}{w:Wa}{Q:DescSt->Wa->Prop}(O:Od Γ)(C:Cm Å s É f q Γ)(B:SB f q Θ w)(h1:2<=b)(v:b<=o)(hn:o<=f.size)(a:Dq Γ Θ (b-1) b f.size)(h:∀m d g i,SB f q g i->b<=m->m<=o->d+1<=m->Dq Γ g (m-(d+1)) m f.size->Q (U,m,d) i):ğ Å s θ É (descLoop b o) Q w:=by
 unfold descLoop;refine kW (I:=λx c i=>∃d g,c=(U,x,d)/\SB f q g i/\b<=x/\d+1<=x/\Dq Γ g (x-(d+1)) x f.size) v ?_ ?_ ⟨0,Θ,rfl,B,o_ _,by omega,a⟩;·rintro x c i P⟨d,g,rfl,k,p,u,j⟩;dsimp only;refine bu (Mb C k (by omega) (by omega) ?_);cases r:Γ (g x) (g (x-1))with
 |true=>
 simp only[if_true];by_cases n:d>0
 · rw[if_pos n];refine bu (CV (cv ?_));have H:=k.mirror (i:=x-(d+1)) (j:=x) (by omega);refine⟨0,_,rfl,H,by omega,by omega,?_⟩;have E:=j.turn;have hc:=j.cn;refine E.next O (by omega) (by omega) ?_;have A:Ğ g (x-(d+1)) x x=g x:=by unfold Ğ;rw[if_neg (by omega)]
   have z:Ğ g (x-(d+1)) x (x-1)=g (x-(d+1)):=by unfold Ğ;rw[if_pos (by omega)];congr 1;omega
   rw[A,z];by_cases e:x-(d+1)=x-1;·rw[e];exact r
   ·exact O.lt_le r (j.d3 (x-(d+1)) (x-1) (o_ _) (by omega) (by omega)).1
 · rw[if_neg n];have e:d=0:=by omega
   subst e;exact cv ⟨0,g,rfl,k,by omega,by omega,j.one.next O (by omega) (by omega) r⟩|false=>simp only[xy,if_false];refine bu (Mb C k (by omega) (by omega) ?_);cases y:Γ (g (x-1)) (g x)with|true=>simp only[if_true];exact cv (h x d g i k p (by omega) u j)|false=>simp only[xy,if_false];refine cv ⟨d+1,g,rfl,k,by omega,by omega,?_⟩;have:=j.next O (by omega) r y;rwa[show x+1-(d+1+1)=x-(d+1)by omega]
 ·rintro c i⟨d,g,rfl,k,p,u,j⟩;exact h o d g i k p (o_ _) u j
def oz{d:Array Yu}{n:Wp}{r:Wa}{Q:Option Nat->Wa->Prop}(O:Od Γ)(C:Cm Å s É d n Γ)(B:SB d n Θ r)(A:1<=b)(q:b+1<=o)(p:o<=d.size)(a:Dq Γ Θ b (b+1) d.size)(h:∀m k g,SB d n k g->1<=m->m<=o->Up Γ k m d.size->Q (Z m) g):ğ Å s θ É (descPart b o) Q r:=by
 unfold descPart;refine bu (zy λc w=>Wx ⟨w,?_⟩);refine bu (Md O C B (by omega) q p a λm i k g v y j z u=>?_);dsimp only;by_cases f:i>0;·rw[if_pos f];exact bu (CV (zC O C (v.mirror (by omega)) (by omega) j p u.turn h))
 · rw[if_neg f];have e:i=0:=by omega
   subst e;exact zC O C v (by omega) j p u.one h
def Hz{g:Array Yu}{H:Wp}{E:Wa}{Q:Option Nat->Wa->Prop}(O:Od Γ)(C:Cm Å s É g H Γ)(B:SB g H Θ E)(h1:1<=b)(P:b<=g.size)(o:∀k,k<g.size->Θ k=k)(h:∀m p' r,SB g H p' r->1<=m->m<=b->Up Γ p' m g.size->Q (Z m) r):ğ Å s θ É (countRun' 0 b) Q E:=by
 rw[countRun0_eq];refine bu (Mc O C B (o_ 1) h1 P ⟨λa c z p=>by omega,λa i=>by rw[o a (by omega)];exact i,λa _ hN=>o a hN⟩ λn v u d c'=>?_);dsimp only;by_cases j:n=b;·rw[if_pos (by simpa using j)];exact cv (h n Θ E B v u d)
 · rw[if_neg (by simpa using j)];have w:Γ (Θ n) (Θ (n-1))=L:=c'.resolve_left j;by_cases y:n>1;·rw[if_pos y];refine bu (Mb C B (by omega) (by omega) ?_);cases hr:Γ (Θ 0) (Θ (n-1))with|true=>simp only[if_true];exact cv (h n Θ E B v u d)|false=>
     simp only[xy,if_false];have B':=B.mirror (i:=0) (j:=n) (by omega);have b':∀a,a<n->Γ (Θ a) (Θ 0)=D:=λa i=>by
      by_cases e:a=0;·subst e;exact O.ir _
      · rcases d.so 0 a (by omega) i with q|q;·exact O.as q
        ·exact q.1
     have a':∀a,a<n->Γ (Θ (n-1)) (Θ a)=D:=λa i=>by
      by_cases e:a=n-1;·subst e;exact O.ir _
      · rcases d.so a (n-1) (by omega) (by omega)with q|q;·exact O.as q
        ·exact q.1
     have eq:∀a c,a<n->c<n->Γ (Θ a) (Θ c)=D:=λa c i p=>O.le (a' c p) (O.le hr (b' a i));have f:Dq Γ (Ğ Θ 0 n) n (n+1) g.size:=by
      have Dm:Dn Γ (Ğ Θ 0 n) n g.size:=⟨λa c z p=>by unfold Ğ;rw[if_pos ⟨TN _,p⟩,if_pos ⟨TN _,by omega⟩];refine .of_le (eq _ _ (by omega) (by omega)) ?_;rw[o _ (by omega),o _ (by omega)];omega,λa i=>by unfold Ğ;rw[if_pos ⟨TN _,i⟩,o _ (by omega)];omega,λa i hN=>by unfold Ğ;rw[if_neg (by omega),o _ hN]⟩;refine Dm.next O (by omega) (by omega) ?_;have e1:Ğ Θ 0 n n=Θ n:=by unfold Ğ;rw[if_neg (by omega)]
      have e2:Ğ Θ 0 n (n-1)=Θ 0:=by unfold Ğ;rw[if_pos (by omega)];congr 1;omega
      rw[e1,e2];exact O.lt_le w (eq 0 (n-1) (by omega) (by omega))
     exact bu (CV (oz O C B' (by omega) (by omega) P f h))
   · rw[if_neg y];have A:n=1:=by omega
     subst A;refine oz O C B (by omega) (by omega) P ?_ h;have Dm:Dn Γ Θ 1 g.size:=⟨λa c z p=>by omega,d.lo,d.re⟩;exact Dm.next O (by omega) (by omega) w
def Qn{g:Array Yu}{A:Wp}{st:Wa}{Q:Bool->Wa->Prop}(O:Od Γ)(C:Cm Å s É g A Γ)(B:SB g A Θ st)(i':1<=o)(a':o<=b)(hn:b<=g.size)(f:Up Γ Θ o g.size)(h:∀j n,SB g A j n->Up Γ j b g.size->Q L n):ğ Å s θ É (binarySort' 0 b o) Q st:=by
 rw[binarySort'_eq];simp only[WU];rw[show max o 1=o by omega];refine bu (rN (kW (I:=λk c n=>∃j,c=(U,())/\o<=k/\SB g A j n/\Up Γ j k g.size) (Q:=λc n=>∃j,c=(U,())/\SB g A j n/\Up Γ j b g.size) a' ?_ ?_ ⟨Θ,rfl,o_ _,B,f⟩) ?_)
 · rintro k c n hk⟨j,rfl,h',z,u⟩;have E:j k=k:=u.re k (o_ _) (by omega);refine bu (rN (kW (I:=λx c p=>p=n/\∃l r,c=(U,l,r)/\l<=r/\r<=k/\r-l<=k-x/\(∀i,i<l->Γ (j k) (j i)=D)/\(∀i,r<=i->i<k->Γ (j k) (j i)=L)) (Q:=λc p=>p=n/\∃l r,c=(U,l,r)/\l<=k/\(∀i,i<l->Γ (j k) (j i)=D)/\(∀i,l<=i->i<k->Γ (j k) (j i)=L)) (TN k) ?_ ?_ ⟨rfl,0,k,rfl,by omega,by omega,by omega,λi hi=>by omega,λi h1 h2=>by omega⟩) ?_)
   · rintro x c p hx⟨rfl,l,r,rfl,b',y,hm,v,w⟩;dsimp only;by_cases H:l>=r
     · rw[if_pos H];have:l=r:=by omega
       subst this;exact cv ⟨rfl,l,l,rfl,y,v,w⟩
     ·rw[if_neg H];refine bu (Mb C z (by omega) (by omega) ?_);cases m:Γ (j k) (j ((l+r)/2))with
       |true=>
        simp only[if_true];refine cv ⟨rfl,l,(l+r)/2,rfl,by omega,by omega,by omega,v,λi i1 i2=>?_⟩;by_cases e:i=(l+r)/2;·subst e;exact m
        · rcases u.so ((l+r)/2) i (by omega) i2 with q|q;·exact O.tr _ _ _ m q
          ·exact O.lt_le m q.1|false=>
        simp only[xy,if_false];refine cv ⟨rfl,(l+r)/2+1,r,rfl,by omega,by omega,by omega,λi i1=>?_,w⟩;by_cases e:i=(l+r)/2;·subst e;exact m
        · rcases u.so i ((l+r)/2) (by omega) (by omega)with q|q;·exact O.le (O.as q) m
          ·exact O.le q.1 m
   · rintro c p⟨rfl,l,r,rfl,b',y,hm,v,w⟩;have:l=r:=by omega
     subst this;exact⟨rfl,l,l,rfl,y,v,w⟩
   · rintro c p⟨rfl,l,r,rfl,c',v,w⟩;show ğ Å s θ É (do moveDown' k l;pure (W4 (U,()))) _ _;rw[moveDown'_eq];refine bu (lS (cv ⟨Ň j k l,rfl,by omega,z.bubble (by omega) c',?_⟩));refine⟨λa d P hb=>?_,λa ha=>?_,λa ha hN=>?_⟩
     · have c1:Ň j k l l=j k:=by unfold Ň;rw[if_pos rfl]
       have c2:∀x,l<x->x<=k->Ň j k l x=j (x-1):=λx h1 h2=>by unfold Ň;rw[if_neg (by omega),if_pos ⟨h1,h2⟩]
       have c3:∀x,x<l->Ň j k l x=j x:=λx h1=>by unfold Ň;rw[if_neg (by omega),if_neg (by omega)]
       by_cases d':d=l;·subst d';rw[c1,c3 a P];exact .of_le (v a (by omega)) (by rw[E];exact u.lo a (by omega))
       · by_cases e':l<d
         · rw[c2 d e' (by omega)];by_cases f':a=l;·subst f';rw[c1];exact .inl (w (d-1) (by omega) (by omega))
           · by_cases g':l<a;·rw[c2 a g' (by omega)];exact u.so (a-1) (d-1) (by omega) (by omega)
             ·rw[c3 a (by omega)];exact u.so a (d-1) (by omega) (by omega)
         ·rw[c3 a (by omega),c3 d (by omega)];exact u.so a d P (by omega)
     · unfold Ň;split;·rw[E];omega
       · split;·have:=u.lo (a-1) (by omega);omega
         ·have:=u.lo a (by omega);omega
     ·unfold Ň;rw[if_neg (by omega),if_neg (by omega)];exact u.re a (by omega) hN
 ·rintro c n⟨j,rfl,_,z,u⟩;exact⟨j,rfl,z,u⟩
 ·rintro c n⟨j,rfl,z,u⟩;exact cv (h j n z u)
structure OY(a₀:Array Yu)(blt:Nat->Nat->Bool)(p:Nat->Nat)(xs:Array Yu):Prop where
 sz:xs.size=a₀.size
 at':∀k,k<a₀.size->xs[k]?=a₀[p k]?lt:∀k,k<a₀.size->p k<a₀.size
 inj:∀a b,a<a₀.size->b<a₀.size->p a=p b->a=b
 so:∀a b,a<b->b<a₀.size->ĩ blt (p a) (p b)
def Dne(a:Array Yu)(c:Nat->Nat->Bool)(b:Wa):Prop:=∃p,OY a c p (Yt b)/\aaM b=U/\ZN b=#[(0,a.size,0)]
def SB.done{b:Array Yu}{d:Wp}{c:Wa}(B:SB b d Θ c)(a:Up Γ Θ b.size b.size):Dne b Γ (setPending c ((ZN c).push (0,b.size,0))):=⟨Θ,⟨B.sz,B.at',B.lt,B.inj,a.so⟩,B.failed,by show(ZN c).push _=_;rw[B.pend];rfl⟩
def EY{d:Array Yu}{j:Wp}{w:Wa}{Q:Unit->Wa->Prop}(O:Od Γ)(C:Cm Å s É d j Γ)(B:SB d j Θ w)(hp:∀k,k<d.size->Θ k=k)(h2:2<=d.size)(v:d.size<64)(h:∀E e,OY d Γ E (Yt e)->aaM e=U->Q () e):ğ Å s θ É sortRuns' Q w:=by
 rw[sortRuns'_eq];refine bu (wU ?_);dsimp only;have q:minRun' d.size d.size 0=d.size:=by
  obtain⟨f,hf⟩:∃f,d.size=f+1:=⟨d.size-1,by omega⟩;have:minRun' (f+1) d.size 0=d.size:=by rw[minRun'_succ,if_pos v];rfl
  rwa[<-hf]at this
 simp only[B.sz,q];refine bu (rN (kW (I:=λx c e=>(x=0/\c=(U,0)/\SB d j Θ e)\/(1<=x/\c=(U,d.size)/\Dne d Γ e)) (Q:=λc e=>c=(U,d.size)/\Dne d Γ e) (TN _) ?_ ?_ (.inl ⟨rfl,rfl,B⟩)) ?_)
 · rintro x c e H(⟨rfl,rfl,B'⟩|⟨a',rfl,a⟩)
   · dsimp only;rw[if_neg (by omega)];simp only[Nat.sub_zero,Nat.min_self,WU];refine bu (Hz O C B' (by omega) (o_ _) hp λm p2 p o u r y=>?_);dsimp only;by_cases i:m<d.size
     · rw[if_pos i];refine bu (zy λb P=>Wx ⟨P,?_⟩);refine bu (Qn O C o u r (o_ _) y λp3 st3 z U3=>?_);simp only[XA,xy,if_false];refine bu (wU ?_);have n:(ZN st3).back?=U:=by rw[z.pend];rfl
       rw[n];dsimp only;exact bu (lS (cv (.inr ⟨by omega,rfl,z.done U3⟩)))
     · rw[if_neg i];have hm:m=d.size:=by omega
       subst hm;refine bu (wU ?_);have n:(ZN p).back?=U:=by rw[o.pend];rfl
       rw[n];dsimp only;exact bu (lS (cv (.inr ⟨by omega,rfl,o.done y⟩)))
   ·dsimp only;rw[if_pos (o_ _)];exact cv ⟨rfl,a⟩
 · rintro c e(⟨H,_,_⟩|⟨_,hc,a⟩);·omega
   ·exact⟨hc,a⟩
 · rintro c e⟨rfl,A,D1,D2,D3⟩;dsimp only;refine bu (rN (kW (I:=λ_ c g=>g=e/\c=(U,())) (Q:=λc g=>g=e/\c=(U,())) (TN _) ?_ (λ_ _ hh=>hh) ⟨rfl,rfl⟩) ?_);·rintro x c g _⟨rfl,rfl⟩;refine bu (wU ?_);rw[if_pos (by rw[D3];exact o_ 1)];exact cv ⟨rfl,rfl⟩
   ·rintro c g⟨rfl,rfl⟩;exact cv (h A _ D1 D2)
abbrev kg(h:O_)(a:O)(b:List R):O_:=((h.update a (TQ λ_=>#[])).push (Ul "tuple" b.toArray 0)).push (Ul "list" #[] 0)
def JT(s:ge)(H:O_):ge->Prop:=λb=>∃a,s.toks<=a/\b={s with heap:=H,toks:=a}
def Me{Kd:Wp->Prop}{P:aaY->ge->Prop}(ho:d.heap.get? e=Z (Ul "list" E.toArray b))(o:E.length<64)(c:Od Γ)(a':2<=E.length->∀H,JT d (kg d.heap e E) H->q_ (w_ n j) s (keyKind' E.toArray) (λk s'=>JT d (kg d.heap e E) s'/\Kd k) θ H)(C:∀kd,Kd kd->Cm (w_ n j) s (JT d (kg d.heap e E)) (Zj E) kd Γ)(h:∀(p:Nat->Nat)(m:Array R)(u:Nat),m.size=E.length->(∀k,k<E.length->m[k]?=E[p k]?)->(∀k,k<E.length->p k<E.length)->(∀x y,x<E.length->y<E.length->p x=p y->x=y)->(∀x y,x<y->y<E.length->ĩ Γ (p x) (p y))->P (.done (.ret .none)) {d with heap:=sortedHeap d.heap e E m,toks:=u}):q_ (w_ n j) s (U9.«list.sort» ⟨[.ref e],[]⟩) P θ d:=by
 rw[list_sort_plain];have ha:e<d.heap.objs.size:=s_ ho;refine ck (WT ho rfl ?_);refine ck (WD ho rfl ?_ (FD.line64 (by simpa using o)));obtain⟨e1,B⟩:∃e1,(d.heap.update e (TQ λ_=>#[])).get? e=Z (Ul "list" #[] e1):=⟨_,W0 ho (λ_=>#[])⟩;refine ck (Zi B rfl ?_);refine ck (aaw ?_ (FD.line64 (by simpa using o)));refine ck (Xx ?_);refine Uu ?_;have i:(kg d.heap e E).get? e=Z (Ul "list" #[] e1):=by rw[Vh _ _ _ (by rw[XH,V6];exact A_ (TV ha)),Vh _ _ _ (by rw[V6];exact A_ ha)];exact B
 show q_ (w_ n j) s _ P θ {d with heap:=kg d.heap e E};dsimp only;have A:E.toArray.size=E.length:=by simp
 have q:(Zj E).size=E.length:=Z7 E;have z:∀k,k<E.length->(Zj E)[k]?=(E[k]?).map λv=>(v,v):=λk f=>by unfold Zj;simp[f]
 by_cases r:E.toArray.size<2;·rw[if_pos r,if_pos r];refine ck (h_ ?_);rw[aab];refine ck (h_ ?_);dsimp only;refine ck (Zi i rfl ?_);refine ck (WD i rfl ?_ (hsz2:=by rw[Wd];show(Zj E).size<=_;rw[Z7,Xd];omega));simp only[bne_self_eq_false,xy,if_false];refine h_ (h id ((Zj E).map Prod.snd) d.toks (by simp[q]) (λk f=>?_) (λk f=>f) (λx y _ _ a=>a) (λx y d' hy=>by rw[A]at r;omega));rw[XO,z k f];simp[f]
 ·rw[if_neg r,if_neg r];rw[A]at r;refine ck (Ur (a' (by omega) {d with heap:=kg d.heap e E} ⟨d.toks,o_ _,rfl⟩) (λk H c'=>?_) λ_ _ a=>a);obtain⟨J1,b'⟩:=c';refine ck (Ur (EY (θ:=θ) (Q:=λ_ g=>∃w,OY (Zj E) Γ w (Yt g)/\aaM g=U) (Θ:=id) c (C k b') (w:=acC k (E.toArray.zip E.toArray) #[] 7 U) ⟨rfl,λ_ _=>rfl,λ_ h=>h,λ_ _ _ _ a=>a,rfl,rfl,rfl⟩ (λ_ _=>rfl) (by rw[q];omega) (by rw[q];exact o) (λw g a1 a2=>⟨w,a1,a2⟩) H J1) ?_ λ_ _ a=>a);rintro⟨⟨⟩,g⟩s'⟨⟨u,_,rfl⟩,w,F,hf⟩;dsimp only;refine ck (Zi (s:={d with heap:=kg d.heap e E,toks:=u}) i rfl ?_);refine ck (WD (s:={d with heap:=kg d.heap e E,toks:=u}) i rfl ?_ (hsz2:=by refine TX (Yh ((Wd ..).trans (F.sz.trans (Z7 _)))) ?_;rw[Xd];omega));rw[hf];simp only[bne_self_eq_false,xy,if_false];have Fl:=F.lt;have Fi:=F.inj;have Fs:=F.so;rw[q]at Fl Fi Fs;refine h_ (h w _ u (by rw[Wd,F.sz,q]) (λk f=>?_) Fl Fi Fs);rw[XO,F.at' k (by rw[q];exact f),z _ (Fl k f)];simp[Fl k f]
open L2
def wV(b:Bool)(x y:R):keyLt' (ach b) x y=(do
 let c<-Yd x;let a<-Yd y
 for((p,q),i)in(c.toList.zip a.toList).zipIdx do if !(<-eqBool p q)then return<-oneLt' (b&&i==0) p q
 return uk (c.size<a.size)):=rfl
def wW(v:R):firstOfTuple' v=(do
 if(<-aci v)!=.type "tuple"then return U
 return(<-Yd v)[0]?):=rfl
def oA(h:O_)(A:x_)(z:Bool)(p q:R)(e l:Bool):Prop:=∀(a:n_)(w:y_)(E:R->ge->Prop)(s:ge),s.heap=h->(∀Q:Bool->ge->Prop,Q e s->q_ (w_ a w) A (eqBool p q) Q E s)/\(∀(b:Bool)(Q:Bool->ge->Prop),(b=L->z=L)->Q l s->q_ (w_ a w) A (oneLt' b p q) Q E s)
def rO(x:Bool){M:WX}{A:x_}{E:R->ge->Prop}{s:ge}{Q:Bool->ge->Prop}(h:Q x s):q_ M A (truthOfDropped (.bool x)) Q E s:=Vx h
def vv(d:O_)(A:x_)(z:Bool)(a b:Str)(t u:Tok):oA d A z (.str a t) (.str b u) (uk (a=b)) (uk (a.cps.toList<b.cps.toList)):=λc w E s _=>⟨λQ h=>wpAny_eqBool_str h,λe Q _ h=>by cases e with|true=>exact oneLt_str h|false=>rw[aaZ];simp only[xy,if_false];exact ck (aa4 (rO _ h):q_ (w_ c w) A (TZ .Lt (.str a t) (.str b u)) _ E s)⟩
def vx(d:O_)(A:x_)(z:Bool)(a b:Int)(t u:Tok):oA d A z (.int a t) (.int b u) (a==b) (uk (a<b)):=λc w E s _=>⟨λQ h=>wpAny_eqBool_int h,λe Q _ h=>by cases e with|true=>exact oneLt_int h|false=>rw[aaZ];simp only[xy,if_false];exact ck (PyProof.Rows.lt_int (rO _ h):q_ (w_ c w) A (TZ .Lt (.int a t) (.int b u)) _ E s)⟩
def HB(d:O_)(A:x_)(z:Bool)(a b:Bool):oA d A z (.bool a) (.bool b) (a==b) (uk (b2i a<b2i b)):=λc w E s _=>⟨λQ h=>aaD a b c w E Q h,λe Q _ h=>by cases e with|true=>rw[aaZ];simp only[if_true];refine ck (wpAny_cRoomFor_byValue rfl ?_);refine ck (wpAny_callSpecialIfBound?_slot (abI s a) F.slot_bool_lt (call_gives F.slot_bool_lt (abI s a) F.entry_int_lt (F.args_int_lt_2 _ _) (gives_int_lt_bools a b) ?_));exact rO _ h|false=>rw[aaZ];simp only[xy,if_false];exact ck (PyProof.Rows.lt_bool (rO _ h):q_ (w_ c w) A (TZ .Lt (.bool a) (.bool b)) _ E s)⟩
def cQ:List (Bool×Bool)->Option Bool|[]=>U|(L,_)::r=>cQ r|(D,l)::_=>Z l
def fJ(k l:Bool)(a:List (Bool×Bool)):(cQ ((k,l)::a)).getD D=if k=L then(cQ a).getD D else l:=by cases k<;>rfl
inductive nM(h:O_)(A:x_):Bool->List (R×R)->List (Bool×Bool)->Prop|nil{z:Bool}:nM h A z [] []|cons{z:Bool}{p q:R}{e l:Bool}{ps:List (R×R)}{rs:List (Bool×Bool)}:oA h A z p q e l->nM h A D ps rs->nM h A z ((p,q)::ps) ((e,l)::rs)
def zD{c:n_}{w:y_}{A:x_}{E:R->ge->Prop}{s:ge}(b:Bool){a:Option Bool×Unit->ge->Prop}:∀{z:Bool}{l:List (R×R)}{d:List (Bool×Bool)}(k:Nat),nM s.heap A z l d->(k=0->z=L)->a (cQ d,()) s->q_ (w_ c w) A (G' (l.zipIdx k) ((U,()):Option Bool×Unit) λx __s=>match x with|((p,q),i)=>do
 let __do_lift<-eqBool p q if(!__do_lift)=L then do
 let __do_lift<-oneLt' (b&&i==0) p q
 pure (ForInStep.done (Z __do_lift,()))else pure (W4 (U,()))) a E s
 |_,_,_,k,.nil,_,h=>by rw[aai,Yj];exact h_ h|_,_,_,k,.cons (p:=p) (q:=q) (e:=e) (l:=l) i r,g,h=>by rw[ZP,YL];refine ck ?_;dsimp only;refine ck ((i c w E s rfl).1 _ ?_);cases e with|true=>simp only[XA,xy,if_false];exact h_ (zD b (k+1) r (λz=>absurd z (Nat.succ_ne_zero k)) h)|false=>simp only[Ym,if_true];exact ck ((i c w E s rfl).2 _ _ (λf=>g (by simp at f;exact f.2)) (h_ (h_ h)))
def rP(b:Bool){a c:O}{f e:Array R}{g:List (Bool×Bool)}{Q:Bool->ge->Prop}(o:d.heap.IsTuple a f)(m:d.heap.IsTuple c e)(k:nM d.heap s L (f.toList.zip e.toList) g)(h:Q ((cQ g).getD (uk (f.size<e.size))) d):q_ (w_ n j) s (keyLt' (ach b) (.ref a) (.ref c)) Q θ d:=by rw[wV];obtain⟨y,q,_,A,v⟩:=o;obtain⟨w,p,_,z,u⟩:=m;refine ck (WT q v (ck (WT p u ?_)));refine ck (zD b 0 k (λ_=>rfl) ?_);dsimp only;cases i:cQ g with|none=>rw[i]at h;exact h_ h|some r=>rw[i]at h;exact h_ h
inductive jC(h:O_):List R->List R->Prop|nil:jC h [] []|cons{a:O}{xs:Array R}{f:R}{vs fs:List R}:h.IsTuple a xs->xs[0]?=Z f->jC h vs fs->jC h (.ref a::vs) (f::fs)
def rQ{b:n_}{w:y_}{A:x_}{E:R->ge->Prop}{s:ge}{a:List (Option R)->ge->Prop}:∀{e:List R}{fs:List R},jC s.heap e fs->a (fs.map Z) s->q_ (w_ b w) A (e.mapM firstOfTuple') a E s|_,_,.nil,h=>by rw[List.mapM_nil];exact h_ h|_,_,.cons i f r,h=>by rw[List.mapM_cons,wW];obtain⟨o,g,c,n,d⟩:=i;refine ck (ck (Wm (T:="tuple") ⟨o,g,c⟩ ?_));rw[if_neg (by decide)];refine ck (WT g d (h_ ?_));rw[f];refine ck (rQ r ?_);exact h_ h
def Mf(p q:R)(e l:Bool):Prop:=∀(a:n_)(w:y_)(A:x_)(E:R->ge->Prop)(s:ge),(∀Q:Bool->ge->Prop,Q e s->q_ (w_ a w) A (eqBool p q) Q E s)/\(∀Q:R->ge->Prop,Q (.bool l) s->q_ (w_ a w) A (richCompare .Lt p q) Q E s)
inductive oE:List (R×R)->List (Bool×Bool)->Prop|nil:oE [] []|cons{p q:R}{e l:Bool}{ps:List (R×R)}{rs:List (Bool×Bool)}:Mf p q e l->oE ps rs->oE ((p,q)::ps) ((e,l)::rs)
section
open PySem.SeqAt
open PySem.AutoSeq1(wpAny_loadPart')
open PySem.MeetsSeq PySem.MeetsSeq2 PySem.MeetsSeq3
def zE(l b:O)(f c:Array R)(n n2:Nat)(dd H:Option O)(sl B:Array (Option R))(u:List (Bool×Bool))(hi:oE (f.toList.zip c.toList) u)(hz:f.size=c.size):Meets (U9.«tuple.__lt__» ⟨[.ref l,.ref b],[]⟩) (λ_ a s=>s.heap.get? l=Z {cls:=.type "tuple",dict:=dd,data:=.seq f n,slots:=sl}/\s.heap.get? b=Z {cls:=.type "tuple",dict:=H,data:=.seq c n2,slots:=B}/\a (.ok (.ret (.bool ((cQ u).getD D)))) s):=.of_wp λk w A a s h=>by
 obtain⟨v,g,d,q,os⟩:=s;obtain⟨hl,hb,h⟩:=h;have I:=Zx;wp_walk using YF hl,YF hb,Xj _ (λrest b o=>b.1=U/\o=⟨v,g,d,q,os⟩/\∃j,oE rest j/\a (.ok (.ret (.bool ((cQ j).getD D)))) ⟨v,g,d,q,os⟩) _;case turn=>rintro⟨y,x⟩rest b o⟨m,rfl,j,z,p⟩;cases z with|cons i r=>rename_i e lw P;rw[fJ]at p;refine ck ((i k w _ _ _).1 _ ?_);cases e with|true=>wp_walk;exact⟨rfl,rfl,_,r,by simpa using p⟩|false=>have E:=λQ h=>(i k w A.in1 (λe o=>a (.error e) o) ⟨v,g,d,q,os⟩).2 Q h;wp_walk using E;exact⟨_,rfl,by simpa using p⟩
 case fin=>rintro⟨b1,b2⟩o⟨m,rfl,j,z,p⟩;simp only at m;subst m;cases z;wp_walk;exact⟨_,rfl,by simpa[Yq,hz,cQ]using p⟩
 case h=>exact⟨rfl,rfl,u,hi,h⟩
end
def kX:List Str->List Str->Bool|x::b,y::a=>if x=y then kX b a else uk (x.cps.toList<y.cps.toList)|_,_=>D
def oF:∀{e f:List Str}{c b:List R},e.length=f.length->Ë (e.map V.str) c->Ë (f.map V.str) b->∃d,oE (c.zip b) d/\(cQ d).getD D=kX e f
 |[],[],c,b,_,v,m=>by cases v;exact⟨[],.nil,rfl⟩|k::e,j::f,c,b,r,v,m=>by cases v with|cons p o=>cases m with|cons i g=>obtain⟨d,q,i2⟩:=oF (by simpa using r) o g;obtain⟨t,rfl⟩:=p;obtain⟨n,rfl⟩:=i;refine⟨(uk (k=j),uk (k.cps.toList<j.cps.toList))::d,.cons (λa w A E s=>⟨(vv s.heap A D k j t n a w E s rfl).1,λQ h=>(aa4 h:q_ (w_ a w) A (TZ .Lt (.str k t) (.str j n)) Q E s)⟩) q,?_⟩;rw[fJ,i2];simp[kX]
 |[],_::_,_,_,h,_,_=>by simp at h|_::_,[],_,_,h,_,_=>by simp at h
def ud{a:n_}{w:y_}:∀{c:List Str}{b:List R},Ë (c.map V.str) b->acA (Uy a w) c b|[],b,v=>by cases v;exact .nil|k::c,b,v=>by cases v with|cons e d=>obtain⟨t,rfl⟩:=e;exact .cons (by show Wz k (.str k t)=L;simp[Wz]) (ud d)
def CW{k:List Str}{j:List R}(hu:s.units+8<cLine)(h1:ε.IsTuple e E.toArray)(h2:ε.IsTuple y j.toArray)(hl:u.length=k.length)(o:Ë (u.map V.str) E)(m:Ë (k.map V.str) j):oA ε s D (.ref e) (.ref y) (uk (u=k)) (kX u k):=λi w c a hs=>by subst hs;obtain⟨⟨a',dd,B,P⟩,p,A,n,z⟩:=id h1;obtain⟨⟨H,r,data2,q⟩,d,g,n2,f⟩:=id h2;simp only at A z g f;subst A z g f;refine⟨λQ h=>PySem.wpAny_eqBool_tuple (knd:=Uy i w) (by omega) ⟨_,_,_,p,rfl,rfl,by simpa using ud o⟩ ⟨_,_,_,d,rfl,rfl,by simpa using ud m⟩ h,λb Q hb h=>?_⟩;cases b with|true=>exact absurd (hb rfl) (by decide)|false=>
 rw[aaZ];simp only[xy,if_false];obtain⟨v,i1,i2⟩:=oF hl o m;rw[<-i2]at h;have hz:E.toArray.size=j.toArray.size:=by have e1:=o.length;have e2:=m.length;simp at e1 e2⊢;omega
 refine ck ?_;exact ZW (op:=.Lt) ⟨_,p,rfl⟩ ⟨_,d,rfl⟩ PySem.F.slot_tuple_lt PySem.F.entry_tuple_lt (PySem.F.args_tuple_lt_2 _ _) (zE e y E.toArray j.toArray n n2 dd r P q v i1 hz) ⟨p,d,show H_ ((cQ v).getD D)≠aaC/\_ from⟨(λx=>nomatch x),rO _ h⟩⟩ (by omega)
open FD
def ĕ:N->Nat|.str _=>1|.int _=>2|.bl _=>3|.tup b=>(match bD b with|some a=>4+a.length|none=>0)|_=>0
def ľ:N->N->Bool|.str a,.str b=>uk (a=b)|.int a,.int b=>a==b|.bl a,.bl b=>a==b|.tup a,.tup b=>(match bD a,bD b with|some x,Z y=>uk (x=y)|_,_=>D)|_,_=>D
def ě:N->N->Bool|.str a,.str b=>uk (a.cps.toList<b.cps.toList)|.int a,.int b=>uk (a<b)|.bl a,.bl b=>uk (b2i a<b2i b)|.tup a,.tup b=>(match bD a,bD b with|some x,Z y=>kX x y|_,_=>D)|_,_=>D
def ú:List N->List N->Bool|x::b,y::a=>if ľ x y then ú b a else ě x y|_,_=>D
def ù(a:List N):List Nat:=a.map ĕ
def iF(a:List Nat):Bool:=a.all λk=>k !=0
def jk:∀{b:List N}{a:List Str},bD b=Z a->b=a.map N.str|[],a,h=>by cases h;rfl|.str x::r,a,h=>by obtain⟨d,c,rfl⟩:=UX.mp (show(bD r).map (x::·)=Z a from h);rw[jk c];rfl|.non::_,_,h=>by cases h|.bl _::_,_,h=>by cases h|.int _::_,_,h=>by cases h|.tup _::_,_,h=>by cases h|.lst _::_,_,h=>by cases h|.scr _::_,_,h=>by cases h|.exn _::_,_,h=>by cases h|.obj _ _::_,_,h=>by cases h
def jE(h:ĕ (.tup r)≠0):∃a,bD r=Z a/\ĕ (.tup r)=4+a.length:=by
 simp only[ĕ]at h⊢;split at h;·rename_i a e;exact⟨a,e,rfl⟩
 ·exact absurd rfl h
def oG(h:ľ i η=L):i=η:=by
 cases i<;>cases η<;>simp only[ľ,xy,decide_eq_true_eq,beq_iff_eq]at h<;>try(rw[h];done)
 split at h;·rename_i b a;rw[jk b,jk a,of_decide_eq_true h]
 ·cases h
def vy(h:ĕ i≠0):ľ i i=L:=by
 cases i<;>try(simp[ĕ]at h;done)
 all_goals try(simp[ľ];done)
 obtain⟨a,e,_⟩:=jE h;simp[ľ,e]
def vz:∀a:List Str,kX a a=D|[]=>rfl|x::a=>by rw[kX,if_pos rfl];exact vz a
def zF:∀{g f d:List Str},kX g f=L->kX f d=L->kX g d=L
 |x::g,y::f,z::d,a,b=>by
  unfold kX at a b⊢;by_cases h:x=y
  · subst h;rw[if_pos rfl]at a;by_cases c:x=z;·rw[if_pos c]at b⊢;exact zF a b
    ·rw[if_neg c]at b⊢;exact b
  · rw[if_neg h]at a;by_cases c:y=z;·subst c;rw[if_neg h];exact a
    ·rw[if_neg c]at b;have:=abf (of_decide_eq_true a) (of_decide_eq_true b);rw[if_neg λe=>by subst e;exact aaQ _ this];exact decide_eq_true this|[],_,_,a,_=>by simp[kX]at a|_::_,[],_,a,_=>by simp[kX]at a|_::_,_::_,[],_,b=>by simp[kX]at b
def zI(a b:Str)(h:¬a.cps.toList<b.cps.toList)(c:¬b.cps.toList<a.cps.toList):a=b:=by have e:a.cps.toList=b.cps.toList:=ab1 (aaN.mp c) (aaN.mp h);obtain⟨⟨a⟩⟩:=a;obtain⟨⟨b⟩⟩:=b;simp at e;rw[e]
def ue:∀{xs ys:List Str},xs.length=ys.length->kX xs ys=D->kX ys xs=D->xs=ys
 |[],[],_,_,_=>rfl|x::xs,y::ys,c,b,a=>by
  unfold kX at b a;by_cases e:x=y;·subst e;rw[if_pos rfl]at b a;rw[ue (by simpa using c) b a]
  ·rw[if_neg e]at b;rw[if_neg (VB e)]at a;exact absurd (zI _ _ (of_decide_eq_false b) (of_decide_eq_false a)) e|[],_::_,h,_,_=>by simp at h|_::_,[],h,_,_=>by simp at h
def vA(x:N):ě x x=D:=by cases x with
 |str a=>simp only[ě,decide_eq_false_iff_not];exact aaQ _|int a=>simp[ě]|bl a=>cases a<;>rfl|tup d=>
 simp only[ě];split;·rename_i x y c b;rw[c]at b;cases b;exact vz x
 ·rfl|_=>rfl
variable{χ:N}
def vB(b:ě i η=L)(a:ě η χ=L):ě i χ=L:=by
 cases i<;>cases η<;>simp only[ě,xy,decide_eq_true_eq]at b<;>cases χ<;>simp only[ě,xy,decide_eq_true_eq]at a⊢;·omega
 ·omega
 ·exact abf b a
 · split at b
   · rename_i k j f e;split at a;·rename_i h g c d;rw[e]at c;cases c;rw[f,d];exact zF b a
     ·cases a
   ·cases b
def zJ(c:ĕ i=ĕ η)(g:ĕ i≠0)(f:ě i η=D)(d:ě η i=D):i=η:=by cases i with
 |str a=>cases η with|str b=>simp only[ě,decide_eq_false_iff_not]at f d;rw[zI _ _ f d]|tup b=>obtain⟨_,_,e⟩:=jE (show ĕ (.tup b)≠0 by rw[<-c];exact g);simp only[ĕ]at c e;rw[e]at c;omega|_=>simp[ĕ]at c
 |int a=>cases η with|int b=>simp[ě]at f d;rw[show a=b by omega]|tup b=>obtain⟨_,_,e⟩:=jE (show ĕ (.tup b)≠0 by rw[<-c];exact g);simp only[ĕ]at c e;rw[e]at c;omega|_=>simp[ĕ]at c
 |bl a=>cases η with|bl b=>cases a<;>cases b<;>simp[ě,b2i]at f d⊢|tup b=>obtain⟨_,_,e⟩:=jE (show ĕ (.tup b)≠0 by rw[<-c];exact g);simp only[ĕ]at c e;rw[e]at c;omega|_=>simp[ĕ]at c
 |tup a=>obtain⟨m,k,j⟩:=jE g;cases η with|tup b=>obtain⟨n,h,o⟩:=jE (show ĕ (.tup b)≠0 by rw[<-c];exact g);simp only[ě,k,h]at f d;rw[jk k,jk h,ue (by omega) f d]|_=>simp only[ĕ]at c j;rw[j]at c;omega
 |_=>exact absurd rfl g
def EZ:∀a:List N,ú a a=D
 |[]=>rfl|x::a=>by
  unfold ú;split;·exact EZ a
  ·exact vA x
def vC:∀{h g f:List N},ú h g=L->ú g f=L->ú h f=L
 |x::h,y::g,z::f,a,b=>by
  unfold ú at a b⊢;by_cases d:ľ x y=L
  · have:=oG d;subst this;rw[if_pos d]at a;by_cases c:ľ x z=L;·rw[if_pos c]at b⊢;exact vC a b
    ·rw[if_neg c]at b⊢;exact b
  · rw[if_neg d]at a;by_cases c:ľ y z=L;·have:=oG c;subst this;rw[if_neg d];exact a
    ·rw[if_neg c]at b;have:=vB a b;rw[if_neg λe=>by have:=oG e;subst this;have:=vB a b;rw[vA]at this;cases this];exact this|[],_,_,a,_=>by simp[ú]at a|_::_,[],_,a,_=>by simp[ú]at a|_::_,_::_,[],_,b=>by simp[ú]at b
def Fa:∀{d c g:List N},ù d=ù c->ù c=ù g->iF (ù d)=L->ú d g=L->ú d c=L\/ú c g=L
 |x::d,y::c,z::g,a,e,j,h=>by
  simp only[ù,F_,aal]at a e;simp only[ù,iF,F_,VN,pi,bne_iff_ne,ne_eq]at j;have i:=j.1;unfold ú at h⊢;by_cases f:ľ x y=L
  · have:=oG f;subst this;rw[if_pos f];by_cases b:ľ x z=L;·rw[if_pos b]at h⊢;exact Fa a.2 e.2 (by simpa[iF,ù]using j.2) h
    ·rw[if_neg b]at h⊢;exact .inr h
  · rw[if_neg f];by_cases b:ľ y z=L;·have:=oG b;subst this;rw[if_neg f]at h;exact .inl h
    ·rw[if_neg b];cases o:ě x y with|true=>exact .inl rfl|false=>cases n:ě y z with|true=>exact .inr rfl|false=>
    exfalso;have r:ě y x=L:=by cases q:ě y x with|true=>rfl|false=>have:=zJ a.1 i o q;subst this;exact absurd (vy i) f
    have p:ě z y=L:=by cases q:ě z y with|true=>rfl|false=>have:=zJ e.1 (by rw[<-a.1];exact i) n q;subst this;exact absurd (vy (by rw[<-a.1];exact i)) b
    have k:=vB p r;by_cases m:ľ x z=L;·have:=oG m;subst this;rw[vA]at k;cases k
    ·rw[if_neg m]at h;have:=vB h k;rw[vA]at this;cases this
 |[],_,_,_,_,_,h=>by simp[ú]at h|_::_,[],_,a,_,_,_=>by simp[ù]at a|_::_,_::_,[],_,e,_,_=>by simp[ù]at e
def zK{R:Nat->Nat->Prop}(g:∀a b,R a b->R b a->False):∀{l m:List Nat},l.Perm m->l.Pairwise R->m.Pairwise R->l=m
 |[],m,c,_,_=>c.nil_eq|x::l,[],c,_,_=>by simpa using c.length_eq|x::l,y::m,c,f,d=>by
  rw[TC]at f d;have e:x=y:=by
   rcases v_.mp (c.mem_iff.mp (on (a:=x)))with e|i;·exact e
   · rcases v_.mp (c.mem_iff.mpr (on (a:=y)))with e|h;·exact e.symm
     ·exact(g _ _ (f.1 y h) (d.1 x i)).elim
  subst e;rw[zK g c.cons_inv f.2 d.2]
variable{Γ:Nat->Nat->Bool}
def ĩ.as(O:Od Γ){a b:Nat}(h:ĩ Γ a b)(c:ĩ Γ b a):False:=by
 have:=h.tr O c;rcases this with q|q;·rw[O.ir]at q;cases q
 ·omega
def zL{a:Nat->Nat->Bool}(O:Od a)(x:Nat):∀l:List Nat,(∀y∈l,x<y)->l.Pairwise (ĩ a)->(tt (λi j=>!a j i) x l).Pairwise (ĩ a)
 |[],_,_=>by simp[tt]|y::l,e,h=>by
  unfold tt;rw[TC]at h;split
  · rename_i d;have c:ĩ a x y:=.of_le (by simpa using d) (e y on);rw[TC,TC];refine⟨λz b=>?_,h⟩;rcases v_.mp b with rfl|b;·exact c
    ·exact c.tr O (h.1 z b)
  · rename_i d;rw[TC];refine⟨λz b=>?_,zL O x l (λz b=>e z (r_ _ b)) h.2⟩;rcases v_.mp ((iM _ x l).mem_iff.mp b)with rfl|b;·exact .inl (by simpa using d)
    ·exact h.1 z b
def vD{a:Nat->Nat->Bool}(O:Od a):∀l:List Nat,l.Pairwise (·<·)->(isortB (λi j=>!a j i) l).Pairwise (ĩ a)|[],_=>.nil|x::l,h=>by rw[TC]at h;exact zL O x _ (λy b=>h.1 y ((isortB_perm _ l).mem_iff.mp b)) (vD O l h.2)
def zM{a c:Type}{d:a->a->Bool}{b:c->c->Bool}(f:a->c)(x:a):∀l:List a,(∀y∈l,d x y=b (f x) (f y))->(tt d x l).map f=tt b (f x) (l.map f)
 |[],_=>rfl|y::l,h=>by
  have e:=h y on;simp only[tt,F_];rw[<-e];split;·rfl
  ·rw[F_,zM f x l λz g=>h z (r_ _ g)]
def sort_map{d e:Type}{g:d->d->Bool}{c:e->e->Bool}(f:d->e):∀l:List d,(∀x∈l,∀y∈l,g x y=c (f x) (f y))->(isortB g l).map f=isortB c (l.map f)|[],_=>rfl|x::l,h=>by simp only[isortB,F_];rw[zM (b:=c) f x _ λy i=>h x on y (r_ _ ((isortB_perm _ l).mem_iff.mp i)),sort_map f l λa k b j=>h a (r_ _ k) b (r_ _ j)]
def mI:∀(l m:List Nat),l.Nodup->(∀x∈l,x∈m)->m.length<=l.length->l.Perm m
 |[],m,_,_,h=>by have:m=[]:=Vr.mp (by simpa using h);subst this;exact .refl _|x::l,m,a,c,h=>by
  rw[U0]at a;obtain⟨e,d,rfl⟩:=List.append_of_mem (c x on);refine((mI l (e++d) a.2 (λy b=>?_) (by simp at h⊢;omega)).cons x).trans List.perm_middle.symm;have:=c y (r_ _ b);simp only[Ue,v_]at this⊢;rcases this with q|rfl|q;·exact .inl q
  ·exact(a.1 b).elim
  ·exact .inr q
variable{Θ:Nat->Nat}
def uf(f:∀k,k<b->Θ k<b)(d:∀a c,a<b->c<b->Θ a=Θ c->a=c):((rl b).map Θ).Perm (rl b):=by
 have h:((rl b).map Θ).Nodup:=by rw[List.nodup_iff_pairwise_ne,W_];refine(List.nodup_range (n:=b)).imp_of_mem λ{a c}n m g e=>g (d a c (by simpa using n) (by simpa using m) e)
 have sub:∀x∈(rl b).map Θ,x∈rl b:=λx i=>by obtain⟨k,j,rfl⟩:=G_.mp i;simpa using f k (by simpa using j)
 exact mI _ _ h sub (by simp)
def mJ(O:Od Γ){n:Nat}{p:Nat->Nat}(d:∀k,k<n->p k<n)(c:∀a b,a<n->b<n->p a=p b->a=b)(f:∀a b,a<b->b<n->ĩ Γ (p a) (p b)):(rl n).map p=isortB (λi j=>!Γ j i) (rl n):=by refine zK (λa b h m=>h.as O m) ((uf d c).trans (isortB_perm _ _).symm) ?_ (vD O _ Z_);rw[W_];exact(Z_ (n:=n)).imp_of_mem λ{a b}o g e=>f a b e (by simpa using g)
def vF{b:n_}{w:y_}{A:x_}{E:R->ge->Prop}{s:ge}{a:List R->ge->Prop}:∀{fs:List R},(∀f∈fs,∃T,∀e:ge,e.TypeIs f T)->(∀c,a c s)->q_ (w_ b w) A (fs.mapM aci) a E s|[],_,h=>by rw[List.mapM_nil];exact h_ (h _)|f::fs,d,h=>by obtain⟨T,hT⟩:=d f on;rw[List.mapM_cons];refine ck (Wm (hT s) ?_);exact ck (vF (λg i=>d g (r_ _ i)) λc=>h_ (h _))
def Mg{c:List R}(k:jC d.heap E c)(i:∀f∈c,∃T,∀g:ge,g.TypeIs f T){a:Wp->ge->Prop}(h:∀b,a (ach b) d):q_ (w_ n j) s (keyKind' E.toArray) a θ d:=by
 rw[keyKind'_eq,abN];refine ck ?_;rw[<-bind_pure_comp];refine ck (rQ k (h_ ?_));rw[if_pos (by simp)];refine ck (Wx ?_);have e:(c.map Z).toArray.filterMap id=c.toArray:=by simp
 rw[e,oneTypeOnly'_eq,abN];refine ck (ck ?_);rw[<-bind_pure_comp];refine ck (vF i λm=>h_ ?_);split;·exact h_ (h_ (h _))
 ·exact h_ (h_ (h _))
def CY{fs:List R}(hl:d.heap.IsList e E.toArray)(d':E.length<64)(w:Od Γ)(hF:jC d.heap E fs)(hf:∀f∈fs,∃T,∀s':ge,s'.TypeIs f T)(hC:∀(A':x_)(h':O_)(i m:Nat)(x y:R),A'.units<=s.units+8->(∀b o,d.heap.get? b=Z o->h'.get? b=Z o)->E[i]?=Z x->E[m]?=Z y->∃a c xs ys rs,x=.ref a/\y=.ref c/\d.heap.IsTuple a xs/\d.heap.IsTuple c ys/\nM h' A' L (xs.toList.zip ys.toList) rs/\(cQ rs).getD (uk (xs.size<ys.size))=Γ i m)(h:∀(v:O)(h':O_)(P:Nat)(B:List R)(u:Nat)(p:Nat->Nat),h'.get? v=Z (Ul "list" B.toArray u)->d.heap.objs.size<=v->(∀b o,d.heap.get? b=Z o->h'.get? b=Z o)->B.length=E.length->(∀k,k<E.length->B[k]?=E[p k]?)->(rl E.length).map p=isortB (λi m=>!Γ m i) (rl E.length)->(∀k,k<E.length->p k<E.length)->Ω (.ref v) {d with heap:=h',toks:=P}):q_ (w_ n j) s (call (.builtin "sorted") [.ref e]) Ω θ d:=by
 refine Zb aca abJ abK (args_sorted1 _) ?_;unfold U9.«sorted»;refine ck (m:=checkCount "sorted" 1 1 _) (h_ ?_);refine ck (collect_list hl ?_ (line64 d'));refine ck (Xx ?_ (line64 d'));generalize hH:(d.heap.push (Ul "list" #[] 0)).update d.heap.objs.size (TQ (·++E.toArray))=A;have g':A.objs.size=d.heap.objs.size+1:=by rw[<-hH,V6,XH]
 have up1:∀b o,d.heap.get? b=Z o->A.get? b=Z o:=λb o q=>by have:=s_ q;rw[<-hH,U7 _ _ _ _ (A_ this),Vh _ _ _ (A_ this)];exact q
 have c':(A.push (Ul "list" E.toArray 0)).get? A.objs.size=Z (Ul "list" E.toArray 0):=m_ _ rfl;have f':∀b o,d.heap.get? b=Z o->(kg (A.push (Ul "list" E.toArray 0)) A.objs.size E).get? b=Z o:=λb o q=>by have q1:=up1 b o q;have:=s_ q1;unfold kg;rw[Vh _ _ _ (by rw[XH,V6,XH];exact A_ (TV (TV this))),Vh _ _ _ (by rw[V6,XH];exact A_ (TV this)),U7 _ _ _ _ (A_ this),Vh _ _ _ (A_ this)];exact q1
 have H:∀a xs,d.heap.IsTuple a xs->(kg (A.push (Ul "list" E.toArray 0)) A.objs.size E).IsTuple a xs:=λa xs⟨o,g,r⟩=>⟨o,f' _ _ g,r⟩;have F2:∀{a' e':List R},jC d.heap a' e'->jC (kg (A.push (Ul "list" E.toArray 0)) A.objs.size E) a' e':=by intro a' e' i';induction i' with|nil=>exact .nil|cons a b _ ih=>exact .cons (H _ _ a) b ih
 show q_ _ _ _ _ _ {d with heap:=A.push (Ul "list" E.toArray 0)};refine ck (Uu (Ub aaL ⟨_,c',rfl⟩ aah (Me (d:={d with heap:=A.push (Ul "list" E.toArray 0)}) (Kd:=λk=>∃b,k=ach b) c' d' w (λ_ s1 J1=>?_) (λkd hk=>?_) λp B P o1 o2 o3 o4 o5=>⟨_,rfl,?_⟩) (args_list_sort _)));·obtain⟨P,b',rfl⟩:=J1;exact Mg (d:={d with heap:=kg (A.push (Ul "list" E.toArray 0)) A.objs.size E,toks:=P}) (F2 hF) hf λb=>⟨⟨P,b',rfl⟩,b,rfl⟩
 · obtain⟨b,rfl⟩:=hk;intro i m x y s1 E' ex ey J1;obtain⟨P,b',rfl⟩:=J1;have pz:∀(k:Nat)(z:Yu),(Zj E)[k]?=Z z->E[k]?=Z z.1:=λk z hz=>by
    have hk:k<E.length:=by have:=(VC.mp hz).1;rwa[Z7]at this
    unfold Zj at hz;simp[hk]at hz;rw[t_ hk,<-hz]
   obtain⟨a,c,xs,ys,rs,e1,e2,t1,t2,it,eb⟩:=hC s.in1.in1 _ i m x.1 y.1 (by show s.units+1+1<=_;omega) f' (pz i x ex) (pz m y ey);rw[e1,e2];refine rP (d:={d with heap:=kg (A.push (Ul "list" E.toArray 0)) A.objs.size E,toks:=P}) b (H _ _ t1) (H _ _ t2) it ⟨⟨P,b',rfl⟩,eb⟩
 ·obtain⟨u,he⟩:=sortedHeap_at (out:=B) c';refine h_ ⟨_,rfl,h A.objs.size _ P B.toList u p (by rw[aaT];exact he) (by rw[g'];exact VR _) (λb o q=>?_) (by simpa using o1) (λk hk=>by simpa using o2 k hk) (mJ w o3 o4 o5) o3⟩;have q1:=up1 b o q;have:=s_ q1;rw[sortedHeap_old (A_ this) (by rw[XH];exact TV this),Vh _ _ _ (A_ this)];exact q1
end TS
variable{É:ge->Prop}{Γ:Nat->Nat->Bool}{Θ:Nat->Nat}{χ:FD.N}
namespace FD
open L2 TS
def mK:List N->Option (List (List N))|[]=>Z []|.tup a::r=>(mK r).map (a::·)|_=>U
def xD:List N->Bool|[]=>D|d::_=>uk (ĕ d<4)
def fm(a:List (List N)):Bool:=uk (a.length<64)&&a.all λr=>uk (ù r=ù (a.headD []))&&xD r&&iF (ù r)
def ug:Ó
 |[.lst d]=>match mK d with|some c=>if fm c=L then Z (.ok (.lst ((isortB (λa b=>!ú b a) c).map N.tup)))else U|none=>L4 [.lst d]
 |_=>U
def vG:∀{b:List N}{a:List (List N)},mK b=Z a->b=a.map N.tup|[],a,h=>by cases h;rfl|.tup d::r,a,h=>by obtain⟨e,c,rfl⟩:=UX.mp (show(mK r).map (d::·)=Z a from h);rw[vG c];rfl|.non::_,_,h=>by cases h|.bl _::_,_,h=>by cases h|.int _::_,_,h=>by cases h|.str _::_,_,h=>by cases h|.lst _::_,_,h=>by cases h|.scr _::_,_,h=>by cases h|.exn _::_,_,h=>by cases h|.obj _ _::_,_,h=>by cases h
def rR:∀{e:List N}{c:List Str}{b:List V},bD e=Z c->S v f e b->b=c.map V.str:=by intro e c b h r;have:=jk h;subst this;clear h;induction c generalizing b with|nil=>exact(show b=[]from r)|cons k c j=>obtain⟨a,d,rfl,i,g⟩:∃a d,b=a::d/\Ð v f (.str k) a/\S v f (c.map N.str) d:=r;cases(show a=.str k from i);rw[j g];rfl
def pI{X:C}{f':List (O×Obj)}{σ:L2.St}{H:Hp}{s:ge}{E:O_}{A:x_}(I:Ê X f' σ H s)(hu:A.units+8<cLine)(up:∀b o,s.heap.get? b=Z o->E.get? b=Z o):∀{z:Bool}{j d:List N}{P i:List V}{m f:List R},(z=L->xD j=L)->ù j=ù d->iF (ù j)=L->S X.K H j P->S X.K H d i->Ë P m->Ë i f->∃B,nM E A z (m.zip f) B/\(cQ B).getD D=ú j d
 |z,[],[],P,i,m,f,_,_,_,r,r',v,v'=>by cases(show P=[]from r);cases v;exact⟨[],.nil,rfl⟩|z,x::j,y::d,P,i,m,f,hz,s,hk,r,r',v,v'=>by obtain⟨u,g,rfl,r1,r2⟩:∃v g,P=v::g/\Ð X.K H x v/\S X.K H j g:=r;obtain⟨u',i',rfl,w,b'⟩:∃v g,i=v::g/\Ð X.K H y v/\S X.K H d g:=r';simp only[ù,F_,aal]at s;simp only[ù,iF,F_,VN,pi,bne_iff_ne,ne_eq]at hk;cases v with|cons v1 v2=>cases v' with|cons k a'=>
  obtain⟨B,i1,i2⟩:=pI I hu up (z:=D) (λz=>by cases z) s.2 (by simpa[iF,ù]using hk.2) r2 b' v2 a';rename_i b1 l1 b2 l2;have one:∀(p q:R)(e l:Bool),oA E A z p q e l->(if e=L then ú j d else l)=ú (x::j) (y::d)->∃B,nM E A z ((p,q)::l1.zip l2) B/\(cQ B).getD D=ú (x::j) (y::d):=λp q e l h zz=>⟨(e,l)::B,.cons h i1,by rw[fJ,i2];exact zz⟩;have kt:∀ds n,ĕ (.tup ds)=n->n≠0->n<4->False:=λds n e h0 h4=>by obtain⟨_,_,e'⟩:=jE (r:=ds) (by omega);omega
  cases x with
  |str a=>cases y with|str b=>cases(show u=.str a from r1);cases(show u'=.str b from w);obtain⟨t,rfl⟩:=v1;obtain⟨t',rfl⟩:=k;exact one _ _ _ _ (vv E A z a b t t') rfl|tup b=>exact(kt b 1 s.1.symm (by decide) (by decide)).elim|_=>exact absurd s.1 (by simp[ĕ])
  |int a=>cases y with|int b=>cases(show u=.int a from r1);cases(show u'=.int b from w);obtain⟨t,rfl⟩:=v1;obtain⟨t',rfl⟩:=k;exact one _ _ _ _ (vx E A z a b t t') rfl|tup b=>exact(kt b 2 s.1.symm (by decide) (by decide)).elim|_=>exact absurd s.1 (by simp[ĕ])
  |bl a=>cases y with|bl b=>cases(show u=.bl a from r1);cases(show u'=.bl b from w);cases v1;cases k;exact one _ _ _ _ (HB E A z a b) rfl|tup b=>exact(kt b 3 s.1.symm (by decide) (by decide)).elim|_=>exact absurd s.1 (by simp[ĕ])
  |tup ds=>obtain⟨ks,e1,e2⟩:=jE hk.1;cases y with|tup g'=>
  obtain⟨js,e3,e4⟩:=jE (r:=g') (by rw[<-s.1];exact hk.1);obtain⟨a,xs,rfl,ha,rx⟩:=r1.tupE;obtain⟨c,ys,rfl,hc,ry⟩:=w.tupE;cases v1;cases k;obtain⟨l',q1,q2,_⟩:=I.tuple (ð.of ha);obtain⟨k',p1,p2,_⟩:=I.tuple (ð.of hc);have zf:z=D:=by cases z with|false=>rfl|true=>have:=hz rfl;simp only[xD,decide_eq_true_eq]at this;omega
  subst zf;obtain⟨o1,g1,d'⟩:=q2;obtain⟨o2,g2,c'⟩:=p2;rw[rR e1 rx]at q1;rw[rR e3 ry]at p1;refine one _ _ _ _ (CW hu ⟨o1,up _ _ g1,d'⟩ ⟨o2,up _ _ g2,c'⟩ (by have:=s.1;omega) q1 p1) ?_;simp only[ú,ľ,ě,e1,e3]|_=>have:=s.1;simp only[ĕ]at this e2;rw[e2]at this;omega
  |_=>exact absurd rfl hk.1
 |_,[],_::_,_,_,_,_,_,s,_,_,_,_,_=>by simp[ù]at s|_,_::_,[],_,_,_,_,_,s,_,_,_,_,_=>by simp[ù]at s
def CZ(c:ĕ i≠0)(g:ĕ i<4)(r:Ð v f i υ)(b:Ô υ ψ):∃T,∀d:ge,d.TypeIs ψ T:=by cases i with|str a=>cases(show υ=.str a from r);obtain⟨t,rfl⟩:=b;exact⟨"str",λs=>XE s _ _⟩|int a=>cases(show υ=.int a from r);obtain⟨t,rfl⟩:=b;exact⟨"int",λs=>typeIs_int s _ _⟩|bl a=>cases(show υ=.bl a from r);cases b;exact⟨"bool",λs=>abI s _⟩|tup h=>obtain⟨_,_,e⟩:=jE c;omega|_=>exact absurd rfl c
def mL{X:C}{f':List (O×Obj)}{o:L2.St}{H:Hp}{s:ge}(b:Ê X f' o H s):∀{c:List (List N)}{g:List V}{d:List R},(∀r∈c,xD r=L/\iF (ù r)=L)->S X.K H (c.map N.tup) g->Ë g d->∃fs,jC s.heap d fs/\∀f∈fs,∃T,∀z:ge,z.TypeIs f T
 |[],g,d,_,r,v=>by cases(show g=[]from r);cases v;exact⟨[],.nil,by simp⟩|i::c,g,d,h,r,v=>by obtain⟨u,e,rfl,P,E⟩:∃v e,g=v::e/\Ð X.K H (.tup i) v/\S X.K H (c.map N.tup) e:=r;obtain⟨a,p,rfl,ha,A⟩:=P.tupE;cases v with|cons y w=>cases y;obtain⟨fs,f1,I⟩:=mL b (λr hr=>h r (r_ _ hr)) E w;obtain⟨a',B,pt,hz⟩:=b.tuple (ð.of ha);obtain⟨n,m⟩:=h i on;cases i with|nil=>cases n|cons x i=>obtain⟨u,j,rfl,q1,q2⟩:∃v j,p=v::j/\Ð X.K H x v/\S X.K H i j:=A;cases B with|cons q w2=>
 rename_i t ts;refine⟨t::fs,.cons pt (by simp) f1,λf k=>?_⟩;rcases v_.mp k with rfl|k;·simp only[ù,iF,F_,VN,pi,bne_iff_ne,ne_eq]at m;exact CZ m.1 (of_decide_eq_true n) q1 q
 ·exact I f k
def rS{X:C}{f':List (O×Obj)}{n:L2.St}{H:Hp}{s:ge}(I:Ê X f' n H s):∀{b:List (List N)}{e:List V}{d:List R}(i:Nat)(x:R),S X.K H (b.map N.tup) e->Ë e d->d[i]?=Z x->∃a g c j,b[i]?=Z j/\e[i]?=Z (.ref a)/\x=.ref a/\S X.K H j g/\Ë g c/\H a=Z (.tup g)/\s.heap.IsTuple a c.toArray|[],e,d,i,x,r,v,h=>by cases(show e=[]from r);cases v;simp at h|j::b,e,d,i,x,r,v,h=>by obtain⟨u,f,rfl,B,A⟩:∃v f,e=v::f/\Ð X.K H (.tup j) v/\S X.K H (b.map N.tup) f:=r;obtain⟨a,o,rfl,m,y⟩:=B.tupE;cases v with|cons w p=>cases w;cases i with|zero=>simp at h;subst h;obtain⟨c,z,pt,hz⟩:=I.tuple (ð.of m);exact⟨a,o,c,j,rfl,rfl,rfl,y,z,m,pt⟩|succ i=>obtain⟨a',g,c,k,P,E,q⟩:=rS I i x A p (by simpa using h);exact⟨a',g,c,k,by simpa using P,by simpa using E,q⟩
def cZ{H:Hp}{K:d_}:∀{c:List N}{b:List V},S K H c b->c.length=b.length|[],b,r=>by cases(show b=[]from r);rfl|d::c,b,r=>by obtain⟨u,a,rfl,f,e⟩:∃v a,b=v::a/\Ð K H d v/\S K H c a:=r;simp[cZ e]
def oH(b:r.length=ν.length)(h:∀(i:Nat)(d:N)(a:V),r[i]?=Z d->ν[i]?=Z a->Ð v f d a):S v f r ν:=by induction r generalizing ν with
 |nil=>cases ν with|nil=>exact rfl|cons _ _=>simp at b
 |cons d r c=>cases ν with|nil=>simp at b|cons w ν=>exact⟨w,ν,rfl,h 0 d w rfl rfl,c (by simpa using b) λi j a g e=>h (i+1) j a (by simpa using g) (by simpa using e)⟩
def reps_at{H:Hp}{K:d_}:∀{c:List N}{b:List V},S K H c b->∀(i:Nat)(d:N)(v:V),c[i]?=Z d->b[i]?=Z v->Ð K H d v|[],_,_,i,d,v,h,_=>by simp at h|j::c,b,r,i,d,v,h,e=>by obtain⟨u,a,rfl,g,f⟩:∃v a,b=v::a/\Ð K H j v/\S K H c a:=r;cases i with|zero=>simp at h e;subst h;subst e;exact g|succ i=>exact reps_at f i d v (by simpa using h) (by simpa using e)
def oJ(a:ν.length=E.length)(h:∀(i:Nat)(v:V)(u:R),ν[i]?=Z v->E[i]?=Z u->Ô v u):Ë ν E:=by induction ν generalizing E with
 |nil=>cases E with|nil=>exact .nil|cons _ _=>simp at a
 |cons d g b=>cases E with|nil=>simp at a|cons w ν=>exact .cons (h 0 d w rfl rfl) (b (by simpa using a) λi f v e c=>h (i+1) f v (by simpa using e) (by simpa using c))
def dw(a:List (List N))(i:Nat):List N:=a.getD i (a.headD [])
def mM{a:List (List N)}(h:∀r∈a,ù r=ù (a.headD [])/\xD r=L/\iF (ù r)=L)(i:Nat):ù (dw a i)=ù (a.headD [])/\iF (ù (dw a i))=L:=by unfold dw;cases a with|nil=>exact⟨rfl,rfl⟩|cons r a=>
 by_cases b:i<(r::a).length
 · have e:(r::a).getD i ((r::a).headD [])=(r::a)[i]:=by unfold Wj;rw[t_ b];rfl
   rw[e];have:=h _ (Xo b);exact⟨this.1,this.2.2⟩
 · have e:(r::a).getD i ((r::a).headD [])=r:=by unfold Wj;rw[Uo (by omega)];rfl
   rw[e];exact⟨rfl,(h r on).2.2⟩
def zN{d:List (List N)}(h:∀r∈d,ù r=ù (d.headD [])/\xD r=L/\iF (ù r)=L):Od λi j=>ú (dw d i) (dw d j)where ir:=λa=>EZ _;tr:=λa b c e f=>vC e f;nt:=λa b c e=>Fa ((mM h a).1.trans (mM h b).1.symm) ((mM h b).1.trans (mM h c).1.symm) (mM h a).2 e
def jK{a:List (List N)}(h:a[b]?=Z r):dw a b=r:=by unfold dw Wj;rw[h];rfl
def uh(c:List (List N)):(isortB (λi j=>!(λi j=>ú (dw c i) (dw c j)) j i) (rl c.length)).map (dw c)=isortB (λa b=>!ú b a) c:=by
 have e:(rl c.length).map (dw c)=c:=by
  apply Yl;intro i;by_cases d:i<c.length;·rw[J_,VZ d,t_ d];show Z (dw c i)=_;rw[jK (t_ d)]
  ·rw[Uo (by simpa using d),Uo (by omega)]
 rw[sort_map (c:=λa b=>!ú b a) (dw c) _ λx _ y _=>rfl,e]
def C0(I:Ê a δ Ν f d){g:List (List N)}{w:List V}{h:List R}{u:x_}{hp:O_}(hr:∀r∈g,ù r=ù (g.headD [])/\xD r=L/\iF (ù r)=L)(h2:S a.K f (g.map N.tup) w)(B:Ë w h)(hA:u.units+8<cLine)(up:∀b o,d.heap.get? b=Z o->hp.get? b=Z o){i j:Nat}{x y:R}(ex:h[i]?=Z x)(ey:h[j]?=Z y):∃e c s q n,x=.ref e/\y=.ref c/\d.heap.IsTuple e s/\d.heap.IsTuple c q/\nM hp u L (s.toList.zip q.toList) n/\(cQ n).getD (uk (s.size<q.size))=ú (dw g i) (dw g j):=by
 obtain⟨a1,b',A,m,P,q2,q3,H,E,q6,q7⟩:=rS I i x h2 B ex;obtain⟨a2,a',z,k,p1,p2,p3,p4,p5,p6,p7⟩:=rS I j y h2 B ey;have p:=hr m (S_ P);have m2:=hr k (S_ p1);obtain⟨n,i1,i2⟩:=pI (A:=u) (z:=L) I hA up (λ_=>p.2.1) (p.1.trans m2.1.symm) p.2.2 H p4 E p5;refine⟨a1,a2,A.toArray,z.toArray,n,q3,p3,q7,p7,by simpa using i1,?_⟩;have v:A.toArray.size=z.toArray.size:=by
  have k1:=E.length;have k2:=p5.length;have k3:=cZ H;have k4:=cZ p4;have k5:(ù m).length=(ù k).length:=by rw[p.1,m2.1]
  simp[ù]at k5;simp;omega
 rw[v,decide_eq_false (UR _),i2,jK P,jK p1]
def Mh{e:List (List N)}{n:List R}(g:e.length=E.length)(A:S a.K f (e.map N.tup) ν)(y:Ë ν E)(P:n.length=E.length)(H:∀k,k<E.length->n[k]?=E[Θ k]?)(B:(rl E.length).map Θ=isortB (λi j=>!(λi j=>ú (dw e i) (dw e j)) j i) (rl E.length))(w:∀k,k<E.length->Θ k<E.length):Ë ((rl E.length).map λk=>ν.getD (Θ k) .non) n/\S a.K f ((isortB (λc b=>!ú b c) e).map N.tup) ((rl E.length).map λk=>ν.getD (Θ k) .non):=by
 have p:ν.length=E.length:=y.length;refine⟨oJ (by simp[P]) λi v u m r=>?_,?_⟩
 · have h:i<E.length:=by have:=(B_.mp r).1;omega
   rw[H i h]at r;rw[J_,VZ h]at m;simp only[VW,Wq]at m;have o:Θ i<ν.length:=by rw[p];exact w i h
   have e1:ν[Θ i]?=Z v:=by rw[t_ o,<-m];simp[Wj,o]
   obtain⟨u',e2,z⟩:=y.get e1;rw[e2]at r;cases r;exact z
 · rw[<-uh e,g,<-B,Uq,Uq];refine oH (by simp) λi d v s m=>?_;have h:i<E.length:=by have:=(B_.mp s).1;simpa using this
   rw[J_,VZ h]at s m;simp only[VW,Wq,Xz]at s m;have o:Θ i<ν.length:=by rw[p];exact w i h
   have q:Θ i<e.length:=by rw[g];exact w i h
   refine reps_at A (Θ i) d v ?_ ?_;·rw[J_,t_ q,<-s,jK (t_ q)];rfl
   ·rw[t_ o,<-m];simp[Wj,o]
def wX(hu:a.A.units+64<cLine):õ a (.builtin "sorted") (λxs H Q=>∃c A g,xs=[.ref c]/\H c=Z (.lst A)/\S a.K H (g.map N.tup) A/\fm g=L/\∀l v,H l=U->S a.K H ((isortB (λc b=>!ú b c) g).map N.tup) v->Q (.ref l) (Û H l (.lst v))):=by
 intro f' s σ H xs us Q d r h;obtain⟨c,A,g,rfl,h1,P,E,q⟩:=h;obtain⟨u,rfl,ru⟩:=fq r;cases ru;obtain⟨z,o,n,B,hl,e⟩:=d.lstM h1;simp only[fm,pi,decide_eq_true_eq,Uz]at E;have m:∀r∈g,ù r=ù (g.headD [])/\xD r=L/\iF (ù r)=L:=λr m=>⟨(E.2 r m).1.1,(E.2 r m).1.2,(E.2 r m).2⟩;have w:g.length=o.length:=by have g1:=cZ P;have g2:=B.length;simp at g1;omega
 obtain⟨fs,f1,I⟩:=mL d (λr b'=>(m r b').2) P B;refine CY (E:=o) ⟨_,e,rfl,n,rfl⟩ (by omega) (zN m) f1 I (λA' hp i j x y hA up ex ey=>C0 d m P B (by omega) up ex ey) λf h' tk a' ep p g1 g2 g3 g4 g5 g6 g7=>?_;obtain⟨hV,hR⟩:=Mh w P B g4 g5 g6 g7;refine⟨.ref f,_,d.laid (h':=h') (t':=tk) (o:=.lst ((rl o.length).map λk=>A.getD (p k) .non)) g3 g2 ?_,rfl,q f _ (d.hok.fresh g2) hR⟩;exact⟨line64 (by simp;omega),a',ep,hV,by simpa[Ul]using g1⟩
def C1(hu:a.A.units+64<cLine)(hg:Gl a "sorted")(hm:a.mg "sorted"=U)(ha:FA a (g::A) ξ)(he:k_ (g::A) a.env=(D,eval g a.env)::k_ A a.env:=by lk)(w:(TF z (k_ A a.env)).any (·.1)=D:=by lk):FE a (.Call (.Name "sorted" k) (g::A) [] z) (Ý ug ξ):=dv (hJ ((wX hu).or zn) hg hm (by decide+kernel) ha.h (by decide) (by decide) he w) λσ H Q P E o=>⟨P,E,ç.bind o λds vs H1 e1 rs e=>by
 unfold ug at e;split at e
 · rename_i j;obtain⟨v,rfl,r⟩:=dt rs;obtain⟨b,n,rfl,s,m⟩:=r.lstE;split at e
   · rename_i i f;split at e;·rename_i y;rw[vG f]at m;exact .inl ⟨b,n,i,rfl,s,m,y,λl a' c u=>e _ _ (aC c _) ⟨l,_,rfl,au,S.mono (aC c _) _ _ u⟩⟩
     ·exact e.elim
   · refine .inr ?_;have d:ê a H1 (match jA j with|some h=>if h.length<64 then Z (Rs.ok (N.lst (List.map N.int (isortB ő h))))else U|none=>match bD j with|some B=>if B.length<64 then Z (Rs.ok (N.lst (List.map N.str (isortB leS B))))else U|none=>U) Q:=e;split at d
     · rename_i h q;split at d;·rename_i p;exact⟨b,n,j,rfl,s,m,.inl ⟨h,q,p,λl c=>d _ _ (aC c _) ⟨l,_,rfl,au,rE _ _⟩⟩⟩
       ·exact d.elim
     · split at d
       · rename_i h q;split at d;·rename_i p;exact⟨b,n,j,rfl,s,m,.inr ⟨h,q,p,λl c=>d _ _ (aC c _) ⟨l,_,rfl,au,kQ _ _⟩⟩⟩
         ·exact d.elim
       ·exact d.elim
 ·exact e.elim⟩
open PySem.W
def Mi(G:î a.prog a.w a.K a.mg a.base Ē b e Ä u (Ĵ a.K Â u.length))(w:Ú b s)(o:s.frames=a.A.frames)(y:ñ a.K Ä u [])(I:Ê a δ Ν f d){v:V}{c:R}{g n:N}(q:Ô v c)(r:Ð a.K f g v)(p:u.length=1)(z:Â [g]=Z (.ok n)):q_ (w_ a.prog a.w) s (call (.ref e) [c]) (EP a δ Ν λm j=>Í f j/\Ð a.K j n m) θ d:=by have i:=I.env0;refine YX (VI (G.run s a.stack d f ⟨[c],[]⟩ [c] [v] (λm j=>Í f j/\Ð a.K j n m) E0 w ⟨o.trans i.frames,i.mod,i.bs,i.bsz,i.funs,i.frf,i.hok,i.bare⟩ (by simpa using y d [c] I.kIn (by simp[p])) (.cons q .nil) ⟨[g],⟨v,[],rfl,r,rfl⟩,p.symm,by rw[z];exactλv j h r=>⟨h,r⟩⟩) λr B k=>?_);cases r with|error h=>exact k.elim|ok A=>cases A with|ret c=>exact I.after k|next=>exact UK k|brk=>exact UK k|cont=>exact UK k
end FD
namespace TS
open FD
def Fb{c:Wa}{P:aaY->ge->Prop}(i:d.heap.get? y=Z (Ul "list" Β o))(m:d.heap.get? e=Z (Ul "list" #[] b))(f:y≠e)(g:Β.size<=sizeLine)(p:(Yt c).size<=sizeLine)(k:aaM c=U)(h:P (.done (.ret .none)) {d with heap:=(d.heap.update y (TQ λ_=>#[])).update e (TQ λ_=>(Yt c).map (·.2))}):q_ (w_ n j) s (ksk_tail e D b (.ref y) c) P θ d:=by
 unfold ksk_tail;refine ck (WD i rfl ?_ g (TN _));refine ck (ab4 ?_);have a:(d.heap.update y (TQ λ_=>#[])).get? e=Z (Ul "list" #[] b):=by rw[U7 _ _ _ _ f.symm];exact m
 refine ck (Zi (s:={d with heap:=d.heap.update y (TQ λ_=>#[])}) a rfl ?_);refine ck (WD (s:={d with heap:=d.heap.update y (TQ λ_=>#[])}) a rfl ?_ (TN _) (by simp only[xy,if_false,Wd];omega));rw[k];simp only[bne_self_eq_false,xy,if_false];exact h_ h
def Qo{r fs:List R}{P:aaY->ge->Prop}(u:d.heap.get? y=Z (Ul "list" E.toArray o))(ha:d.heap.get? e=Z (Ul "list" #[] b))(c':y≠e)(e':E.length=r.length)(a':r.length<64)(m:Od Γ)(hF:jC d.heap E fs)(hf:∀f∈fs,∃T,∀s':ge,s'.TypeIs f T)(hC:∀(A':x_)(i a:Nat)(x g:R),A'.units<=s.units+8->E[i]?=Z x->E[a]?=Z g->∃e o xs ys rs,x=.ref e/\g=.ref o/\d.heap.IsTuple e xs/\d.heap.IsTuple o ys/\nM d.heap A' L (xs.toList.zip ys.toList) rs/\(cQ rs).getD (uk (xs.size<ys.size))=Γ i a)(h:∀(p:Nat->Nat)(H:Array R)(A:Nat),H.size=r.length->(∀k,k<r.length->H[k]?=r[p k]?)->(rl r.length).map p=isortB (λi a=>!Γ a i) (rl r.length)->(∀k,k<r.length->p k<r.length)->P (.done (.ret .none)) {d with heap:=(d.heap.update y (TQ λ_=>#[])).update e (TQ λ_=>H),toks:=A}):q_ (w_ n j) s (ksk_end e D r.toArray b (.ref y) E.toArray) P θ d:=by
 unfold ksk_end;simp only[xy,if_false];have hz:E.toArray.size<=sizeLine:=line64 (by simp;omega);have w:(E.toArray.zip r.toArray).size=r.length:=by simp[e']
 have B:∀k,k<r.length->(E.toArray.zip r.toArray)[k]?=Z (E.getD k .none,r.getD k .none):=λk u=>by
  have:k<E.length:=by omega
  have f':k<(E.zip r).length:=by simp;omega
  have c:(E.zip r)[k]?=Z (E[k],r[k]):=by rw[t_ f',ab2]
  simp[u,this,Wj,c]
 have b':r.toArray.size=r.length:=by simp
 by_cases h2:r.toArray.size<2
 ·rw[if_pos h2,if_pos h2];refine ck (h_ ?_);rw[aab];refine ck (h_ ?_);dsimp only;refine Fb (c:=acC general' (E.toArray.zip r.toArray) #[] 7 U) u ha c' hz (line64 (by rw[w];exact a')) rfl ?_;have:=h id ((E.toArray.zip r.toArray).map (·.2)) d.toks (by rw[Wd,w]) (λk u=>by rw[XO,B k u];simp[u,Wj]) (mJ m (λk u=>u) (λ_ _ _ _ c=>c) (λx g l' hy=>by rw[b']at h2;omega)) (λk u=>u);exact this
 · rw[if_neg h2,if_neg h2];rw[b']at h2;refine ck (Mg hF hf λq=>?_);refine ck (Ur (EY (É:=JT d d.heap) (θ:=θ) (Q:=λ_ v=>∃p',OY (E.toArray.zip r.toArray) Γ p' (Yt v)/\aaM v=U) (Θ:=id) m (λi a x g s1 E' ex ey J1=>?_) (w:=acC (ach q) (E.toArray.zip r.toArray) #[] 7 U) ⟨rfl,λ_ _=>rfl,λ_ h=>h,λ_ _ _ _ c=>c,rfl,rfl,rfl⟩ (λ_ _=>rfl) (by rw[w];omega) (by rw[w];exact a') (λp' v a1 a2=>⟨p',a1,a2⟩) d ⟨d.toks,o_ _,rfl⟩) ?_ λ_ _ c=>c)
   · obtain⟨A,g',rfl⟩:=J1;have d':∀(k:Nat)(z:Yu),(E.toArray.zip r.toArray)[k]?=Z z->E[k]?=Z z.1:=λk z hz=>by
      have u:k<r.length:=by have:=(VC.mp hz).1;rwa[w]at this
      rw[B k u]at hz;cases hz;have:k<E.length:=by omega
      simp[this,Wj]
     obtain⟨a1,c1,xs,ys,rs,k',i',t1,t2,it,eb⟩:=hC s i a x.1 g.1 (by omega) (d' i x ex) (d' a g ey);rw[k',i'];exact rP (d:={d with heap:=d.heap,toks:=A}) q t1 t2 it ⟨⟨A,g',rfl⟩,eb⟩
   ·rintro⟨⟨⟩,v⟩s'⟨⟨A,_,rfl⟩,p',F,h'⟩;dsimp only;have Fl:=F.lt;have Fi:=F.inj;have Fs:=F.so;rw[w]at Fl Fi Fs;refine Fb (d:={d with heap:=d.heap,toks:=A}) u ha c' hz (by rw[F.sz,w];exact line64 a') h' ?_;refine h p' ((Yt v).map (·.2)) A (by rw[Wd,F.sz,w]) (λk u=>?_) (mJ m Fl Fi Fs) Fl;rw[XO,F.at' k (by rw[w];exact u),B _ (Fl k u)];simp[Fl k u,Wj]
end TS
namespace FD
open L2 TS
def rT:∀{a:List N}(n:Nat),ß a=L->ß (a.take n)=L|[],n,_=>by simp[ß]|d::a,0,_=>by simp[ß]|d::a,n+1,h=>by simp only[ß,pi]at h;simp only[List.take_succ_cons,ß,pi];exact⟨h.1,rT n h.2⟩
def Mj{kS:O}{a':List (List N)}{P:aaY->ge->Prop}(G:î a.prog a.w a.K a.mg a.base Ē b e Ä u (Ĵ a.K Â u.length))(hr:Ú b s)(a4:s.frames=a.A.frames)(hb:ñ a.K Ä u [])(h1:u.length=1)(B:Ê a (δ++[(y,Ul "list" #[] o)]) Ν f d)(hk:f kS=Z (.lst []))(n':kS≠y)(rv:Ë ν E)(q':S a.K f r ν)(im:ß r=L)(D':∀(i:Nat)(w:N),r[i]?=Z w->∃es,a'[i]?=Z es/\Â [w]=Z (.ok (.tup es)))(a8:a'.length=r.length)(a0:fm a'=L)(r':ß (a'.map N.tup)=L)(a7:∀H',H' y=U->tq a δ H' y)(h:∀(s':ge)(H':Hp)(p:Nat->Nat)(c':Array R)(c:Nat),Ê a δ Ν H' s'->H' y=U->(∀g k,g≠kS->f g=Z k->H' g=Z k)->s'.heap.get? y=Z (Ul "list" c' c)->c'.size=E.length->(∀b,b<E.length->c'[b]?=E[p b]?)->(rl E.length).map p=isortB (λi j=>!(λi j=>ú (dw a' i) (dw a' j)) j i) (rl E.length)->(∀b,b<E.length->p b<E.length)->P (.done (.ret .none)) s'):q_ (w_ a.prog a.w) s (ksk_rest y (.ref e) D E.toArray o (.ref kS)) P θ d:=by
 have d':=a0;simp only[fm,pi,decide_eq_true_eq,Uz]at d';have hR:∀m∈a',ù m=ù (a'.headD [])/\xD m=L/\iF (ù m)=L:=λm hr=>⟨(d'.2 m hr).1.1,(d'.2 m hr).1.2,(d'.2 m hr).2⟩;have b2:r.length=E.length:=by have g1:=cZ q';have g2:=rv.length;omega
 have a6:E.length<64:=by omega
 unfold ksk_rest;refine ck (Wx ?_);first|rw[List.forIn_toArray]|(rw[<-XQ];simp only[aa6])|rw[<-XQ]
 refine ck (ksk_fold (λi s'=>∃H' zs,Ê a (δ++[(y,Ul "list" #[] o)]) Ν H' s'/\H' kS=Z (.lst zs)/\(∀g k,g≠kS->f g=Z k->H' g=Z k)/\S a.K H' ((a'.map N.tup).take i) zs) E 0 d ⟨f,[],B,hk,λ_ _ _ v=>v,rfl⟩ ?step ?done);case step=>
  rintro j x s' hx⟨H',zs,I',i',sm,rz⟩;simp only[WU]at rz⊢;have hj:j<E.length:=(B_.mp hx).1;have p':r[j]?=Z (r[j]'(by omega)):=t_ (by omega);obtain⟨es,er,eF⟩:=D' j _ p';have w':ν[j]?=Z (ν[j]'(by have:=rv.length;omega)):=t_ (by have:=rv.length;omega);have b3:j<ν.length:=by have:=rv.length;omega
  have a9:j<r.length:=by omega
  obtain⟨k,eu,ru⟩:=rv.get w';rw[hx]at eu;cases eu;have B':∀g ys,f g=Z (.tup ys)->H' g=Z (.tup ys):=λg ys q=>sm g _ (λz=>by rw[z,hk]at q;cases q) q;have rd:Ð a.K H' r[j] ν[j]:=Ð.tups B' _ _ (lQ im p') (reps_at q' j _ _ p' w');refine ck (VH (Ur (Mi G hr a4 hb I' ru rd h1 eF (θ:=λ_ _=>False)) (λu' s2 he=>?_) λ_ _ z=>z.elim));obtain⟨v',H2,I2,E',l',O'⟩:=he;dsimp only;have o':H2 kS=Z (.lst zs):=l' _ _ i';obtain⟨z,e',n,b',a3,ek⟩:=I2.lstM o';have R':zs.length<=62:=by have:=cZ rz;simp at this;omega
  have x':e'.length<=62:=by have:=b'.length;omega
  refine ck (WD ek rfl ?_ (by simp;exact line64 (by omega)) (by simp;omega));have k':∀g ys,H2 g=Z (.tup ys)->(Û H2 kS (.lst (zs++[v']))) g=Z (.tup ys):=λg ys q=>by rw[aB (λz=>by rw[z,o']at q;cases q)];exact q
  obtain⟨n2,g'⟩:∃n2,(s2.heap.update kS (TQ (·.push u'))).get? kS=Z (Ul "list" (e'.toArray.push u') n2):=⟨_,W0 (c:="list") ek (·.push u')⟩;refine h_ ⟨rfl,Û H2 kS (.lst (zs++[v'])),zs++[v'],?_,au,λg k hb q=>?_,?_⟩
  · refine I2.write (t':=s2.toks) (x:=kS) (e:=kS) (o:=.lst (zs++[v'])) (by rw[o'];trivial) (.inl rfl) (λg k hb q=>?_) ⟨_,g'⟩ ?_;·rw[U7 _ _ _ _ hb];exact q
    ·refine⟨by simp;exact line64 (by omega),e'++[u'],n2,b'.append (.cons E' .nil),?_⟩;simpa[Ul]using g'
  ·rw[aB hb];exact l' _ _ (sm g k hb q)
  · have C':(a'.map N.tup).take (j+1)=(a'.map N.tup).take j++[.tup es]:=by rw[List.take_add_one,J_,er];rfl
    rw[C'];have g1:S a.K (Û H2 kS (.lst (zs++[v']))) ((a'.map N.tup).take j) zs:=S.tups k' _ _ (rT j r') (S.mono l' _ _ rz);have Q':ĝ (.tup es)=L:=lQ r' (n:=j) (by rw[J_,er];rfl);exact g1.append ⟨v',[],rfl,Ð.tups k' _ _ Q' O',rfl⟩
 case done=>
  rintro s'⟨H',zs,I',i',sm,rz⟩;have h':S a.K H' (a'.map N.tup) zs:=by rw[Yi (by simp;omega)]at rz;exact rz
  obtain⟨z,e',n,b',a3,ek⟩:=I'.lstM i';have R':zs.length=E.length:=by have:=cZ h';simp at this;omega
  have x':e'.length=E.length:=by have:=b'.length;omega
  refine ck (WT ek rfl ?_);obtain⟨fs,f1,I⟩:=mL I' (λm U'=>(hR m U').2) h' b';have m':=I'.pin (y,Ul "list" #[] o) (by simp);refine Qo (Γ:=λi j=>ú (dw a' i) (dw a' j)) (o:=n) ek m'.1 n' x' a6 (zN hR) f1 I (λA2 i j x A hA ex ey=>?_) λp c' tk o1 o2 o3 o4=>?_
  · obtain⟨a1,b1,t1,z',q1,q2,q3,q4,q5,q6,q7⟩:=rS I' i x h' b' ex;obtain⟨a2,b0,t2,y',p1,p2,p3,p4,p5,p6,p7⟩:=rS I' j A h' b' ey;have m1:=hR z' (S_ q1);have m2:=hR y' (S_ p1);obtain⟨rs,i1,i2⟩:=pI (A:=A2) (z:=L) I' (by have:=hr.un;omega) (λ_ _ v=>v) (λ_=>m1.2.1) (m1.1.trans m2.1.symm) m1.2.2 q4 p4 q5 p5;refine⟨a1,a2,t1.toArray,t2.toArray,rs,q3,p3,q7,p7,by simpa using i1,?_⟩;have S':t1.toArray.size=t2.toArray.size:=by
     have k1:=q5.length;have k2:=p5.length;have k3:=cZ q4;have k4:=cZ p4;have k5:(ù z').length=(ù y').length:=by rw[m1.1,m2.1]
     simp[ù]at k5;simp;omega
    rw[S',decide_eq_false (UR _),i2,jK q1,jK p1]
  · obtain⟨n2,g'⟩:∃n2,(s'.heap.update kS (TQ λ_=>#[])).get? kS=Z (Ul "list" #[] n2):=⟨_,W0 (c:="list") ek (λ_=>(#[]:Array R))⟩;have W:=I'.write (t':=tk) (h':=s'.heap.update kS (TQ λ_=>#[])) (x:=kS) (e:=kS) (o:=.lst []) (by rw[i'];trivial) (.inl rfl) (λg k hb q=>by rw[U7 _ _ _ _ hb];exact q) ⟨_,g'⟩ ⟨TN _,[],n2,.nil,by simpa[Ul]using g'⟩;have W2:=W.unpinned;have t':Û H' kS (.lst []) y=U:=by rw[aB n'.symm];exact m'.2.1
    have a5:(s'.heap.update kS (TQ λ_=>#[])).get? y=Z (Ul "list" #[] o):=by rw[U7 _ _ _ _ n'.symm];exact m'.1
    obtain⟨g0,g1,g2,g3⟩:=a7 _ t';have T:=W2.turned (t':=tk) (h':=(s'.heap.update kS (TQ λ_=>#[])).update y (TQ λ_=>c')) (it:=y) (λg H hb q=>by rw[U7 _ _ _ _ hb];exact q) g0 g1 g3.1 g3.2.1 g3.2.2;exact h _ _ p c' _ T t' (λg k hb q=>by rw[aB hb];exact sm g k hb q) (W0 a5 λ_=>c') o1 o2 o3 o4
def iN(F:Ó):List N->Option (List (List N))|[]=>Z []|d::r=>match F [d],iN F r with|some (.ok (.tup b)),Z a=>Z (b::a)|_,_=>U
def mN(c:List (List N))(d:List N):List N:=(isortB (λa b=>!ú b.1 a.1) (c.zip d)).map Prod.snd
def jF(F:Ó)(b:List N):Option (Rs N):=match iN F b with|some a=>if fm a=L/\ß b=L/\ß (a.map N.tup)=L then Z (.ok (.lst (mN a b)))else U|none=>U
def wY(F:Ó):Ó|[.lst a]=>jF F a|[.tup a]=>jF F a|_=>U
def kY{F:Ó}:∀{c:List N}{a:List (List N)},iN F c=Z a->a.length=c.length/\∀(i:Nat)(d:N),c[i]?=Z d->∃b,a[i]?=Z b/\F [d]=Z (.ok (.tup b))
 |[],a,h=>by cases h;exact⟨rfl,λi d e=>by simp at e⟩|d::c,a,h=>by
  unfold iN at h;split at h;·rename_i b n g f;cases h;obtain⟨k,j⟩:=kY f;refine⟨by simp[k],λi m e=>?_⟩;cases i with|zero=>simp at e;subst e;exact⟨b,rfl,g⟩|succ i=>exact j i m (by simpa using e)
  ·cases h
def zO{a:List (List N)}(d:a.length=r.length):(isortB (λi j=>!(λi j=>ú (dw a i) (dw a j)) j i) (rl r.length)).map (λi=>r.getD i .non)=mN a r:=by
 have e:(rl r.length).map (λi=>(dw a i,r.getD i .non))=a.zip r:=by
  apply ZS;·simp[d]
  · intro i c f;simp only[N_,Xb]at c;have b:i<a.length:=by omega
    simp only[Xp,List.getElem_range,ab2];rw[jK (t_ b)];simp[Wj,c]
 unfold mN;rw[<-e,<-sort_map (g:=λi j=>!(λi j=>ú (dw a i) (dw a j)) j i) (λi=>(dw a i,r.getD i .non)) _ λx _ y _=>rfl,Uq];rfl
def zP{o:Obj}(a:ε.get? e=Z o):fF [e] ε=[(e,o)]:=by simp[fF,a]
def Ml{A:List (List N)}{P:aaY->ge->Prop}(G:î a.prog a.w a.K a.mg a.base Ē b e Ä u (Ĵ a.K Â u.length))(hr:Ú b s)(o':s.frames=a.A.frames)(hb:ñ a.K Ä u [])(h1:u.length=1)(I:Ê a δ Ν f d)(ho:d.heap.get? y=Z (Ul "list" E.toArray o))(h':f y=U)(a':∀H,H y=U->tq a δ H y)(rv:Ë ν E)(b':S a.K f r ν)(im:ß r=L)(l':∀(i:Nat)(m:N),r[i]?=Z m->∃es,A[i]?=Z es/\Â [m]=Z (.ok (.tup es)))(k':A.length=r.length)(c':fm A=L)(n':ß (A.map N.tup)=L)(h:∀(s':ge)(H:Hp)(p:Nat->Nat)(B:Array R)(c:Nat),Ê a δ Ν H s'->H y=U->Í f H->s'.heap.get? y=Z (Ul "list" B c)->B.size=E.length->(∀b,b<E.length->B[b]?=E[p b]?)->(rl E.length).map p=isortB (λi j=>!(λi j=>ú (dw A i) (dw A j)) j i) (rl E.length)->(∀b,b<E.length->p b<E.length)->P (.done (.ret .none)) s'):q_ (w_ a.prog a.w) s (ksk_tree y (.ref e) D) P θ d:=by
 have i':E.length<64:=by simp only[fm,pi,decide_eq_true_eq]at c';have g1:=cZ b';have g2:=rv.length;omega
 have ha:y<d.heap.objs.size:=s_ ho;obtain⟨g0,g1,g2,g3⟩:=a' _ h';unfold ksk_tree;refine ck (WT ho rfl ?_);refine ck (WD ho rfl ?_ (line64 (by simpa using i')));obtain⟨e1,e'⟩:∃e1,(d.heap.update y (TQ λ_=>(#[]:Array R))).get? y=Z (Ul "list" #[] e1):=⟨_,W0 ho λ_=>#[]⟩;have I1:=I.turned (t':=d.toks) (h':=d.heap.update y (TQ λ_=>(#[]:Array R))) (it:=y) (λg w hb q=>by rw[U7 _ _ _ _ hb];exact q) g0 g1 g3.1 g3.2.1 g3.2.2;refine ck (Zi e' rfl ?_);refine ck (aaw ?_ (line64 (by simpa using i')));refine ck (Xx ?_);refine Uu ?_;have I2:=I1.kept (t':=d.toks) (h':=(d.heap.update y (TQ λ_=>(#[]:Array R))).push (Ul "tuple" E.toArray 0)) λg k q=>i_ _ q;have m':((d.heap.update y (TQ λ_=>(#[]:Array R))).push (Ul "tuple" E.toArray 0)).objs.size=d.heap.objs.size+1:=by rw[XH,V6]
 have fr:f ((d.heap.update y (TQ λ_=>(#[]:Array R))).push (Ul "tuple" E.toArray 0)).objs.size=U:=I2.hok.fresh (o_ _);have I3:=I2.laid (t':=d.toks) (h':=((d.heap.update y (TQ λ_=>(#[]:Array R))).push (Ul "tuple" E.toArray 0)).push (Ul "list" #[] 0)) (o:=.lst []) (λg k q=>i_ _ q) (o_ _) ⟨TN _,[],0,.nil,m_ _ rfl⟩;have d':(((d.heap.update y (TQ λ_=>(#[]:Array R))).push (Ul "tuple" E.toArray 0)).push (Ul "list" #[] 0)).get? y=Z (Ul "list" #[] e1):=i_ _ (i_ _ e');have g':((d.heap.update y (TQ λ_=>(#[]:Array R))).push (Ul "tuple" E.toArray 0)).objs.size≠y:=by rw[m'];exact Wr (TV ha)
 have I4:=I3.pinned (fp:=[y]) (λg hb=>by
 have:g=y:=by simpa using hb
 subst this;exact a' _ (by rw[aB g'.symm];exact h')) (λg hb=>by
 have:g=y:=by simpa using hb
 subst this;exact⟨_,d',λv z=>by cases z⟩);rw[zP d']at I4;refine Mj G hr o' hb h1 I4 au g' rv (S.mono (aC fr _) _ _ b') im l' k' c' n' a' λs' H p B c J ja sm n o1 o2 o3 o4=>h s' H p B c J ja (λg k q=>sm g k (λz=>?_) ?_) n o1 o2 o3 o4;·rw[z,fr]at q;cases q
 ·rw[aB (λz=>by rw[z,fr]at q;cases q)];exact q
def ui{s:ge}{E:R->ge->Prop}{M:WX}{A:x_}{l:O}{a:List R}{o:Obj}{n:Nat}{c:String}{Q:List R->ge->Prop}{d:n_}{w:y_}(i:s.heap.get? l=Z o)(k:o.cls=.type c)(j:o.data=.seq a.toArray n)(m:(l_ c==l_ "list"||l_ c==l_ "tuple")=L)(h:∀f,(∀b o,s.heap.get? b=Z o->f.get? b=Z o)->s.heap.objs.size<f.objs.size->Q a {s with heap:=f})(p:a.length<=sizeLine):q_ (w_ d w) A (abx (.ref l)) Q E s:=by
 unfold abx;refine ck (X3 (UY entry_proto_collect' ?_));show q_ _ _ (do T' (.builtin "list.__iadd__" ⟨[<-abu [],.ref l],[]⟩)) _ _ s;refine ck (Xx (h_ ⟨XG _ (by decide+kernel),UY entry_list_iadd' ?_⟩));show q_ _ _ (V2 (.ref s.heap.objs.size) (.ref l) (.ref s.heap.objs.size)) _ _ {s with heap:=s.heap.push (Ul "list" #[] 0)};unfold V2;have e:(s.heap.push (Ul "list" #[] 0)).get? l=Z o:=i_ _ i;refine ck (Wm (T:=c) ⟨o,e,k⟩ ?_);rw[if_pos (by rw[Bool.or_assoc,m];simp)];refine ck (WT e j ?_);refine ck (WT (xs:=#[]) (n:=0) (m_ _ rfl) rfl ?_);rw[if_neg (by simp)];refine ck (WD (xs:=#[]) (n:=0) (m_ _ rfl) rfl ?_ (TN _) (by simp only[Zo,I_,acd];show 0+a.length<=_;omega));refine h_ ?_;show q_ (w_ d w) A (do
 let o<-load s.heap.objs.size match o.data with|.seq g _=>pure g.toList|_=>aax "internal:collect") Q E {s with heap:=(s.heap.push (Ul "list" #[] 0)).update s.heap.objs.size (TQ (·++a.toArray))};refine ck (wpAny_load (W0 (m_ _ rfl) _) ?_);show q_ _ _ (pure ((#[]:Array R)++a.toArray).toList) Q E _;rw[show((#[]:Array R)++a.toArray).toList=a by simp];refine h_ (h _ (λb r q=>?_) ?_);·have:=s_ q;rw[U7 _ _ _ _ (A_ this),Vh _ _ _ (A_ this)];exact q
 ·rw[V6,XH];exact U6 _
def vH{n:List (List N)}(G:î a.prog a.w a.K a.mg a.base Ē b e Ä u (Ĵ a.K Â u.length))(hr:Ú (b+2) a.A)(hb:ñ a.K Ä u [])(h1:u.length=1)(I:Ê a δ Ν f d)(n':∀Q':List R->ge->Prop,(∀h' tk,(∀c o,d.heap.get? c=Z o->h'.get? c=Z o)->d.heap.objs.size<=h'.objs.size->Q' E {d with heap:=h',toks:=tk})->q_ (w_ a.prog a.w) a.A.in1 (abx (.ref y)) Q' θ d)(rv:Ë ν E)(H:S a.K f r ν)(q':iN Â r=Z n)(k':fm n=L)(im:ß r=L)(p':ß (n.map N.tup)=L)(q:∀(j:O)(c':List V)(s:Hp),Í f s->s j=Z (.lst c')->S a.K s (mN n r) c'->Æ (.ref j) s):q_ (w_ a.prog a.w) a.A (call (.builtin "sorted") [.ref y] [(b_ "key",.ref e)]) (EP a δ Ν Æ) θ d:=by
 obtain⟨A,m'⟩:=kY q';have v':r.length=ν.length:=cZ H;have g':ν.length=E.length:=rv.length;have t':E.length<64:=by simp only[fm,pi,decide_eq_true_eq]at k';omega
 refine call_function_entry_kw aca abJ abK (ksk_s1 _ _) ?_;unfold U9.«sorted»;refine ck (m:=checkCount "sorted" 1 1 _) (h_ ?_);refine ck (n' _ λm d' up gr=>?_);refine ck (Xx ?_ (line64 t'));have I1:=I.kept (t':=d') (h':=m.push (Ul "list" E.toArray 0)) λc g z=>i_ _ (up c g z);have l':(m.push (Ul "list" E.toArray 0)).get? m.objs.size=Z (Ul "list" E.toArray 0):=m_ _ rfl;have r':f m.objs.size=U:=I.hok.fresh (gr);have a':∀s,s m.objs.size=U->tq a δ s m.objs.size:=λs hn=>I.fpOk (gr) hn;refine ck (Uu (wpAny_call_entry_kw aaL ⟨_,l',rfl⟩ aah ?body (ksk_l1 _ _)));case body=>
 show q_ (w_ a.prog a.w) a.A.in1.in1 (U9.«list.sort» ⟨[.ref m.objs.size],[(b_ "key",.ref e)]⟩) _ _ _;rw[ksk_t1];refine Ml (d:={d with heap:=m.push (Ul "list" E.toArray 0),toks:=d'}) G (hr.in1.in1) rfl hb h1 I1 l' r' a' rv H im m' A k' p' λs' s p w cc J ja sm h o1 o2 o3 o4=>⟨_,rfl,?_⟩;refine h_ ⟨_,rfl,?_⟩;obtain⟨g0,g1,g2,g3,g4,g5⟩:=a' _ ja;have J2:=J.pinned (fp:=[m.objs.size]) (λc P=>by
  have:c=m.objs.size:=by simpa using P
  subst this;exact a' _ ja) (λc P=>by
  have:c=m.objs.size:=by simpa using P
  subst this;exact⟨_,h,λv z=>by cases z⟩);rw[zP h]at J2;have hV:Ë ((rl E.length).map λb=>ν.getD (p b) .non) w.toList:=by
  refine oJ (by simp[o1]) λi v g B eu=>?_;have hi:i<E.length:=by have:=(B_.mp eu).1;simp[o1]at this;omega
  have b':w[i]?=Z g:=by simpa using eu
  rw[o2 i hi]at b';rw[J_,VZ hi]at B;simp only[VW,Wq]at B;have hp:p i<ν.length:=by rw[g'];exact o4 i hi
  have e1:ν[p i]?=Z v:=by rw[t_ hp,<-B];simp[Wj,hp]
  obtain⟨u',e2,r2⟩:=rv.get e1;rw[e2]at b';cases b';exact r2
 have hR:S a.K s (mN n r) ((rl E.length).map λb=>ν.getD (p b) .non):=by
  have hn:E.length=r.length:=by omega
  rw[<-zO A,<-hn,<-o3,Uq];refine oH (by simp) λi k v ed B=>?_;have hi:i<E.length:=by have:=(B_.mp ed).1;simpa using this
  rw[J_,VZ hi]at ed B;simp only[VW,Wq,Xz]at ed B;have hp:p i<ν.length:=by rw[g'];exact o4 i hi
  have i':p i<r.length:=by omega
  refine reps_at (S.mono sm _ _ H) (p i) k v ?_ ?_;·rw[t_ i',<-ed];simp[Wj,i']
  ·rw[t_ hp,<-B];simp[Wj,hp]
 have e':(m.objs.size,Ul "list" w cc)=(m.objs.size,GX w.toList cc):=by simp[Ul,GX]
 rw[e']at J2;obtain⟨w',J3⟩:=Ê.retrack J2 hV (line64 (by simp;omega)) (λo' z=>by
  exfalso;rcases g3 with g3|g3;·exact absurd (I.ok) (λ_=>by have:=YC (h:=a.s₀.heap) (a:=m.objs.size) (TX I.sz (gr));rw[this]at z;cases z)
  ·have:=YC (h:=a.s₀.heap) (a:=m.objs.size) g3;rw[this]at z;cases z) g5;refine⟨.ref m.objs.size,_,J3,rfl,q _ _ _ (λc g z=>?_) au (S.mono (aC ja _) _ _ hR)⟩;exact aC ja _ c g (sm c g z)
def C2{g:Obj}{c:String}{i:List (List N)}(G:î a.prog a.w a.K a.mg a.base Ē b e Ä u (Ĵ a.K Â u.length))(A:Ú (b+2) a.A)(hb:ñ a.K Ä u [])(h1:u.length=1)(I:Ê a δ Ν f d)(B:d.heap.get? y=Z g)(P:g.cls=.type c)(H:g.data=.seq E.toArray o)(h2:(l_ c==l_ "list"||l_ c==l_ "tuple")=L)(v:Ë ν E)(k:S a.K f r ν)(n:iN Â r=Z i)(m:fm i=L)(z:ß r=L)(s:ß (i.map N.tup)=L)(q:∀(h:O)(j:List V)(p:Hp),Í f p->p h=Z (.lst j)->S a.K p (mN i r) j->Æ (.ref h) p):q_ (w_ a.prog a.w) a.A (call (.builtin "sorted") [.ref y] [(b_ "key",.ref e)]) (EP a δ Ν Æ) θ d:=vH G A hb h1 I (λQ' hQ=>ui (M:=w_ a.prog a.w) B P H h2 (λh' w gr=>hQ h' d.toks w (WV gr)) (line64 (by obtain⟨g1,_⟩:=kY n;have g2:=cZ k;have g3:=v.length;simp only[fm,pi,decide_eq_true_eq]at m;omega))) v k n m z s q
def C3{m:Pos}(e:Nat)(ps:List Str)(F:Ó)(h:F' a.prog a.w a.K a.mg a.base c e ps F)(hr:Ú b a.A)(hk:e+2<=b)(h1:ps.length=1)(hg:Gl a "sorted")(hm:a.mg "sorted"=U)(i':Gl a c)(ha:FA a [g] ξ)(l':(c==("__debug__":Str))=D:=by lk)(he:TF m (k_ [g] a.env)=(D,eval g a.env)::TF m (k_ [] a.env):=by lk)(w:(TF m (k_ [g] a.env)).any (·.1)=D:=by lk)(b':(Va m (Us [⟨Z "key",.Name c z,Λ⟩] a.env)).all (·.1.isSome)=L:=by lk)(h':(Va m (Us [⟨Z "key",.Name c z,Λ⟩] a.env)).any (·.1.isNone)=D:=by lk)(e':(Va m (Us [⟨Z "key",.Name c z,Λ⟩] a.env)).filterMap (·.1)=[b_ "key"]:=by lk):FE a (.Call (.Name "sorted" k) [g] [⟨Z "key",.Name c z,Λ⟩] m) (Ý (wY F) ξ):=⟨λf' s σ H Q I⟨ρ,E,o⟩=>by
 obtain⟨f,fd,G,g',n',hb⟩:=h;refine UV (gF I hg hm (ψ:=.builtin "sorted") (by decide+kernel) ?_ (by decide) (by decide));refine callWith_kw (á (ha.h m f' s σ H _ I ⟨ρ,E,ç.bind o λds vs H1 e1 rs A=>(show∃ds,S a.K H1 ds vs/\ê a H1 (wY F ds) Q from⟨ds,rs,A⟩)⟩) λus s1⟨vs,H1,I1,r1,ds,rs,A⟩=>?_) he w b' h';refine kws_cons (mi I1 i' g' (kws_nil ?_) l');rw[e'];show q_ _ _ (call (.builtin "sorted") us [(b_ "key",.ref f)]) _ _ s1;unfold wY at A;have a':∀(l:O)(y:List V)(B:List N)(ob:Obj)(n:Nat)(d:String)(p:List R),s1.heap.get? l=Z ob->ob.cls=.type d->ob.data=.seq p.toArray n->(l_ d==l_ "list"||l_ d==l_ "tuple")=L->Ë y p->S a.K H1 B y->ê a H1 (jF F B) Q->q_ (w_ a.prog a.w) a.A (call (.builtin "sorted") [.ref l] [(b_ "key",.ref f)]) (EP a f' σ Q) a.xe s1:=by
  intro l y B ob n d p q1 q2 q3 q4 rv rx o2;unfold jF at o2;split at o2
  · rename_i m' P;split at o2;·rename_i q;exact C2 G (hr.mono hk) hb h1 I1 q1 q2 q3 q4 rv rx P q.1 q.2.1 q.2.2 λi c' H' sm hL d'=>o2 _ _ sm ⟨i,c',rfl,hL,d'⟩
    ·exact o2.elim
  ·exact o2.elim
 split at A;·rename_i B;obtain⟨v,rfl,r⟩:=dt rs;obtain⟨l,y,rfl,hl,rx⟩:=r.lstE;obtain⟨u,rfl,ru⟩:=fq r1;cases(show u=z_ l from ru);obtain⟨j,p,n,rv,hz,eh⟩:=I1.lstM hl;exact a' l y B _ n "list" p eh rfl rfl rfl rv rx A
 ·rename_i B;obtain⟨v,rfl,r⟩:=dt rs;obtain⟨l,y,rfl,hl,rx⟩:=r.tupE;obtain⟨u,rfl,ru⟩:=fq r1;cases(show u=z_ l from ru);obtain⟨p,rv,⟨ob,q1,q2,n,q3⟩,hz⟩:=I1.tuple (ð.of hl);exact a' l y B ob n "tuple" p q1 q2 q3 rfl rv rx A
 ·exact A.elim⟩
end FD
namespace TS
open L2 FD
def okF(a:List Nat):Bool:=a.all λk=>k !=0&&uk (k<4)
end TS
namespace FD
open L2 TS
def av(X:C)(N:List Str)(b:VD)(a:O)(s:ge)(H:Hp)(c:List O):C:={X with N:=N,s₀:=s,H₀:=H,env:=compEnvC b (UL (a+1) b.names (lL b.names X.env [])) a X.env,outer:=X.stack,stack:=X.stack,ex:=c,fn:=λy=>b.names.lookup y==Z .cell,pn:=[],xe:=λ_ _=>False}
structure iO(osc scope:VD)(cs:List (Str×Nat))(N:List Str):Prop where
 kind:scope.kind=.function
 one:∀y∈scope.names,y.2=.cell->scope.names.lookup y.1=Z .cell
 names:∀y∈scope.names,y.2=.local->scope.names.lookup y.1=Z .local
 free:∀y∈scope.names,y.2=.free->osc.names.lookup y.1=Z .cell\/osc.names.lookup y.1=Z .free
 caps:∀c∈cs,N[c.2]?=Z c.1/\scope.names.lookup c.1=Z .free
def kh:∀(b:List (Str×WM))(lo:Nat)(a:List (Str×O)),UL lo b a=UL lo b []++a
 |[],_,_=>rfl|(n,k)::r,lo,a=>by
  unfold UL;split;·rw[kh r (lo+1) ((n,lo)::a),kh r (lo+1) [(n,lo)],VT];rfl
  ·exact kh r lo a
def zQ:∀{a:List (Str×WM)}{lo:Nat}{n:Str}{c:O},(n,c)∈UL lo a []->(n,VM)∈a
 |[],_,_,_,h=>(nomatch h)|(m,k)::r,lo,n,c,h=>by
  unfold UL at h;split at h
  · rename_i b;rw[kh]at h;rcases Ue.mp h with q|q;·exact r_ _ (zQ q)
    · have e:n=m:=by simp at q;exact q.1
      have ek:k=.cell:=by simpa using b
      subst e ek;exact on
  ·exact r_ _ (zQ h)
def vI:∀{a:List (Str×WM)}{lo:Nat}{n:Str},(n,VM)∈a->((UL lo a []).lookup n).isSome=L
 |[],_,_,h=>(nomatch h)|(m,k)::r,lo,n,h=>by
  unfold UL;rcases v_.mp h with e|q;·cases e;rw[if_pos (by decide),kh,WW];cases b:(UL (lo+1) r []).lookup m with|some _=>rfl|none=>simp
  · split;·rw[kh,WW];have:=vI (lo:=lo+1) q;cases b:(UL (lo+1) r []).lookup n with|some _=>rfl|none=>rw[b]at this;cases this
    ·exact vI q
def HC{h:List (Str×O)}{a:Env}{Q:Env->ge->Prop}(k:τ.kind=.function)(j:Q (newEnv τ d.heap.objs.size e (UL (d.heap.objs.size+1) τ.names h) c U .none (Z a) abh) {d with heap:=pushCells (d.heap.push {cls:=.type "dict",data:=.dict #[]}) τ.names}):q_ Å s (X4 τ e h [] c U .none (Z a)) Q θ d:=by simp only[X4,abl,if_true];refine ck (wpAny_alloc ?_);refine ck (wpAny_layCells _ (λi b g=>by cases f:b==VM<;>simp[f]) _ _ _ _ ?_);rw[show({d with heap:=d.heap.push {cls:=.type "dict",data:=.dict #[]}}:ge).heap.objs.size=d.heap.objs.size+1 from L_ ..];refine ck ?_;rw[Yj];exact h_ (h_ j)
def zR{B:List (Str×Nat)}(ok:iO a.env.scope τ B a.N)(I:Ê a δ Ν f d)(H:∀h∈ω,tq a δ f h)(k':∀h∈ω,h<d.heap.objs.size)(hC:d.heap.objs.size<=e)(o':ε.Ns e λ_=>U)(E:∀h o,d.heap.get? h=Z o->ε.get? h=Z o)(d':CellsOk ε (e+1) (UL (e+1) τ.names [])):Ê (av a (u++B.map (·.1)) τ e d f ω) [] (q9 u.length B Ν) f {d with heap:=ε,toks:=b}:=by
 have w:∀n c,(lL τ.names a.env []).lookup n=Z c->a.env.cells.lookup n=Z c:=λn c g=>by
  rcases oo _ _ g with q|⟨q1,q2⟩;·simp at q
  ·obtain⟨c',e'⟩:=I.ok.has n (ok.free _ q1 rfl);rw[e']at q2;rw[e',q2]<;>rfl
 have lk:∀n c,(av a (u++B.map (·.1)) τ e d f ω).env.cells.lookup n=Z c->(n,c)∈UL (e+1) τ.names []\/((n,VM)∉τ.names/\(lL τ.names a.env []).lookup n=Z c):=λn c g=>by have e':(UL (e+1) τ.names (lL τ.names a.env [])).lookup n=Z c:=g;rw[kh,WW]at e';cases P:(UL (e+1) τ.names []).lookup n with|some c'=>rw[P]at e';cases e';exact .inl (mem_of_lookup P)|none=>rw[P]at e';refine .inr ⟨λA=>?_,e'⟩;have:=vI (lo:=e+1) A;rw[P]at this;cases this
 have i':∀n c,(n,VM)∉τ.names->(lL τ.names a.env []).lookup n=Z c->(av a (u++B.map (·.1)) τ e d f ω).env.cells.lookup n=Z c:=λn c A g=>by show(UL (e+1) τ.names (lL τ.names a.env [])).lookup n=Z c;rw[kh,WW];cases P:(UL (e+1) τ.names []).lookup n with|some c'=>exact absurd (zQ (mem_of_lookup P)) A|none=>exact g
 have big:∀n c,(n,c)∈UL (e+1) τ.names []->d.heap.objs.size<c:=λn c A=>TB (Nat.lt_succ_of_le hC) (d'.empty n c A).2;have h':∀n c,(lL τ.names a.env []).lookup n=Z c->c<d.heap.objs.size:=λn c g=>by obtain⟨v,o,ho,_⟩:=I.cell n c (w n c g);exact s_ ho
 have inj:∀y z c,(av a (u++B.map (·.1)) τ e d f ω).env.cells.lookup y=Z c->(av a (u++B.map (·.1)) τ e d f ω).env.cells.lookup z=Z c->y=z:=λy z c e1 e2=>by
  rcases lk y c e1 with p|⟨_,p⟩<;>rcases lk z c e2 with q|⟨_,q⟩;·exact name_of_addr d'.apart p q
  ·exact absurd (YT (big y c p) (h' z c q)) (UR _)
  ·exact absurd (YT (big z c q) (h' y c p)) (UR _)
  ·exact I.ok.inj y z c (w y c p) (w z c q)
 refine⟨⟨I.ok.mod,ok.kind,I.ok.glob,I.ok.blt,hC,inj,λy hy=>?_,λy c p' g=>?_,I.ok.hd,I.ok.frames,.inl rfl,λh hb=>⟨λz=>?_,λy c g=>?_⟩,I.bs,TX I.ok.bsz I.sz,λh o g hb=>?_,λh hb z=>?_,I.stack,I.stkFree⟩,rfl,I.bare,Un.kept E,⟨_,o',λi y v h1 h2 h3=>?_⟩,λy c g=>?_,I.hok.fresh hC,λy c g=>?_,λp hp=>absurd (show p∈([]:List (O×Obj))from hp) (by simp),I.hok.kept E,by simp[q9,av]⟩
 · have A:(y,VM)∈τ.names\/(y,Vu)∈τ.names:=by
    rcases hy with hy|hy
    · rcases lu hy with q|⟨_,q⟩;·exact .inl q
      ·exact .inr q
    · rcases lu hy with q|⟨q,_⟩;·exact .inr q
      ·cases q
   by_cases b':(y,VM)∈τ.names;·obtain⟨c,g'⟩:=WE.mp (vI (lo:=e+1) b');refine⟨c,?_⟩;show(UL (e+1) τ.names (lL τ.names a.env [])).lookup y=Z c;rw[kh,WW,g'];rfl
   ·obtain⟨c,g'⟩:=WE.mp (pk (c:=a.env) τ.names [] (A.resolve_left b'));exact⟨c,i' y c b' g'⟩
 · have n':τ.names.lookup y=Z .cell:=by simpa[av]using p'
   rcases lk y c g with p|⟨p,_⟩;·exact WV (big y c p)
   ·exact absurd (gG n') p
 ·have:=k' h hb;rw[z]at this;exact absurd (TB this hC) (UR _)
 · rcases lk y c g with p|⟨_,p⟩;·exactλz=>absurd (YT (big y c p) (z▸k' h hb)) (UR _)
   ·exact(H h hb).2.2.2.2.1 y c (w y c p)
 · rcases(H h hb).2.2.2.1 with z|z;·exact I.ok.noex h o g z
   ·exact absurd (TB (s_ g) (TX I.ok.bsz z)) (UR _)
 · rcases v_.mp (I.stkSub h z)with q|q;·exact(H h hb).2.1 q
   ·exact(H h hb).2.2.1 q
 ·obtain⟨k,rfl,h4⟩:=rf h2;have s:(u++B.map (·.1))[u.length+k]?=Z y:=h1;rw[P_ (by simp)]at s;simp only[ZO]at s;rw[J_]at s;cases hc:B[k]? with|none=>rw[hc]at s;simp at s|some c=>
    rw[hc]at s;have ey:c.1=y:=by simpa using s
    subst ey;rw[J_,hc]at h4;simp only[VW,Wq]at h4;have q':Ν[c.2]?=Z (Z v):=by cases q:Ν[c.2]? with|none=>rw[q]at h4;simp at h4|some o=>rw[q]at h4;simp at h4;rw[h4]
    obtain⟨hN,hf⟩:=ok.caps c (S_ hc);have hv:=ok.free _ (gG hf) rfl;obtain⟨mm,_,P⟩:=I.loc;obtain⟨j,r,l⟩:=P c.2 c.1 v hN q' (.inr hv);refine⟨j,r,.inr ⟨lz hf,?_⟩⟩;rcases l with⟨l,_⟩|⟨_,m,ha,o,ho,hd⟩
    · have l':a.env.scope.names.lookup c.1=Z .local:=l;rcases hv with z|z;·rw[l']at z;cases z
      ·rw[l']at z;cases z
    ·obtain⟨a',m'⟩:=WE.mp (pk (c:=a.env) τ.names [] (gG hf));have e2:=w _ _ m';rw[ha]at e2;cases e2;exact⟨m,i' _ _ (λA=>by have z:=ok.one _ A rfl;rw[hf]at z;cases z) m',o,E _ _ ho,hd⟩
 · rcases lk y c g with p|⟨_,p⟩;·exact⟨U,(d'.empty y c p).1⟩
   ·obtain⟨v,o,ho,hd⟩:=I.cell y c (w y c p);exact⟨v,o,E _ _ ho,hd⟩
 · rcases lk y c g with p|⟨_,p⟩;·exact I.hok.fresh (WV (big y c p))
   ·exact I.freeC y c (w y c p)
def Qp(X:C)(Y:C)(a:O)(j:List O)(h:Nat->O_->Prop)(n:Nat)(k:Nat->List V->L2.St->Hp->Prop)(m:Nat)(f:ge):Prop:=∃i c e g d,m=n-i/\i<=n/\Ê Y [] c e f/\k i g c e/\h i f.heap/\(∀b∈j,e b=U)/\e a=U/\LAt f.heap a d/\Ë g d
def wZ{n':u_}{scope:VD}(cs:List (Str×Nat))(ok:iO a.env.scope scope cs a.N)(hc:a.calm=L){s2:ge}{it:O}{fp:List O}{tn:Nat->O_->Prop}{J:It}{H2:Hp}(I2:Ê a δ Ν H2 s2)(T:xR a.prog a.w a.K g J fp it tn)(p':tn 0 s2.heap)(I:∀b∈fp,tq a δ H2 b)(n:Nat)(Iv:Nat->List V->L2.St->Hp->Prop)(a2:∀i vs Ν H,Iv i vs Ν H->vs.length<=100000)(h0:Iv 0 [] (q9 u.length cs Ν) H2)(a3:∀vs P H5,Iv n vs P H5->J.stop n H5)(b6:∀i vs P H5,i<n->Iv i vs P H5->J.go i H5)(x':∀j i vs P H5 x H7,i<n->Iv i vs P H5->J.yld i H5 x H7->∀(Y:C),Y=av a (u++cs.map (·.1)) scope j s2 H2 fp->∀δ s7 f,Ê Y δ P H7 s7->Ô x f->q_ (w_ a.prog a.w) a.A (WK g Y.env f) (λ_ s8=>q_ (w_ a.prog a.w) a.A (G' A L λc r=>if r=L then do let ok<-isTrue c Y.env (eval c Y.env);pure (W4 ok)else pure (W4 r)) (λok s9=>if ok=L then q_ (w_ a.prog a.w) a.A (eval w Y.env) (λm h'=>∃yv b' g',Ê Y δ b' g' h'/\Ô yv m/\Iv (i+1) (vs++[yv]) b' g') (λ_ _=>False) s9 else∃b' H9,Ê Y δ b' H9 s9/\Iv (i+1) vs b' H9) (λ_ _=>False) s8) (λ_ _=>False) s7){RR:R->O->Zs->ge->Prop}(b8:∀(d j:O)(s6:ge)(H5:Hp)(b':L2.St)(vs:List V)(m6:Str->Option R),Ê a δ Ν (Û H5 d (.lst vs)) s6->H5 d=U->Iv n vs b' H5->s6.heap.Ns j m6->H5 j=U->j≠d->s2.heap.objs.size<=j->RR (.ref d) j (.ok .next) s6):q_ (w_ a.prog a.w) a.A (abu []) (λE' S'=>q_ (w_ a.prog a.w) a.A (X4 scope a.env.globals (lL scope.names a.env []) [] a.env.qual U .none (Z a.env)) (λo' R'=>WH (w_ a.prog a.w) a.A (.compStart (.ListComp w [⟨g,n',A,0⟩] scope k) 0 (.ref it) E' {o' with scope:=acf scope a.env}) (RR E' o'.locals) R') a.xe S') a.xe s2:=by
 have i':∀b∈fp,b<s2.heap.objs.size:=λb E=>by obtain⟨o,ho,_⟩:=T.obj _ _ p' b E;exact s_ ho
 refine TJ (HC ok.kind ?_);dsimp only;generalize t':s2.heap.push {cls:=.type "list",dict:=U,data:=.seq ([]:List R).toArray}=P2;obtain⟨d,hD⟩:∃d,s2.heap.objs.size=d:=⟨_,rfl⟩;have hC:P2.objs.size=d+1:=by rw[<-t',L_,hD]
 rw[hC,hD];obtain⟨a',c'⟩:∃h,h=pushCells (P2.push {cls:=.type "dict",data:=.dict #[]}) scope.names:=⟨_,rfl⟩;rw[<-c'];have kp:∀b o,P2.get? b=Z o->a'.get? b=Z o:=λb o e=>by rw[c'];exact pushCells_keeps _ _ b o (i_ _ e)
 have r':∀b o,s2.heap.get? b=Z o->a'.get? b=Z o:=λb o e=>kp b o (t'▸i_ _ e);have a4:LAt a' d []:=⟨0,kp _ _ (by rw[<-t',<-hD];exact m_ _ rfl)⟩;have b4:a'.Ns (d+1) λ_=>U:=by rw[c',<-hC];exact(Heap.Ns.new P2 (.type "dict")).keeps (pushCells_keeps _ _)
 have b7:CellsOk a' (d+1+1) (UL (d+1+1) scope.names []):=by have q:=cellsFrom_ok scope.names (P2.push {cls:=.type "dict",data:=.dict #[]}) (d+1+1) [] ⟨λ_ _ hm=>(nomatch hm),Zm⟩ (by rw[L_,hC];exact o_ _);rw[L_,hC,<-c']at q;exact q
 have I4:Ê (av a (u++cs.map (·.1)) scope (d+1) s2 H2 fp) [] (q9 u.length cs Ν) H2 {s2 with heap:=a'}:=zR (b:=s2.toks) ok I2 I i' (by rw[hD];exact VR d) b4 r' b7;have HD:H2 d=U:=I2.hok.fresh (Yh hD);have v':∀b∈fp,b≠d:=λb E=>Gz (hD▸i' b E);obtain⟨Y,hY⟩:∃Y,Y=av a (u++cs.map (·.1)) scope (d+1) s2 H2 fp:=⟨_,rfl⟩;have yE:compEnvC scope (UL (d+1+1) scope.names (lL scope.names a.env [])) (d+1) a.env=Y.env:=by rw[hY];rfl
 have yP:Y.prog=a.prog/\Y.w=a.w/\Y.K=a.K/\Y.calm=a.calm/\Y.env.locals=d+1/\Y.pn=[]/\Y.ex=fp/\Y.fs=L2.frs a.stack/\Y.A=a.A/\Y.s₀=s2:=by rw[hY];exact⟨rfl,rfl,rfl,rfl,rfl,rfl,rfl,rfl,rfl,rfl⟩
 rw[<-hY]at I4;have yB:∀{b' H' s'},Ê Y [] b' H' s'->Un (L2.frs a.stack) fp H2 H' s2.heap s'.heap:=λB=>by rw[hY]at B;exact B.base
 obtain⟨y1,y2,y3,y4,y5,y6,y7,y8,y9,y0⟩:=yP;have m':∀s4:ge,s4={s2 with heap:=a'}->WH (w_ a.prog a.w) a.A (.compLoop (.ListComp w [⟨g,n',A,0⟩] scope k) 0 (.ref it) (.ref d) (compEnvC scope (UL (d+1+1) scope.names (lL scope.names a.env [])) (d+1) a.env)) (RR (.ref d) (d+1)) s4:=by
  rintro s4 rfl;rw[yE];refine rg (λs s'=>Qp a Y d fp tn n Iv s s') ?_ n ⟨0,q9 u.length cs Ν,H2,[],[],by simp,TN _,I4,h0,T.keep _ _ _ p' λb E o e=>r' b o e,λb E=>(I b E).1,HD,a4,.nil⟩;rintro k0 s5⟨i,P,H5,vs,e',rfl,d0,I5,v0,t5,C',D5,l5,v5⟩;have nC:∀b∈fp,b≠Y.env.locals:=λb E=>by rw[y5];exact K9 (hD▸i' b E)
  have DL:d≠Y.env.locals:=by rw[y5];exact RL
  have O':d∈Y.ex\/Y.s₀.heap.objs.size<=d:=.inr (by rw[y0];exact Yh hD);have k':∀y c,Y.env.cells.lookup y=Z c->c≠d:=λy c e z=>by obtain⟨v,o,ho,hd⟩:=I5.cell y c e;obtain⟨n,q⟩:=l5;subst z;rw[q]at ho;cases ho;cases hd
  have c5:d∉Y.fs:=λz=>by
   rw[y8]at z;rcases v_.mp (I2.stkSub d z)with q|q;·have z2:=I2.lt;rw[hD]at z2;exact Gz z2 q.symm
   ·exact I2.nofs (Yh hD) q
  have Dp:tq Y [] H5 d:=⟨D5,DL,c5,O',k',λp hp=>absurd (show p∈([]:List (O×Obj))by rw[y6]at hp;exact hp) (by simp)⟩;have c4:∀b∈[d],∃o,s5.heap.get? b=Z o/\∀v,o.data≠.cell v:=λb E=>by cases Ua.mp E;obtain⟨n,q⟩:=l5;exact⟨_,q,λv z=>by cases z⟩
  have I':Ê Y (fF [d] s5.heap) P H5 s5:=I5.pinned (fp:=[d]) (λb E=>by cases Ua.mp E;exact Dp) c4;have b1:∀b∈fp,∀p∈Y.pn++fF [d] s5.heap,p.1≠b:=λb E p hp z=>by rw[y6]at hp;exact v' b E (z.symm.trans (Ua.mp (mj hp).1))
  have u':∀{H'},(∀b∈fp,H' b=U)->∀b∈fp,tq Y (fF [d] s5.heap) H' b:=λq b E=>⟨q b E,nC b E,I4.ok.exfs b (by rw[y7];exact E),.inl (by rw[y7];exact E),(I4.ok.exf b (by rw[y7];exact E)).2,b1 b E⟩;have a1:=a2 _ _ _ _ v0;have c6:vs.length=e'.length:=v5.length;by_cases l':i<n
  · have A':=T.item Y y1 y2 y3 (y4.trans hc) i (fF [d] s5.heap) s5 P H5;rw[y9]at A';refine á (A' _ I' (u' C') t5 (b6 i vs P H5 l' v0)) λr s6⟨f,hr,h6⟩=>?_;subst hr;refine á h6 λ_ s7⟨xv,H7,I7,r7,a7,t7,c1⟩=>?_;have c2:=I7.pinned (fp:=fp) (u' c1) (T.obj _ _ t7);have D':∀{d':L2.St}{H8:Hp}{s8:ge},Ê Y (fF [d] s5.heap++fF fp s7.heap) d' H8 s8->tn (i+1) s8.heap/\(∀b∈fp,H8 b=U)/\H8 d=U/\LAt s8.heap d e':=λ{d' H8 s8}I8=>by obtain⟨n,q⟩:=l5;have qD:=I8.pin (d,_) (p_ _ (TH _ (dR (by simp) q)));refine⟨T.keep _ _ _ t7 λb E o e=>(I8.pin (b,o) (p_ _ (p_ _ (dR E e)))).1,λb E=>?_,qD.2.1,n,qD.1⟩;obtain⟨o,e,_⟩:=T.obj _ _ t7 b E;exact(I8.pin (b,o) (p_ _ (p_ _ (dR E e)))).2.1
    refine Ur (x' (d+1) i vs P H5 xv H7 l' v0 a7 Y hY _ s7 f c2 r7) (λ_ s8 h8=>Ur h8 (λs s9 h9=>?_) λ_ _ z=>UK z) λ_ _ z=>UK z;cases s with|true=>
     rw[if_pos rfl]at h9⊢;refine Ur h9 (λm h'⟨yv,d',g',w',U',a8⟩=>?_) λ_ _ z=>UK z;obtain⟨a9,a5,Q',b3⟩:=D' w';refine wN b3 (by omega) λb9 b2 y'=>?_;have a6:Ê Y (fF fp s7.heap) d' g' h':=w'.pins_of λp hp=>w'.pin p (p_ _ (p_ _ hp));have c3:Ê Y (fF fp s7.heap) d' g' {h' with heap:=b9}:=a6.turned (t':=h'.toks) y' Q' DL O' k' λp hp z=>by rw[y6]at hp;exact v' p.1 (mj hp).1 z
     exact⟨n-(i+1),by omega,i+1,d',g',vs++[yv],e'++[m],rfl,l',c3.pins_of λp hp=>(nomatch hp),a8,T.keep _ _ _ a9 λb E o e=>y' b o (v' b E) e,a5,Q',b2,v5.append (.cons U' .nil)⟩|false=>rw[if_neg D_]at h9⊢;obtain⟨d',H9,I9,v9⟩:=h9;obtain⟨t9,c0,D9,l9⟩:=D' I9;exact⟨n-(i+1),by omega,i+1,d',H9,vs,e',rfl,l',I9.pins_of λp hp=>(nomatch hp),v9,t9,c0,D9,l9,v5⟩
  · have b5:i=n:=by omega
    subst b5;have B':=T.done Y y1 y2 y3 (y4.trans hc) i (fF [d] s5.heap) s5 P H5;rw[y9]at B';refine á (B' _ I' (u' C') t5 (a3 vs P H5 v0)) λr s6⟨hr,I6⟩=>?_;subst hr;have l6:LAt s6.heap d e':=by obtain⟨n,q⟩:=l5;exact⟨n,(I6.pin (d,_) (p_ _ (dR (by simp) q))).1⟩
    obtain⟨m6,n6,_⟩:=I6.loc;have C6:H5 (d+1)=U:=y5▸I6.free;rw[y5]at n6;have b0:â a.prog a.w (Û H5 d (.lst vs)) s6.heap d (.lst vs):=by obtain⟨n,q⟩:=l6;exact⟨bX a1,e',n,v5,q⟩
    have u6:=yB (I6.pins_of λp hp=>(nomatch hp));have nD:∀b o,s2.heap.get? b=Z o->b≠d:=λb o e=>by
     have E:b<d:=by rw[<-hD];exact s_ e
     exact Gz E
    have u7:Un (L2.frs a.stack) fp H2 (Û H5 d (.lst vs)) s2.heap s6.heap:=⟨u6.keep,u6.slot,λb o e n hx=>by rw[aB (nD b o e)];exact u6.free b o e n hx,u6.there,λb xs q=>by have q':=u6.tups b xs q;rw[aB (aE q' D5)];exact q',λb o f q=>by have q':=u6.frzs b o f q;rw[aB (aE q' D5)];exact q',λb ps q=>by obtain⟨a0,q'⟩:=u6.tbls b ps q;exact⟨a0,by rw[aB (aE q' D5)];exact q'⟩⟩;have z':=I6.hok;rw[y1,y2]at z';have I7:Ê a δ Ν (Û H5 d (.lst vs)) s6:=I2.call' (s':=s6) (ch:=fp) (by have:=I6.os;rw[y0]at this;exact this) u7 (Č.add z' D5 C6 (λb f _ q=>q) b0) I6.bare λb E=>⟨(I b E).2.2.2.1,(I b E).2.1,(I b E).2.2.2.2.1,(I b E).2.2.2.2.2⟩;exact b8 d (d+1) s6 H5 P vs m6 I7 D5 v0 n6 C6 (VB RL) (by rw[hD];exact VR d)
 exact codeAny_compStart_list (m' _ rfl) (T.self _ 0 _ _ _ (T.keep _ _ _ p' λb E o e=>r' b o e) (m' _ rfl))
def w4{A':u_}{scope:VD}{d':Option å}{b:N->Ev->Option Ev}{js:List Nat}(p:List (Str×Nat))(ok:iO a.env.scope scope p a.N)(hc:a.calm=L)(O':∀f s H fp,FG (av a (u++p.map (·.1)) scope f s H fp) g b)(P0:Hp->V->Prop)(C':∀f s H fp,(∃δ Ν,Ê a δ Ν H s)->∀(δ:List (O×Obj))(s9:ge)(a':L2.St)(H9:Hp)(ρ:Ev)(y:N),Ê (av a (u++p.map (·.1)) scope f s H fp) δ a' H9 s9->Ø a.K H9 a' ρ->Í H H9->B ρ=Z (.ok y)->q_ (w_ a.prog a.w) a.A (eval w (av a (u++p.map (·.1)) scope f s H fp).env) (EP (av a (u++p.map (·.1)) scope f s H fp) δ a' λv b'=>Í H9 b'/\Ð a.K b' y v/\P0 H v) (λ_ _=>False) s9)(B':∀f s H fp,(∃δ Ν,Ê a δ Ν H s)->yy (av a (u++p.map (·.1)) scope f s H fp) A d')(q':∀ρ d r',b d (iD u.length p ρ)=Z r'->fgt js r'=iD u.length p ρ){ρ:Ev}{s2:ge}{it:O}{fp:List O}{tn:Nat->O_->Prop}{J:It}{H2:Hp}(E:Ø a.K H2 Ν ρ)(I2:Ê a δ Ν H2 s2)(T:xR a.prog a.w a.K g J fp it tn)(D':tn 0 s2.heap)(I:∀b∈fp,tq a δ H2 b){ds ys:List N}(wk:Ų a.K J ds H2)(a5:ds.length<=100000)(a2:ys.length<=100000)(hm:kL b d' B (iD u.length p ρ) ds=Z ys){RR:R->O->Zs->ge->Prop}(S':∀(h f:O)(s6:ge)(H5:Hp)(vs:List V)(m6:Str->Option R),Ê a δ Ν (Û H5 h (.lst vs)) s6->H5 h=U->Í H2 H5->S a.K H5 ys vs->(∀v∈vs,P0 H2 v)->s6.heap.Ns f m6->H5 f=U->f≠h->s2.heap.objs.size<=f->RR (.ref h) f (.ok .next) s6):q_ (w_ a.prog a.w) a.A (abu []) (λw' y'=>q_ (w_ a.prog a.w) a.A (X4 scope a.env.globals (lL scope.names a.env []) [] a.env.qual U .none (Z a.env)) (λl' x'=>WH (w_ a.prog a.w) a.A (.compStart (.ListComp w [⟨g,A',A,0⟩] scope k) 0 (.ref it) w' {l' with scope:=acf scope a.env}) (RR w' l'.locals) x') a.xe y') a.xe s2:=by
 refine wZ (u:=u) p ok hc I2 T D' I ds.length (λi vs e' H'=>∃es,(∀v∈vs,P0 H2 v)/\Ø a.K H' e' (iD u.length p ρ)/\S a.K H' es vs/\es.length<=i/\i<=ds.length/\Í H2 H'/\(match kL b d' B (iD u.length p ρ) (ds.drop i)with|some zs=>es++zs=ys|none=>False)) (λi vs Ν H⟨es,_,_,r,l,l2,_⟩=>by rw[r.length];omega) ⟨[],(λv hv=>by cases hv),yF u.length p E,rfl,o_ _,TN _,.refl H2,by rw[aaR,hm];rfl⟩ (λvs o' H5⟨es,_,_,_,_,_,e,_⟩=>wk.stop H5 e) (λi vs o' H5 g'⟨es,_,_,_,_,_,e,_⟩=>wk.go i H5 e g') (λf i vs o' H5 x H7 g'⟨es,hP,E5,r5,a4,_,e5,P⟩hy Y hY δ s7 m I7 r7=>?_) λh f s6 H5 e' vs m6 I6 D5⟨es,hP,_,r5,_,_,e5,P⟩n6 C6 CD hC=>by rw[Xq]at P;have t':es++[]=ys:=P;rw[W3]at t';subst t';exact S' h f s6 H5 vs m6 I6 D5 e5 r5 hP n6 C6 CD hC
 subst hY;obtain⟨v',d,hd,rd⟩:=wk.yld i H5 x H7 e5 g' hy;rw[iJ hd]at P;unfold kL at P;match hb:b d (iD u.length p ρ)with
 |none=>rw[hb]at P;exact P.elim|some c'=>
 rw[hb]at P;dsimp only at P;refine Ur ((O' f s2 H2 fp).h _ s7 o' H7 x m d (iD u.length p ρ) c' I7 r7 rd (E5.mono v') hb) (λ_ s8⟨a',H8,I8,U',E8⟩=>?_) λ_ _ z=>UK z;have h':=v'.trans U';have m':∀{n':L2.St}{H9:Hp},Ø a.K H9 n' c'->Ø a.K H9 n' (iD u.length p ρ):=λ{n' H9}E9=>by have q:=Ø.fgt js E9;rw[q' ρ d c' hb]at q;exact q
 have k':∀{H9:Hp}{s9:ge},Ê (av a (u++p.map (·.1)) scope f s2 H2 fp) δ a' H9 s9->Í H8 H9->(match(match B c' with|some (.ok y)=>(match kL b d' B (iD u.length p ρ) (ds.drop (i+1))with|some ys=>Z (y::ys)|none=>U)|_=>U)with|some zs=>es++zs=ys|none=>False)->q_ (w_ a.prog a.w) a.A (eval w (av a (u++p.map (·.1)) scope f s2 H2 fp).env) (λj s'=>∃yv e' b',Ê (av a (u++p.map (·.1)) scope f s2 H2 fp) δ e' b' s'/\Ô yv j/\∃es,(∀v∈vs++[yv],P0 H2 v)/\Ø a.K b' e' (iD u.length p ρ)/\S a.K b' es (vs++[yv])/\es.length<=i+1/\i+1<=ds.length/\Í H2 b'/\(match kL b d' B (iD u.length p ρ) (ds.drop (i+1))with|some zs=>es++zs=ys|none=>False)) (λ_ _=>False) s9:=λ{H9 s9}I9 e9 o=>by match Q':B c',o with|none,o=>exact o.elim|some (.exc c),o=>exact o.elim|some (.ok y),o=>refine Ur (C' f s2 H2 fp ⟨_,_,I2⟩ _ s9 a' H9 c' y I9 (E8.mono e9) (e5.trans (h'.trans e9)) Q') (λj s'⟨yv,b',a1,z',a0,E',I'⟩=>?_) λ_ _ z=>UK z;have p':=e9.trans a0;refine⟨yv,a',b',a1,z',es++[y],(λv hv=>(Ue.mp hv).elim (hP v) λz=>by rw[Ua.mp z];exact I'),m' (E8.mono p'),(S.mono (h'.trans p') _ _ r5).append ⟨yv,[],rfl,E',rfl⟩,by rw[Uw,aat];omega,g',e5.trans (h'.trans p'),?_⟩;match a3:kL b d' B (iD u.length p ρ) (ds.drop (i+1)),o with|none,o=>exact o.elim|some zs,o=>dsimp only at o⊢;rw[VT];exact o
 have u':=B' f s2 H2 fp ⟨_,_,I2⟩;cases d' with|none=>cases(show A=[]from u');exact wpAny_tests_nil (by rw[if_pos rfl];exact k' I8 (.refl H8) P)|some t=>obtain⟨c,rfl,R'⟩:=u';match i':t c',P with|none,P=>simp only[i']at P|some (.exc c),P=>simp only[i']at P|some (.ok n),P=>simp only[i']at P;refine wpAny_tests_one (Ur (R'.h _ s8 a' H8 (λb H9=>b=n/\Í H8 H9) I8 ⟨_,E8,by rw[i'];exactλH9 e9=>⟨rfl,e9⟩⟩) (λb s9⟨H9,I9,hb,e9⟩=>?_) λ_ _ z=>UK z);subst hb;cases b with|true=>rw[if_pos rfl];exact k' I9 e9 P|false=>rw[if_neg D_];exact⟨a',H9,I9,es,hP,m' (E8.mono e9),S.mono (h'.trans e9) _ _ r5,by omega,g',e5.trans (h'.trans e9),P⟩
def oK{l':u_}{scope:VD}{e':Option å}{b:N->Ev->Option Ev}{js:List Nat}(r:List (Str×Nat))(ok:iO a.env.scope scope r a.N)(hc:a.calm=L)(r':∀i s H q,FG (av a (u++r.map (·.1)) scope i s H q) g b)(n':∀i s H q,(∃δ Ν,Ê a δ Ν H s)->FE (av a (u++r.map (·.1)) scope i s H q) w B)(m':∀i s H q,(∃δ Ν,Ê a δ Ν H s)->yy (av a (u++r.map (·.1)) scope i s H q) A e')(c':∀ρ d d',b d (iD u.length r ρ)=Z d'->fgt js d'=iD u.length r ρ){ρ:Ev}{s2:ge}{it:O}{q:List O}{tn:Nat->O_->Prop}{J:It}{H2:Hp}(E:Ø a.K H2 Ν ρ)(I2:Ê a δ Ν H2 s2)(T:xR a.prog a.w a.K g J q it tn)(p':tn 0 s2.heap)(I:∀b∈q,tq a δ H2 b){ds ys:List N}(wk:Ų a.K J ds H2)(t':ds.length<=100000)(q':ys.length<=100000)(hm:kL b e' B (iD u.length r ρ) ds=Z ys){RR:R->O->Zs->ge->Prop}(u':∀(j i:O)(s6:ge)(H5:Hp)(vs:List V)(m6:Str->Option R),Ê a δ Ν (Û H5 j (.lst vs)) s6->H5 j=U->Í H2 H5->S a.K H5 ys vs->s6.heap.Ns i m6->H5 i=U->i≠j->s2.heap.objs.size<=i->RR (.ref j) i (.ok .next) s6):q_ (w_ a.prog a.w) a.A (abu []) (λg' i'=>q_ (w_ a.prog a.w) a.A (X4 scope a.env.globals (lL scope.names a.env []) [] a.env.qual U .none (Z a.env)) (λP h'=>WH (w_ a.prog a.w) a.A (.compStart (.ListComp w [⟨g,l',A,0⟩] scope k) 0 (.ref it) g' {P with scope:=acf scope a.env}) (RR g' P.locals) h') a.xe i') a.xe s2:=w4 r ok hc r' (λ_ _=>True) (λi s H q hI δ s9 o' H9 ρ y I9 E9 _ s'=>Ur ((n' i s H q hI).h δ s9 o' H9 (λv p=>Í H9 p/\Ð a.K p y v) I9 ⟨ρ,E9,by rw[s'];exactλv p b' a'=>⟨b',a'⟩⟩) (λo w'⟨yv,p,v',k',b',a'⟩=>⟨yv,p,v',k',b',a',trivial⟩) λ_ _ z=>z) m' c' E I2 T p' I wk t' q' hm (λj i s6 H5 vs m6 n b c d _ e f m h=>u' j i s6 H5 vs m6 n b c d e f m h)
def C4{p:u_}{u:Option å}{b:N->Ev->Option Ev}(c':VD)(j y:List Str)(js:List Nat)(q:List (Str×Nat))(d':a.env.scope=c')(hN:a.N=j)(ok:iO c' τ q j)(n':Yv τ a.env=pure (lL τ.names a.env []))(hc:a.calm=L)(a':∀P d b',b d (iD y.length q P)=Z b'->fgt js b'=iD y.length q P)(hi:Ō a g p ξ)(l':∀f s H fp,FG (av a (y++q.map (·.1)) τ f s H fp) g b)(g':∀f s H fp,(∃f' z,Ê a f' z H s)->FE (av a (y++q.map (·.1)) τ f s H fp) w B)(e':∀f s H fp,(∃f' z,Ê a f' z H s)->yy (av a (y++q.map (·.1)) τ f s H fp) A u)(hs:∀x,TU p a.env x=pure x:=by intro _;lk):FE a (.ListComp w [⟨g,p,A,0⟩] τ k) (cu y.length q ξ b u B):=by subst d' hN;constructor;intro f' s z H Q m h;obtain⟨P,E,o⟩:=h;match ho:cu y.length q ξ b u B P with
 |none=>rw[ho]at o;exact o.elim|some r=>
 rw[ho]at o;rw[eval_ListComp];have key:ĥ a H (ξ P) λJ H'=>∃ds ys,Í H H'/\Ų a.K J ds H'/\ds.length<=100000/\ys.length<=100000/\kL b u B (iD y.length q P) ds=Z ys/\(∀v n,Í H' n->Ð a.K n (.lst ys) v->Q v n):=by
  rcases PU ho with⟨c,e1,e2⟩|⟨ds,ys,e1,e2,l1,l2,e3⟩;·subst e2;rw[e1];exact o
  ·subst e3;rw[e1];exactλJ H' e wk=>⟨ds,ys,e,wk,l1,l2,e2,λv n e2 r=>o v n (e.trans e2) r⟩
 refine Zq (use:=U) rfl hs n' ok.kind ok.names (á (hi.h f' s z H _ m ⟨P,E,key⟩) λv s1 h1=>á h1 λq' s2 h2=>?_);obtain⟨it,fp,tn,J,H2,e,I2,T,h',I,ds,ys,o',wk,m',k',hm,hQ⟩:=h2;subst e;refine oK q ok hc l' g' e' a' (E.mono o') I2 T h' I wk m' k' hm (RR:=λp' f=>compPost (w_ a.prog a.w) a.A a.xe U (EP a f' z Q) p' f) λi f s6 H5 vs m6 I6 D5 e5 r5 n6 C6 CD hC=>?_;refine⟨m6,n6,λh7 i'=>?_⟩;have Cn:(Û H5 i (.lst vs)) f=U:=by rw[aB CD];exact C6
 obtain⟨q0,q1,q2,q3,q4,q5⟩:=I2.fpOk hC Cn;have I7:Ê a f' z (Û H5 i (.lst vs)) {s6 with heap:=h7}:=I6.turned (t':=s6.toks) (λb o hb e=>i'.extBut b o hb e) q0 q1 q3 q4 q5;exact⟨.ref i,_,I7,rfl,hQ _ _ (e5.trans (aC D5 _)) ⟨i,vs,rfl,au,S.mono (aC D5 _) _ _ r5⟩⟩
def vJ{f:u_}{p:Option å}{b:N->Ev->Option Ev}(m:VD)(e j:List Str)(E:List Nat)(i:List (Str×Nat))(q:a.env.scope=m)(hN:a.N=e)(P:iO m τ i e)(y:Yv τ a.env=pure (lL τ.names a.env []))(hc:a.calm=L)(n:∀z d o,b d (iD j.length i z)=Z o->fgt E o=iD j.length i z)(hi:Ō a g f ξ)(v:∀c s H h,FG (av a (j++i.map (·.1)) τ c s H h) g b)(u:∀c s H h,FE (av a (j++i.map (·.1)) τ c s H h) w B)(r:∀c s H h,yy (av a (j++i.map (·.1)) τ c s H h) A p)(hs:∀x,TU f a.env x=pure x:=by intro _;lk):FE a (.ListComp w [⟨g,f,A,0⟩] τ k) (cu j.length i ξ b p B):=C4 m e j E i q hN P y hc n hi v (λc s H h _=>u c s H h) (λc s H h _=>r c s H h) hs
def C5{y:u_}{a':Option å}{b:N->Ev->Option Ev}(i:Nat)(t':a.N.Nodup)(u':a.N[i]?=Z c)(p':ĸ a.env.scope c)(v':a.fn c=L\/a.env.scope.names.lookup c=Z .local)(d':VD)(n ns:List Str)(js:List Nat)(cs:List (Str×Nat))(h':a.env.scope=d')(hN:a.N=n)(ok:iO d' τ cs n)(x':Yv τ a.env=pure (lL τ.names a.env []))(hc:a.calm=L)(b':∀ρ d c',b d (iD ns.length cs ρ)=Z c'->fgt js c'=iD ns.length cs ρ)(hi:Ō a g y ξ)(q':∀f s H fp,FG (av a (ns++cs.map (·.1)) τ f s H fp) g b)(k':∀f s H fp,FE (av a (ns++cs.map (·.1)) τ f s H fp) w B)(i':∀f s H fp,yy (av a (ns++cs.map (·.1)) τ f s H fp) A a')(r':UD (.ListComp w [⟨g,y,A,0⟩] τ k) (Z (.Name c z)) Λ.line a.env=pure L:=by lk)(hs:∀x,TU y a.env x=pure x:=by intro _;lk):PS a (.Assign [.Name c z] (.ListComp w [⟨g,y,A,0⟩] τ k) Λ) (tC a i (cu ns.length cs ξ b a' B)):=by subst h' hN;intro f' s σ H D0 q h;obtain⟨ρ,E,o⟩:=h;match ho:cu ns.length cs ξ b a' B ρ with
 |none=>rw[ho]at o;exact o.elim|some r=>
 rw[ho]at o;have key:ĥ a H (ξ ρ) λJ H'=>∃ds ys,Í H H'/\Ų a.K J ds H'/\ds.length<=100000/\ys.length<=100000/\kL b a' B (iD ns.length cs ρ) ds=Z ys/\(∀P p vs,Í H' P->P p=U->S a.K P ys vs->D0.nx (σ.set i (Z (.ref p))) (Û P p (.lst vs))):=by
  rcases PU ho with⟨u,e1,e2⟩|⟨ds,ys,e1,e2,l1,l2,e3⟩;·subst e2;rw[e1];exact o
  ·subst e3;rw[e1];obtain⟨E',ey,o⟩:=o;cases ey;exactλJ H' e wk=>⟨ds,ys,e,wk,l1,l2,e2,λP p vs e3 hp r=>o P p vs (e.trans e3) hp r⟩
 rw[exec_Assign_Name_used _ _ _ _ r'];refine ck (aa9 (ck ?_));show q_ _ a.A (do let _<-comprehension (.ListComp w [⟨g,y,A,0⟩] τ k) τ a.env _ (abu []) D (eval y a.env) (Z (WK (.Name c z) a.env))) _ _ s;refine ck (Ur (Zq (use:=Z (WK (.Name c z) a.env)) (Q:=λ_ s'=>SP a f' D0 .next s') rfl hs x' ok.kind ok.names (á (hi.h f' s σ H _ q ⟨ρ,E,key⟩) λv s1 h1=>á h1 λI' s2 h2=>?_)) (λ_ s' hq=>h_ (h_ hq)) λ_ _ e=>e);obtain⟨it,fp,tn,J,H2,e,I2,T,m',I,ds,ys,z',wk,w',o',hm,hQ⟩:=h2;subst e;refine oK cs ok hc q' (λf s H fp _=>k' f s H fp) (λf s H fp _=>i' f s H fp) b' (E.mono z') I2 T m' I wk w' o' hm (RR:=λA' f=>compPost (w_ a.prog a.w) a.A a.xe (Z (WK (.Name c z) a.env)) (λ_ s'=>SP a f' D0 .next s') A' f) λj f s6 P vs m6 I6 D5 e5 r5 n6 C6 CD hC=>?_;have Cn:(Û P j (.lst vs)) f=U:=by rw[aB CD];exact C6
 have FC:=I2.fpOk hC Cn;obtain⟨oC,es,ep,e',g',rC⟩:=id n6;have C':=I6.pinned (fp:=[f]) (λb hb=>by
  have e:b=f:=by simpa using hb
  subst e;exact FC) (λb hb=>by
  have e:b=f:=by simpa using hb
  subst e;exact⟨oC,e',λv m=>by rw[g']at m;cases m⟩);refine á (gZ t' u' p' v' _ s6 σ _ (.ref j) (.ref j) (λl' H'=>l'=σ.set i (Z (.ref j))/\H'=Û P j (.lst vs)) C' rfl ⟨rfl,rfl⟩) λ_ s8⟨D',H8,I8,e1,e2⟩=>?_;subst e1 e2;have y':=(I8.pin (f,oC) (p_ _ (p_ _ (dR (by simp) e')))).1;refine⟨m6,⟨oC,es,ep,y',g',rC⟩,λh9 n'=>?_⟩;have B':Ê a f' (σ.set i (Z (.ref j))) (Û P j (.lst vs)) s8:=I8.unpinned;obtain⟨q0,q1,q2,q3,q4,q5⟩:=FC;have I9:Ê a f' (σ.set i (Z (.ref j))) (Û P j (.lst vs)) {s8 with heap:=h9}:=B'.turned (t':=s8.toks) (λb o hb e=>n'.extBut b o hb e) q0 q1 q3 q4 q5;exact⟨_,_,I9,hQ P j vs e5 D5 r5⟩
abbrev bV:=List (Str×Nat×List Str×(Ó))
def ki{a:P}{T:List (Str×P)}(h:((m,È)::T).lookup c=Z a):(c=m/\a=È)\/T.lookup c=Z a:=by
 rw[Uj]at h;split at h;·rename_i b;exact .inl ⟨X0 b,by cases h;rfl⟩
 ·exact .inr h
structure HA(P:n_)(w:y_)(K:d_)(mg:Str->Option R)(base:O_)(T:bV):Prop where h:∀x e,T.lookup x=Z e->F' P w K mg base x e.1 e.2.1 e.2.2
def Mm:HA n j v Χ ε []:=⟨λ_ _ h=>by cases h⟩
def ai{T:bV}(h:F' n j v Χ ε c b u Â)(t:HA n j v Χ ε T):HA n j v Χ ε ((c,b,u,Â)::T):=⟨λx e q=>by
 rcases ki q with⟨rfl,rfl⟩|q;·exact h
 ·exact t.h x e q⟩
abbrev Fc:=List (Str×Option N)
def cN(s:String):Str×Option N:=(b_ s,U)
def cI(s:String)(i:Int):Str×Option N:=(b_ s,Z (.int i))
def cS(s z:String):Str×Option N:=(b_ s,Z (.str (b_ z)))
def SZ(a:Str->Option R)(x:Str):Option N->Prop|none=>a x=U|some (.int i)=>∃t,a x=Z (.int i t)|some (.str z)=>∃t,a x=Z (.str z t)|_=>False
structure MA(mg:Str->Option R)(C:Fc):Prop where h:∀x o,C.lookup x=Z o->SZ mg x o
def MA.no{C:Fc}(h:MA Χ C)(e:C.lookup c=Z U):Χ c=U:=h.h c U e
def Qq(K:d_)(q:Str×Option N):Bool:=match q.2,Vc K R_ q.1 with|none,Z U=>L|some (.int i),Z (Z (.int j _))=>i==j|some (.str z),Z (Z (.str y _))=>z==y|_,_=>D
def Mn{K:d_}{d:Str->Option R}{h:O_}(X:K.In h)(G:h.Ns R_ d):∀(C:Fc),C.all (Qq K)=L->MA d C|[],_=>⟨λx o q=>by cases q⟩|(y,o)::C,e=>⟨λx f q=>by
 rw[VN,pi]at e;rcases ki q with⟨rfl,rfl⟩|q
 · have b:=e.1;unfold Qq at b;dsimp only at b;split at b;·rename_i c;exact PySem.W.mg_none_of X G c
   ·rename_i i j t c;have a:i=j:=X0 b;subst a;exact⟨t,Yz X G c⟩
   ·rename_i z y t c;have a:z=y:=X0 b;subst a;exact⟨t,Yz X G c⟩
   ·cases b
 ·exact(Mn X G C e.2).h x f q⟩
def C7{T:bV}(r:HA a.prog a.w a.K a.mg a.base T)(j:Ú b a.A)(e:(T.lookup c).map (λq=>q.2.2)=Z Â)(p:FA a (g::A) ξ)(d:((T.lookup c).all λq=>aa1 q.1 b&&Z8 o q.2.1.length)=L:=by lk)(m:a.env.kindOf c=Z .globalImplicit:=by lk)(i:(c==("__debug__":Str))=D:=by lk)(n:k_ (g::A) a.env=(D,eval g a.env)::k_ A a.env:=by lk)(h:(TF z (k_ A a.env)).any (·.1)=D:=by lk):FE a (.Call (.Name c k) (g::A) [] z) (ae Â o ξ):=by cases f:T.lookup c with|none=>rw[f]at e;cases e|some q=>rw[f]at e d;cases e;rw[W1,pi]at d;exact B8 q.1 q.2.1 q.2.2 (r.h c q f) j (Vi d.1) m p (We d.2) i n h
def zS{T:bV}{d:Fc}{h:Pos}(A:HA a.prog a.w a.K a.mg a.base T)(B:MA a.mg d)(s:Ú b a.A)(j:(T.lookup c).map (λq=>q.2.2)=Z Â)(y:FA a [g] ξ)(i:((T.lookup c).all λq=>aa1 (q.1+2) b&&Z8 q.2.1.length 1)=L:=by lk)(v:a.env.kindOf (b_ "sorted")=Z .globalImplicit:=by lk)(u:d.lookup (b_ "sorted")=Z U:=by lk)(p:a.env.kindOf c=Z .globalImplicit:=by lk)(r:(c==("__debug__":Str))=D:=by lk)(w:TF z (k_ [g] a.env)=(D,eval g a.env)::TF z (k_ [] a.env):=by lk)(e:(TF z (k_ [g] a.env)).any (·.1)=D:=by lk)(f:(Va z (Us [⟨Z "key",.Name c Λ,h⟩] a.env)).all (·.1.isSome)=L:=by lk)(o:(Va z (Us [⟨Z "key",.Name c Λ,h⟩] a.env)).any (·.1.isNone)=D:=by lk)(n:(Va z (Us [⟨Z "key",.Name c Λ,h⟩] a.env)).filterMap (·.1)=[b_ "key"]:=by lk):FE a (.Call (.Name "sorted" k) [g] [⟨Z "key",.Name c Λ,h⟩] z) (Ý (wY Â) ξ):=by cases m:T.lookup c with|none=>rw[m]at j;cases j|some q=>rw[m]at j i;cases j;rw[W1,pi]at i;exact C3 q.1 q.2.1 q.2.2 (A.h c q m) s (Vi i.1) (We i.2) v (B.no u) p y r w e f o n
def Qr{b:Fc}(g:MA a.mg b)(d:b.lookup c=Z (Z (.int p)))(e:a.env.kindOf c=Z .globalImplicit:=by lk)(f:(c==("__debug__":Str))=D:=by lk):FE a (.Name c k) (fC (.int p)):=let⟨_,h⟩:=g.h c _ d;Go e h f
def Qs{b:Fc}(g:MA a.mg b)(d:b.lookup c=Z (Z (.str m)))(e:a.env.kindOf c=Z .globalImplicit:=by lk)(f:(c==("__debug__":Str))=D:=by lk):FE a (.Name c k) (fC (.str m)):=let⟨_,h⟩:=g.h c _ d;Gp e h f
def Ġ:List Str->Bool|[]=>L|x::r=>!(r.contains x)&&Ġ r
def iP:∀{l:List Str},Ġ l=L->l.Nodup|[],_=>aaO|x::r,h=>by unfold Ġ at h;rw[pi]at h;refine U0.2 ⟨λb=>?_,iP h.2⟩;have a:=h.1;rw[List.contains_iff_mem.2 b]at a;cases a
def jL(a:VD)(x:Str):Bool:=match a.names.lookup x with|some .local=>L|some .cell=>L|_=>D
def eI(h:jL τ c=L):ĸ τ c:=by
 unfold jL at h;split at h;·exact .inl ‹_›
 ·exact .inr ‹_›
 ·cases h
def JR(b a:VD)(d:List (Str×Nat))(N:List Str):Bool:=uk (a.kind=.function)&&uk (∀y∈a.names,y.2=.cell->a.names.lookup y.1=Z .cell)&&uk (∀y∈a.names,y.2=.local->a.names.lookup y.1=Z .local)&&uk (∀y∈a.names,y.2=.free->b.names.lookup y.1=Z .cell\/b.names.lookup y.1=Z .free)&&uk (∀c∈d,N[c.2]?=Z c.1/\a.names.lookup c.1=Z .free)
def zT{a:VD}{b:List (Str×Nat)}(h:JR τ a b u=L):iO τ a b u:=by unfold JR at h;simp only[pi,decide_eq_true_eq]at h;exact⟨h.1.1.1.1,h.1.1.1.2,h.1.1.2,h.1.2,h.2⟩
def lkc{b:Env}:∀{a:List (Str×WM)}{x:Str},a.lookup x=Z .cell->(a.map λ(n,k)=>if(k==Vu&&b.scope.kind==.function&&b.kindOf n==Z .cell)then(n,VM)else(n,k)).lookup x=Z .cell|[],_,h=>by simp at h|(n,k)::r,x,h=>by rw[Uj]at h;rw[F_];cases c:x==n with|true=>rw[c]at h;cases h;simp[Uj,c]|false=>
 rw[c]at h;have d:=lkc (b:=b) h;dsimp only;split;·rw[Uj,c];exact d
 ·rw[Uj,c];exact d
def Y'(h:jL τ c=L):ĸ (av a u τ e d f ω).env.scope c/\((av a u τ e d f ω).fn c=L\/(av a u τ e d f ω).env.scope.names.lookup c=Z .local):=by
 rcases eI h with h|h;·exact⟨.inl (aaA h),.inr (aaA h)⟩
 ·exact⟨.inr (lkc h),.inl (by show(τ.names.lookup c==Z .cell)=L;rw[h];rfl)⟩
def fgA(b:O)(s:ge)(H:Hp)(g:List O)(d:Ġ u=L)(f:u[0]?=Z c)(e:jL τ c=L):FG (av a u τ b s H g) (.Name c k) (gN 0):=GQ 0 (iP d) f (Y' e).1 (Y' e).2
def Qt{e:Option å}{d:List (Str×Nat)}(q:Ō a (.Name c z) w ξ)(i:∀b s H f,FE (av a (c::d.map (·.1)) τ b s H f) g B)(h:∀b s H f,yy (av a (c::d.map (·.1)) τ b s H f) A e)(j:JR a.env.scope τ d a.N=L:=by lk)(n:Yv τ a.env=pure (lL τ.names a.env []):=by lk)(r:a.calm=L:=by lk)(m:Ġ (c::d.map (·.1))=L:=by lk)(p:jL τ c=L:=by lk)(o:∀c,TU w a.env c=pure c:=by intro _;lk):FE a (.ListComp g [⟨.Name c z,w,A,0⟩] τ k) (cf d ξ e B):=(Hu (e:=d) (a:=ξ) (b:=e) (d:=B))▸vJ a.env.scope a.N [c] [0] d rfl rfl (zT j) n r (Lx _) q (λb s H f=>fgA b s H f m rfl p) i h o
def Qu{e:Pos}{i:Option å}{f:List (Str×Nat)}(hi:Ō a (.Name c z) w ξ)(n:∀d s H h,FE (av a (c::f.map (·.1)) τ d s H h) g B)(j:∀d s H h,yy (av a (c::f.map (·.1)) τ d s H h) A i)(hN:Ġ a.N=L)(u:a.N[b]?=Z m)(o:jL a.env.scope m=L)(v:a.fn m=L)(q:JR a.env.scope τ f a.N=L)(y:Yv τ a.env=pure (lL τ.names a.env []))(hc:a.calm=L)(r:Ġ (c::f.map (·.1))=L)(P:jL τ c=L)(p:UD (.ListComp g [⟨.Name c z,w,A,0⟩] τ k) (Z (.Name m Λ)) e.line a.env=pure L)(E:∀c,TU w a.env c=pure c):PS a (.Assign [.Name m Λ] (.ListComp g [⟨.Name c z,w,A,0⟩] τ k) e) (tC a b (cu 1 f ξ (gN 0) i B)):=C5 b (iP hN) u (eI o) (.inl v) a.env.scope a.N [c] [0] f rfl rfl (zT q) y hc (Lx _) hi (λd s H h=>fgA d s H h r rfl P) n j p E
def Qv{e:Pos}{h:Option å}{f:List (Str×Nat)}(hi:Ō a (.Name c z) w ξ)(j:∀d s H n,FE (av a (c::f.map (·.1)) τ d s H n) g B)(i:∀d s H n,yy (av a (c::f.map (·.1)) τ d s H n) A h)(p:UD (.ListComp g [⟨.Name c z,w,A,0⟩] τ k) (Z (.Name m Λ)) e.line a.env=pure L)(hN:Ġ a.N=L:=by lk)(u:a.N[b]?=Z m:=by lk)(o:jL a.env.scope m=L:=by lk)(v:a.fn m=L:=by lk)(q:JR a.env.scope τ f a.N=L:=by lk)(y:Yv τ a.env=pure (lL τ.names a.env []):=by lk)(hc:a.calm=L:=by lk)(r:Ġ (c::f.map (·.1))=L:=by lk)(P:jL τ c=L:=by lk)(E:∀c,TU w a.env c=pure c:=by intro _;lk):FS a (.Assign [.Name m Λ] (.ListComp g [⟨.Name c z,w,A,0⟩] τ k) e) (ce b (cu 1 f ξ (gN 0) h B)):=Hv (Qu hi j i hN u o v q y hc r P p E) zm
def S5(d:O)(s:ge)(H:Hp)(e:List O)(n:a.calm=L)(g:Ġ u=L)(j:u[0]?=Z c)(i:u[1]?=Z m)(h:jL τ c=L)(f:jL τ m=L)(r:(T_ [.Name c k,.Name m z] (av a u τ d s H e).env).map (·.2)=WK (.Name c k) (av a u τ d s H e).env::(T_ [.Name m z] (av a u τ d s H e).env).map (·.2))(q:(T_ [.Name m z] (av a u τ d s H e).env).map (·.2)=WK (.Name m z) (av a u τ d s H e).env::(T_ [] (av a u τ d s H e).env).map (·.2))(p:(T_ [.Name c k,.Name m z] (av a u τ d s H e).env).length=2)(o:(T_ [.Name c k,.Name m z] (av a u τ d s H e).env).findIdx? (·.1)=U):FG (av a u τ d s H e) (.Tuple [.Name c k,.Name m z] b Λ) (gP 0 1):=yD 0 1 n (iP g) j (Y' h).1 (Y' h).2 i (Y' f).1 (Y' f).2 r q p o
def Qw{r:Pos}{h:Option å}{e:List (Str×Nat)}(E:Ō a (.Tuple [.Name c z,.Name m Λ] b r) w ξ)(j:∀d s H f,FE (av a (c::m::e.map (·.1)) τ d s H f) g B)(i:∀d s H f,yy (av a (c::m::e.map (·.1)) τ d s H f) A h)(n:JR a.env.scope τ e a.N=L:=by lk)(q:Yv τ a.env=pure (lL τ.names a.env []):=by lk)(u:a.calm=L:=by lk)(o:Ġ (c::m::e.map (·.1))=L:=by lk)(y:jL τ c=L:=by lk)(p:jL τ m=L:=by lk)(v:∀c,TU w a.env c=pure c:=by intro _;lk):FE a (.ListComp g [⟨.Tuple [.Name c z,.Name m Λ] b r,w,A,0⟩] τ k) (cu 2 e ξ (gP 0 1) h B):=vJ a.env.scope a.N [c,m] [0,1] e rfl rfl (zT n) q u (PV _) E (λd s H f=>S5 d s H f u o rfl rfl y p rfl rfl rfl rfl) j i v
def C8:∀b s H c,yy (av a u τ b s H c) [] U:=λ_ _ _ _=>rfl
def C9(h:∀b s H c,FT (av a u τ b s H c) g Ο):∀b s H c,yy (av a u τ b s H c) [g] (Z Ο):=λb s H c=>⟨_,rfl,h b s H c⟩
def Mp(d:FE a g B)(c:FE a w Ç)(b:∀o i,ab5 w D o i=operate [o,i] (ZX o i):=by intro _ _;lk):FE a (.Subscript g w k) (I Ì B Ç):=PK d c b
def HE(i:FE a g B)(j:Ġ a.N=L:=by lk)(f:a.N[b]?=Z c:=by lk)(d:jL a.env.scope c=L:=by lk)(h:a.fn c=L:=by lk)(e:UD g (Z (.Name c z)) k.line a.env=pure D:=by lk):FS a (.Assign [.Name c z] g k) (ce b B):=K3 b (iP j) f (eI d) i e (.inl h)
def HF(m:FE a g B)(e:a.ex=[]:=by lk)(d:Z8 b o=D:=by lk)(n:Ġ a.N=L:=by lk)(i:a.N[o]?=Z c:=by lk)(f:jL a.env.scope c=L:=by lk)(j:a.fn c=L:=by lk)(h:UD g (Z (.Name c z)) k.line a.env=pure D:=by lk):Ţ a b (.Assign [.Name c z] g k) (qI o B):=LK e o (Yg d) (iP n) i (eI f) m h (.inl j)
def Da{d:lP}(i:FA a A ξ)(g:Ŧ a b Ψ d)(m:Ġ a.N=L:=by lk)(h:a.N[b]?=Z c:=by lk)(e:jL a.env.scope c=L:=by lk)(j:a.fn c=L:=by lk)(f:UD (.List A Λ) (Z (.Name c z)) k.line a.env=pure D:=by lk):Ģ a (.Assign [.Name c z] (.List A Λ) k::Ψ) (EN b ξ d):=Hd (iP m) h (eI e) i g f (.inl j)
def HG{d:List Nat}(h:W5 (w_ a.prog a.w) a.A a.env a.xe)(j:FI a (.Name c z) g ξ)(o:Ģ a Ψ Υ)(n:a.calm=L:=by lk)(p:Ġ a.N=L:=by lk)(e:a.N[b]?=Z c:=by lk)(i:jL a.env.scope c=L:=by lk)(m:a.fn c=L:=by lk)(f:∀c,TU g a.env c=pure c:=by intro _;lk):FS a (.For (.Name c z) g Ψ [] k) (Ez b d ξ Υ):=K8 b d h n j (gZ (iP p) e (eI i) (.inl m)) o f
def HH{f:List Nat}{h:lP}(m:W5 (w_ a.prog a.w) a.A a.env a.xe)(p:FI a (.Name c z) g ξ)(s:Ŧ a b Ψ h)(e:a.ex=[]:=by lk)(d:Z8 b o=D:=by lk)(r:a.calm=L:=by lk)(u:Ġ a.N=L:=by lk)(i:a.N[o]?=Z c:=by lk)(n:jL a.env.scope c=L:=by lk)(q:a.fn c=L:=by lk)(j:∀c,TU g a.env c=pure c:=by intro _;lk):Ţ a b (.For (.Name c z) g Ψ [] k) (He o f ξ h):=LN e o f (Yg d) m r p (gZ (iP u) i (eI n) (.inl q)) s j
def Db{f:Pos}{h:List Nat}(q:W5 (w_ a.prog a.w) a.A a.env a.xe)(s:Ō a (.Tuple [.Name c Λ,.Name m z] Ρ f) g ξ)(v:Ģ a Ψ Υ)(i:a.calm=L:=by lk)(w:Ġ a.N=L:=by lk)(n:a.N[b]?=Z c:=by lk)(r:jL a.env.scope c=L:=by lk)(u:a.fn c=L:=by lk)(j:a.N[o]?=Z m:=by lk)(d:jL a.env.scope m=L:=by lk)(e:a.fn m=L:=by lk)(E:(T_ [.Name c Λ,.Name m z] a.env).map (·.2)=WK (.Name c Λ) a.env::(T_ [.Name m z] a.env).map (·.2):=by lk)(B:(T_ [.Name m z] a.env).map (·.2)=WK (.Name m z) a.env::(T_ [] a.env).map (·.2):=by lk)(A:(T_ [.Name c Λ,.Name m z] a.env).length=2:=by lk)(y:(T_ [.Name c Λ,.Name m z] a.env).findIdx? (·.1)=U:=by lk)(p:∀c,TU g a.env c=pure c:=by intro _;lk):FS a (.For (.Tuple [.Name c Λ,.Name m z] Ρ f) g Ψ [] k) (wS (gP b o) h ξ Υ):=Hr h q i s (yD b o i (iP w) n (eI r) (.inl u) j (eI d) (.inl e) E B A y) v p
def Dc{d:List Nat}(h:Ŕ a A (GS d))(j:Ġ a.N=L:=by lk)(g:a.N[b]?=Z c:=by lk)(e:jL a.env.scope c=L:=by lk)(i:a.fn c=L:=by lk)(f:(T_ (.Name c k::A) a.env).map (·.2)=WK (.Name c k) a.env::(T_ A a.env).map (·.2):=by lk):Ŕ a (.Name c k::A) (GS (b::d)):=GT b (iP j) g (eI e) (.inl i) h f
def kZ(g:a.N[b]?=Z c)(e:jL a.env.scope c=L)(f:(c==("__debug__":Str))=D)(d:(c==("__classdict__":Str))=D):PE a (.Name c k) (xM b):=xN g ((eI e).elim .inl λh=>.inr (.inl h)) f d
def HI{i:Pos}(p:FE a g B)(n:PE a (.Name c z) (xM b))(m:a.ex=[]:=by lk)(f:UQ (.Name c z) "append" a.env (eval (.Name c z) a.env)=eval (.Name c z) a.env:=by lk)(h:((TF Λ (k_ [g] a.env)).all (λc=>!c.1)&&(Va Λ (Us [] a.env)).all (λc=>c.1.isSome)&&uk ([g].length+([]:List V0).length+(if([]:List V0).isEmpty then 0 else 1)<30))=L:=by lk)(e:(i.endLine==Λ.line)=L:=by lk)(o:k_ [g] a.env=(D,eval g a.env)::k_ [] a.env:=by lk)(d:(TF Λ (k_ [] a.env)).any (·.1)=D:=by lk)(j:UD (.Call (.Attribute (.Name c z) "append" i) [g] [] Λ) U k.line a.env=pure D:=by lk):Ţ a b (.Expr (.Call (.Attribute (.Name c z) "append" i) [g] [] Λ) k) (JL B):=LM m n p f h e o d j
structure Ů(X:C)(o:u_)(name:Str)(e:u_)(es:List u_)(apos cpos:Pos):Prop where
 base:UQ o name X.env (eval o X.env)=eval o X.env
 few:((TF cpos (k_ (e::es) X.env)).all (λx=>!x.1)&&(Va cpos (Us [] X.env)).all (λx=>x.1.isSome)&&uk ((e::es).length+([]:List V0).length+(if([]:List V0).isEmpty then 0 else 1)<30))=L
 line:(apos.endLine==cpos.line)=L
 s:k_ (e::es) X.env=(D,eval e X.env)::k_ es X.env
 plain:(TF cpos (k_ es X.env)).any (·.1)=D
def rV{e:String}{r:V->List V->Hp->VK->Prop}{b:Str->Ó}(d:Slot "str" c e)(f:aci (.builtin e)=pure (.type "method_descriptor"))(o:Ŋ a e r)(p:∀i m j H Q,S a.K H m j->ê a H (b i m) Q->r (.str i) j H Q)(n:FE a g B)(q:FA a (w::A) ξ)(h:Ů a g c w A k z):FE a (.Call (.Attribute g c k) (w::A) [] z) (fM b B ξ):=GH d f o p n q h.base h.few h.line h.s h.plain
noncomputable abbrev nsM(K:d_)(x:Str):Option (Option R):=Vc K R_ x
structure Af(K:d_)(x:Str)(st:UH)(f:O):Prop where
 a:nsM K x=Z (Z (.ref f))F:∃fd,ı K x x st f fd
 k:Vl K (.ref f)=L
def fnB(N P:List Str)(a:VD):Bool:=uk (a.kind=.function)&&!a.isCoroutine&&!a.isGenerator&&Ġ N&&uk (N.take P.length=P)&&P.all (jL a)&&uk (∀y∈a.names,y.2≠.free)
def Mq{P:List Str}(h:fnB u P τ=L):iH u P τ:=by unfold fnB at h;simp only[pi,decide_eq_true_eq,Yn]at h;exact⟨h.1.1.1.1.1.1,h.1.1.1.1.1.2,h.1.1.1.1.2,iP h.1.1.1.2,h.1.1.2,λx a=>eI (Uz.1 h.1.2 x a),h.2⟩
def R5(x:Str)(b:UH)(e:List Str):Prop:=∀(kV c f:R)(h:Option O)(d g:R)(a:List R),a.length=e.length->aby (VJ x x (hU b) (cr b) (aH b) .none kV c f h d g) ⟨a,[]⟩=pure (e.zip a)
def al{h:O_}(q:v.In h)(r:h.Ns R_ Χ)(N f:List Str)(g:Õ)(A:Af v c Η e)(i:R5 c Η f)(o:∀(d:R)(A:x_)(a:List Env)(s:ge)(H:Hp)(E:XK),Ú b (A.deeper (Xv c (aH Η) s.heap.objs.size e d))->Ģ (uZ Ē n j v Χ ε N c (aH Η) e d A a s H E).nox (cr Η) g)(p:Â=aS N.length g:=by lk)(m:fnB N f (aH Η)=L:=by lk):F' n j v Χ ε c (b+1) f Â:=let⟨_,k⟩:=A.F;⟨_,_,EA N f g p rfl k (Mq m) o,Yz q r A.a,A.k,k.binds i⟩
def bdL(x:Str)(a:UH)(n:Nat)(e b d:R)(h:Option O)(c f:R)(g:Nat->R):Sem (List (Str×R)):=aby (VJ x x (hU a) (cr a) (aH a) .none e b d h c f) ⟨(rl n).map g,[]⟩
def bdR(a:List Str)(n:Nat)(_ _ _:R)(_:Option O)(_ _:R)(g:Nat->R):Sem (List (Str×R)):=pure (a.zip ((rl n).map g))
def HJ(a:List R):a=(rl a.length).map λi=>a.getD i .none:=by refine ZS (by simp) λi b c=>?_;simp[b]
def aF(h:bdL c Η u.length=bdR u u.length:=by lk):R5 c Η u:=λkV a e j b g d f=>by have q:=congrFun (congrFun (congrFun (congrFun (congrFun (congrFun (congrFun h kV) a) e) j) b) g) λi=>d.getD i .none;unfold bdL bdR at q;rw[<-f,<-HJ d]at q;exact q
end FD
namespace TS
open L2 FD
def Qx(p q:R)(e l:Bool):Prop:=∀(a:n_)(w:y_)(A:x_)(E:R->ge->Prop)(s:ge),(∀Q:Bool->ge->Prop,Q e s->q_ (w_ a w) A (eqBool p q) Q E s)/\(∀Q:R->ge->Prop,Q (.bool l) s->q_ (w_ a w) A (richCompare .Gt p q) Q E s)
inductive oM:List (R×R)->List (Bool×Bool)->Prop|nil:oM [] []|cons{p q:R}{e l:Bool}{ps:List (R×R)}{rs:List (Bool×Bool)}:Qx p q e l->oM ps rs->oM ((p,q)::ps) ((e,l)::rs)
def Dd:List Int->List Int->Bool|x::b,y::a=>if x=y then Dd b a else uk (y<x)|_,_=>D
def oN:∀{e f:List Int}{c b:List R},e.length=f.length->Ë (e.map V.int) c->Ë (f.map V.int) b->∃d,oM (c.zip b) d/\(cQ d).getD D=Dd e f
 |[],[],c,b,_,v,m=>by cases v;exact⟨[],.nil,rfl⟩|k::e,j::f,c,b,r,v,m=>by cases v with|cons p o=>cases m with|cons i g=>obtain⟨d,q,i2⟩:=oN (by simpa using r) o g;obtain⟨t,rfl⟩:=p;obtain⟨n,rfl⟩:=i;refine⟨(k==j,uk (j<k))::d,.cons (λa w A E s=>⟨(vx s.heap A D k j t n a w E s rfl).1,λQ h=>(PyProof.Rows.gt_int h:q_ (w_ a w) A (TZ .Gt (.int k t) (.int j n)) Q E s)⟩) q,?_⟩;rw[fJ,i2];simp[Dd]
 |[],_::_,_,_,h,_,_=>by simp at h|_::_,[],_,_,h,_,_=>by simp at h
section
open PySem.SeqAt
open PySem.AutoSeq1(wpAny_loadPart')
open PySem.MeetsSeq PySem.MeetsSeq2 PySem.MeetsSeq3
def zU(l b:O)(f c:Array R)(n n2:Nat)(dd H:Option O)(sl B:Array (Option R))(u:List (Bool×Bool))(hi:oM (f.toList.zip c.toList) u)(hz:f.size=c.size):Meets (U9.«tuple.__gt__» ⟨[.ref l,.ref b],[]⟩) (λ_ a s=>s.heap.get? l=Z {cls:=.type "tuple",dict:=dd,data:=.seq f n,slots:=sl}/\s.heap.get? b=Z {cls:=.type "tuple",dict:=H,data:=.seq c n2,slots:=B}/\a (.ok (.ret (.bool ((cQ u).getD D)))) s):=.of_wp λk w A a s h=>by
 obtain⟨v,g,d,q,os⟩:=s;obtain⟨hl,hb,h⟩:=h;have I:=Zx;wp_walk using YF hl,YF hb,Xj _ (λrest b o=>b.1=U/\o=⟨v,g,d,q,os⟩/\∃j,oM rest j/\a (.ok (.ret (.bool ((cQ j).getD D)))) ⟨v,g,d,q,os⟩) _;case turn=>rintro⟨y,x⟩rest b o⟨m,rfl,j,z,p⟩;cases z with|cons i r=>rename_i e lw P;rw[fJ]at p;refine ck ((i k w _ _ _).1 _ ?_);cases e with|true=>wp_walk;exact⟨rfl,rfl,_,r,by simpa using p⟩|false=>have E:=λQ h=>(i k w A.in1 (λe o=>a (.error e) o) ⟨v,g,d,q,os⟩).2 Q h;wp_walk using E;exact⟨_,rfl,by simpa using p⟩
 case fin=>rintro⟨b1,b2⟩o⟨m,rfl,j,z,p⟩;simp only at m;subst m;cases z;wp_walk;exact⟨_,rfl,by simpa[Yq,hz,cQ]using p⟩
 case h=>exact⟨rfl,rfl,u,hi,h⟩
end
end TS
namespace FD
open L2 TS
def V':N->N->Option (Rs N)|.tup d,.tup c=>(match jA d,jA c with|some a,Z b=>if a.length=b.length then Z (.ok (.bl (Dd a b)))else U|_,_=>U)|_,_=>U
def R6:R2:=λx y H Q=>∃a b c d,x=.ref a/\y=.ref b/\H a=Z (.tup (c.map V.int))/\H b=Z (.tup (d.map V.int))/\c.length=d.length/\Q (.bl (Dd c d)) H
def mO{K:d_}{H:Hp}:∀{c:List N}{b:List Int}{a:List V},jA c=Z b->S K H c a->a=b.map V.int|[],b,a,h,r=>by cases h;exact(show a=[]from r)|.int x::c,b,a,h,r=>by obtain⟨v,d,rfl,f,e⟩:∃v d,a=v::d/\Ð K H (.int x) v/\S K H c d:=r;cases(show v=.int x from f);obtain⟨i,g,rfl⟩:=UX.mp (show(jA c).map (x::·)=Z b from h);rw[mO g e];rfl|.non::_,_,_,h,_=>by cases h|.bl _::_,_,_,h,_=>by cases h|.str _::_,_,_,h,_=>by cases h|.tup _::_,_,_,h,_=>by cases h|.lst _::_,_,_,h,_=>by cases h|.scr _::_,_,_,h,_=>by cases h|.exn _::_,_,_,h,_=>by cases h|.obj _ _::_,_,_,h,_=>by cases h
def Qy(hu:a.A.units+64<cLine):û a (TZ .Gt) R6:=by
 intro f' s σ H x y v u Q I rx P h;obtain⟨c,b,ns,ms,rfl,rfl,ha,hb,hl,q⟩:=h;cases rx;cases P;obtain⟨e,p,p1,_⟩:=I.tuple (ð.of ha);obtain⟨d,o,p2,_⟩:=I.tuple (ð.of hb);obtain⟨j,i1,i2⟩:=oN hl p o;obtain⟨⟨a',dd,A,E⟩,r,z,n,w⟩:=id p1;obtain⟨⟨B,m,data2,k⟩,f,i,n2,g⟩:=id p2;simp only at z w i g;subst z w i g;have hz:e.toArray.size=d.toArray.size:=by have e1:=p.length;have e2:=o.length;simp at e1 e2⊢;omega
 rw[<-i2]at q;exact ZW (op:=.Gt) ⟨_,r,rfl⟩ ⟨_,f,rfl⟩ PySem.F.slot_tuple_gt PySem.F.entry_tuple_gt (PySem.F.args_tuple_gt_2 _ _) (zU c b e.toArray d.toArray n n2 dd m E k j i1 hz) ⟨r,f,show H_ ((cQ j).getD D)≠aaC/\_ from⟨(λx=>nomatch x),.bl ((cQ j).getD D),H,I,rfl,q⟩⟩ (by omega)
def Qz:Ĕ a R6 V':=by
 intro q p x y H Q g f o;cases q<;>cases p<;>try exact(show False from o).elim
 rename_i v u;simp only[V']at o;split at o
 · rename_i i j n m;split at o;·rename_i k;obtain⟨c,w,rfl,e,r⟩:=g.tupE;obtain⟨b,s,rfl,d,h⟩:=f.tupE;rw[mO n r]at e;rw[mO m h]at d;exact⟨c,b,i,j,rfl,rfl,e,d,k,o _ H (.refl H) rfl⟩
   ·exact o.elim
 ·exact o.elim
def ix(k:Int):List Int->Nat|[]=>0|m::r=>if m=k then 0 else ix k r+1
def er(k:Int):List Int->List Int|[]=>[]|m::r=>if m=k then r else m::er k r
structure S2(X:C)(i k:Nat)(a b:O)(H:Hp)(σ:L2.St)(Hf:Hp)(ρ:Ev):Prop where
 off:∀c,c≠a->c≠b->Hf c=H c
 na:H a=U
 nb:H b=U
 ne:a≠b
 ia:σ[i]?=Z (Z (.ref a))kb:σ[k]?=Z (Z (.ref b))len:σ.length=ρ.length
 low:∀j d,j≠i->j≠k->ρ[j]?=Z (Z d)->∃v,σ[j]?=Z (Z v)/\Ð X.K H d v
 fst:∃ds xs,ρ[i]?=Z (Z (.lst ds))/\Hf a=Z (.lst xs)/\S X.K H ds xs
 snd:∃es ys,ρ[k]?=Z (Z (.lst es))/\Hf b=Z (.lst ys)/\S X.K H es ys
abbrev FnP:=Ev->Option Ev
end FD
namespace L2
def rW[DecidableEq P](a:List (P×V))(k:P):Option V:=(a.find? λb=>uk (b.1=k)).map (·.2)
def uj[DecidableEq P](a:List (P×V))(k:P)(v:V):List (P×V):=if(a.any λb=>uk (b.1=k))=L then a.map (λb=>if b.1=k then(b.1,v)else b)else a++[(k,v)]
def lT[DecidableEq P]{p:P×V}{r:List (P×V)}{k:P}(e:p.1=k):rW (p::r) k=Z p.2:=by simp[rW,VX,e]
def lW[DecidableEq P]{p:P×V}{r:List (P×V)}{k:P}(e:¬p.1=k):rW (p::r) k=rW r k:=by simp[rW,VX,e]
def vK{b:Type}[DecidableEq b](k:b):∀a:List (b×V),(a.any λc=>uk (c.1=k))=(rW a k).isSome
 |[]=>rfl|p::r=>by
  rw[Vw];by_cases e:p.1=k;·simp only[lT e,decide_eq_true e,Bool.true_or,abl]
  ·rw[lW e,decide_eq_false e,Bool.false_or];exact vK k r
def mP[DecidableEq P](a:List (P×V))(k:P)(v:V):(uj a k v).length<=a.length+1:=by
 unfold uj;split;·rw[N_];omega
 ·rw[Uw,TW,acd];omega
def Ď.isSome_eq{o:Option V}{u:Option R}(r:Ď o u):o.isSome=u.isSome:=by cases o with
 |none=>cases u with|none=>rfl|some _=>exact(show False from r).elim
 |some _=>cases u with|none=>exact(show False from r).elim|some _=>rfl
def Ď.getD{o:Option V}{u:Option R}(r:Ď o u)(a:Ô υ ψ):Ô (o.getD υ) (u.getD ψ):=by cases o with
 |none=>cases u with|none=>exact a|some _=>exact(show False from r).elim
 |some _=>cases u with|none=>exact(show False from r).elim|some _=>exact r
def KV.val[DecidableEq P]{a:List (P×V)}{f:List (P×R)}(r:KV a f)(k:P):Ď (rW a k) (abp f k):=by unfold KV at r;induction r with|nil=>exact Wv|@cons p q m c h t i=>
 obtain⟨g,j⟩:=h;by_cases e:p.1=k
 · have d:q.1=k:=g.symm.trans e;have b:abp (q::c) k=Z q.2:=by simp[abp,VX,d]
   rw[lT e,b];exact j
 · have d:¬q.1=k:=λz=>e (g.trans z);have b:abp (q::c) k=abp c k:=by simp[abp,VX,d]
   rw[lW e,b];exact i
def KV.any[DecidableEq P]{a:List (P×V)}{c:List (P×R)}(r:KV a c)(k:P):(a.any λb=>uk (b.1=k))=c.any λb=>uk (b.1=k):=by unfold KV at r;induction r with|nil=>rfl|cons h t d=>rw[Vw,Vw,d,h.1]
def KV.repl[DecidableEq P]{b:List (P×V)}{d:List (P×R)}(r:KV b d)(k:P){y:V}{u:R}(f:Ô y u):KV (b.map λa=>if a.1=k then(a.1,y)else a) (d.map λa=>if a.1=k then(a.1,u)else a):=by unfold KV at r⊢;induction r with|nil=>exact .nil|@cons p q m j h t g=>
 rw[F_,F_];refine .cons ?_ g;obtain⟨c,i⟩:=h;by_cases e:p.1=k;·rw[if_pos e,if_pos (c.symm.trans e)];exact⟨c,f⟩
 ·rw[if_neg e,if_neg (λz=>e (c.trans z))];exact⟨c,i⟩
def KV.put[DecidableEq P]{a:List (P×V)}{b:List (P×R)}(r:KV a b)(k:P){y:V}{u:R}(c:Ô y u):KV (uj a k y) (stored b k u):=by
 unfold uj stored;rw[r.any k];by_cases e:(b.any λd=>uk (d.1=k))=L;·rw[if_pos e,if_pos e];exact r.repl k c
 ·rw[if_neg e,if_neg e];exact Paired.snoc r ⟨rfl,c⟩
def KV.length[DecidableEq P]{a:List (P×V)}{b:List (P×R)}(r:KV a b):a.length=b.length:=Zt r
def HK{k:ï}(r:Ô (kV k) ψ):(c7 n j).is k ψ=L:=by cases k with|inl i=>obtain⟨t,e⟩:=(show∃t,ψ=ZF i t from r);subst e;exact tu n j i t|inr x=>obtain⟨t,e⟩:=(show∃t,ψ=U5 x t from r);subst e;exact tw n j x t
def rX{P:n_}{w:y_}:∀{a:List ï}{b:List R},Ë (a.map kV) b->ItemsAre (c7 P w) a b|[],_,r=>by rw[YU]at r;cases r;exact .nil|k::a,_,r=>by rw[F_]at r;cases r with|cons h t=>exact .cons (HK h) (rX t)
abbrev KT(H:Hp):List (List ï×V)->List (List ï×O×R)->Prop:=acz λp q=>p.1=q.1/\H q.2.1=Z (.tup (p.1.map kV))/\Ô p.2 q.2.2
def KT.val{a:List (List ï×V)}{g:List (List ï×O×R)}(r:KT f a g)(k:List ï):Ď (rW a k) ((J' g k).map (·.2)):=by induction r with|nil=>exact Wv|@cons p q n c h t j=>
 obtain⟨i,_,m⟩:=h;by_cases e:p.1=k
 · have d:q.1=k:=i.symm.trans e;have b:J' (q::c) k=Z q.2:=by simp[J',VX,d]
   rw[lT e,b];exact m
 · have d:¬q.1=k:=λz=>e (i.trans z);have b:J' (q::c) k=J' c k:=by simp[J',VX,d]
   rw[lW e,b];exact j
def KT.repl{a:List (List ï×V)}{d:List (List ï×O×R)}(r:KT f a d)(k:List ï){y:V}{u:R}(i:Ô y u):KT f (a.map λc=>if c.1=k then(c.1,y)else c) (d.map (putAt k u)):=by induction r with|nil=>exact .nil|@cons p q o n h t j=>
 rw[F_,F_];refine .cons ?_ j;obtain⟨b,g,m⟩:=h;unfold putAt;by_cases e:p.1=k;·rw[if_pos e,if_pos (b.symm.trans e)];exact⟨b,g,i⟩
 ·rw[if_neg e,if_neg (λz=>e (b.trans z))];exact⟨b,g,m⟩
def KT.put{a:List (List ï×V)}{c:List (List ï×O×R)}(r:KT f a c)(k:List ï){b:O}{y:V}{u:R}(h:f b=Z (.tup (k.map kV)))(d:Ô y u):KT f (uj a k y) (storedH c k b u):=by
 have e:(a.any λg=>uk (g.1=k))=(J' c k).isSome:=by rw[vK,(r.val k).isSome_eq,Option.isSome_map]
 unfold uj storedH;rw[e];by_cases q:(J' c k).isSome=L;·rw[if_pos q,if_pos q];exact r.repl k d
 ·rw[if_neg q,if_neg q];exact Paired.snoc r ⟨rfl,h,d⟩
def KT.keeps{a:List (List ï×V)}{d:List (List ï×O×R)}(r:KT f a d)(e:∀b c,f b=Z (.tup c)->Α b=Z (.tup c)):KT Α a d:=Paired.mapP r λ_ _ z=>⟨z.1,e _ _ z.2.1,z.2.2⟩
def Mr{u:HO}(b:Č n j f ε)(a:Rd f e u):â n j f ε e u:=a.ok b
def HL{b:List (ï×V)}(d:Č n j f ε)(a:Rd f e (.dK b)):b.length<=sizeLine/\(e==Wy)=D/\∃c,KV b c/\ε.DictOf (c7 n j) e c:=show â n j f ε e (.dK b)from Mr d a
def QC{b:List (ï×V)}(d:Č n j f ε)(a:f e=Z (.dK b)):b.length<=sizeLine/\(e==Wy)=D/\∃c,KV b c/\ε.DictOf (c7 n j) e c:=HL d (.inl a)
def iz{c:List ï}(g:Č n j f ε)(b:f e=Z (.tup (c.map kV))):(ZA (c7 n j)).is ε c e:=by obtain⟨_,d,r,o,k,i,a,h⟩:=(show â n j f ε e (.tup (c.map kV))from g e _ b);exact⟨o,d.toArray,a,k,i,h,by simpa using rX r⟩
def HM{b:List (List ï×V)}(g:Č n j f ε)(a:Rd f e (.dT b)):b.length<=sizeLine/\(e==Wy)=D/\∃d,KT f b d/\ε.DictOfH (ZA (c7 n j)) e d:=by
 obtain⟨z,y,d,r,o,A,B,w,v,u,s,k⟩:=(show â n j f ε e (.dT b)from Mr g a);refine⟨z,y,d,r,o,A,B,w,v,u,s,λx c=>?_,k⟩;have all:∀{l:List (List ï×V)}{m:List (List ï×O×R)},KT f l m->∀x∈m,(ZA (c7 n j)).is ε x.1 x.2.1:=by intro l m q;induction q with|nil=>intro x c;exact nomatch c|@cons p q H E h t i=>
  intro x c;rcases v_.mp c with a|c;·subst a;exact iz g (by rw[<-h.1];exact h.2.1)
  ·exact i x c
 exact all r x c
def Ms{b:List (List ï×V)}(d:Č n j f ε)(a:f e=Z (.dT b)):b.length<=sizeLine/\(e==Wy)=D/\∃c,KT f b c/\ε.DictOfH (ZA (c7 n j)) e c:=HM d (.inl a)
def ŗ(H:Hp)(a:O)(y:V)(r:Option V):Prop:=(∃c k,Rd H a (.dK c)/\y=kV k/\r=rW c k)\/∃c k b,Rd H a (.dT c)/\y=.ref b/\H b=Z (.tup (k.map kV))/\r=rW c k
def Ŝ(H:Hp)(a:O)(y v:V)(d:Hp):Prop:=(∃c k,H a=Z (.dK c)/\y=kV k/\c.length<sizeLine/\d=Û H a (.dK (uj c k v)))\/∃c k b,H a=Z (.dT c)/\y=.ref b/\H b=Z (.tup (k.map kV))/\c.length<sizeLine/\d=Û H a (.dT (uj c k v))
def ŗ.t{b:List (List ï×V)}{k:List ï}(a:f e=Z (.dT b))(c:f y=Z (.tup (k.map kV))):ŗ f e (.ref y) (rW b k):=.inr ⟨b,k,y,.inl a,rfl,c,rfl⟩
def Ŝ.t{b:List (List ï×V)}{k:List ï}(a:f e=Z (.dT b))(d:f y=Z (.tup (k.map kV)))(c:b.length<sizeLine):Ŝ f e (.ref y) υ (Û f e (.dT (uj b k υ))):=.inr ⟨b,k,y,a,rfl,d,c,rfl⟩
def Ê.big(I:Ê a δ Τ f d):Wy<d.heap.objs.size:=by have h:R_<d.heap.objs.size:=(I.mod.glob.keeps I.bk).lt;exact YT (by decide) h
def zV{g:HO}(I:Ê a δ Τ f d)(i:Mut (f e))(j:VA e d.heap ε)(k:∃q,ε.get? e=Z q)(h:â a.prog a.w (Û f e g) ε e g):Ê a δ Τ (Û f e g) {d with heap:=ε,toks:=b}:=I.write (x:=e) (e:=e) i (.inl rfl) (λc q m z=>(j.2 c m).trans z) k h
def Mt{a:List (ï×V)}{b:List (ï×R)}(z:a.length<=sizeLine)(d:(e==Wy)=D)(c:KV a b)(g:ε.DictOf (c7 n j) e b):â n j f ε e (.dK a):=⟨z,d,b,c,g⟩
def zW{v:V}{r:R}{Q:Unit->ge->Prop}(hu:s.units+1<cLine)(I:Ê a δ Τ f d)(g:Ŝ f e υ v Α)(P:Ô υ ψ)(rv:Ô v r)(h:∀H,Ê a δ Τ Α H->Q () H):q_ (w_ a.prog a.w) s (setItem (.ref e) ψ r) Q θ d:=by
 rcases g with⟨m,k,i,A,l,B⟩|⟨m,k,b,i,A,eb,l,B⟩
 · subst A B;obtain⟨z,y,vs,j,E⟩:=QC I.hok i;have p:vs.length<=sizeLine:=by rw[<-j.length];exact z
   have w:(uj m k v).length<=sizeLine:=by have:=mP m k v;omega
   refine wpAny_setItem_pairs (hsz:=p) (HK P) E λh' n u=>h _ ?_;have he:∃q,h'.get? e=Z q:=let⟨q,_,_,o,_⟩:=n;⟨q,o⟩;exact zV I (by rw[i];exact Wv) u he (Mt w y (j.put k rv) n)
 · subst A B;cases(show ψ=z_ b from P);obtain⟨z,y,xs,j,E⟩:=Ms I.hok i;have p:xs.length<=sizeLine:=by rw[<-Zt j];exact z
   have w:(uj m k v).length<=sizeLine:=by have:=mP m k v;omega
   refine wpAny_setItem_heap (hsz:=p) (tupleKind_room_in1 hu) (iz I.hok eb) E λh' n u=>h _ ?_;obtain⟨q,es,ep,o,h2,h3,h4,_,h5⟩:=n;refine zV I (by rw[i];exact Wv) u ⟨q,o⟩ ⟨w,y,_,(j.put k eb rv).keeps λc ys ec=>?_,q,es,ep,o,h2,h3,h4,h5⟩;rw[aB (O4 ec i (λz=>nomatch z))];exact ec
def QD(g e f:TE):TS:=λb c H=>f c H λv j=>g c j λx i=>e c i λy h=>∃a d,x=.ref a/\Ŝ h a y v d/\b.nx c d
def HN{e:u_}{j m:TE}(hu:a.A.units+1<cLine)(ho:PE a g Φ)(hi:PE a w j)(hv:PE a e m)(hs:UD e (Z (.Subscript g w z)) k.line a.env=pure D):PS a (.Assign [.Subscript g w z] e k) (QD Φ j m):=by intro i s f H d I h;refine wpAny_Assign_Subscript (á (hv i s f H _ I h) λr o⟨v,H1,I1,A,P⟩=>á (ho i o f H1 _ I1 P) λu n⟨x,H2,I2,q,E⟩=>á (hi i n f H2 _ I2 E) λiv s3⟨y,H3,I3,p,c,H4,ex,b,B⟩=>?_) hs;subst ex;obtain rfl:u=z_ c:=q;exact zW hu I3 b p A λs4 I4=>⟨f,H4,I4,B⟩
def De(h:O_)(a:Wy<h.objs.size):â n j f (h.push {cls:=.type "dict",data:=.dict #[]}) h.objs.size (.dT []):=⟨TN _,beq_eq_false_iff_ne.mpr (VB (A_ a)),[],.nil,_,#[],0,m_ _ rfl,⟨rfl,rfl,rfl⟩,rfl,rfl,aaO⟩
def Mu:TE:=λ_ H Q=>∀p,H p=U->Q (.ref p) (Û H p (.dT []))
def Df:PE a (.Dict [] [] k) Mu:=λc s b H Q I h=>wpAny_Dict_empty ⟨.ref s.heap.objs.size,_,I.laid (a:=s.heap.objs.size) (o:=.dT []) (t':=s.toks) (λ_ _ q=>i_ _ q) (o_ _) (De s.heap I.big),rfl,h _ (I.hok.fresh (o_ _))⟩
structure M2(X:C)(o:u_)(m:Str)(apos:Pos)(e f:u_)(cpos:Pos):Prop where
 base:UQ o m X.env (eval o X.env)=eval o X.env
 few:((TF cpos (k_ [e,f] X.env)).all (λx=>!x.1)&&(Va cpos (Us [] X.env)).all (λx=>x.1.isSome)&&uk (([e,f]:List u_).length+([]:List V0).length+(if([]:List V0).isEmpty then 0 else 1)<30))=L
 line:(apos.endLine==cpos.line)=L
 trees:TF cpos (k_ [e,f] X.env)=[(D,eval e X.env),(D,eval f X.env)]
def IsD(H:Hp)(a:O):Prop:=(∃b,Rd H a (.dK b))\/∃b,Rd H a (.dT b)
def Fd(I:Ê a δ Τ f d)(g:IsD f e):d.TypeIs (.ref e) "dict"/\(∀b,z_ e=.ref b->∃h,d.heap.get? b=Z h/\h.dict=U)/\(e==Wy)=D:=by
 rcases g with⟨n,c⟩|⟨n,c⟩;·obtain⟨_,j,p,_,i⟩:=HL I.hok c;refine⟨i.typeIs,λb q=>?_,j⟩;cases q;obtain⟨h,_,_,m,k,_⟩:=i;exact⟨h,m,k.2.1⟩
 ·obtain⟨_,j,o,_,i⟩:=HM I.hok c;refine⟨i.typeIs,λb q=>?_,j⟩;cases q;obtain⟨h,_,_,m,k,_⟩:=i;exact⟨h,m,k.2.1⟩
def Mv{i:V}{r:R}{o:Option V}(B:s.units+1<cLine)(I:Ê a δ Τ f d)(g:ŗ f e υ o)(w:Ô υ ψ)(y:Ô i r)(h:∀u v,Ê a δ Τ f v->Ô (o.getD i) u->Ω u v):q_ (w_ a.prog a.w) s (call (.builtin "dict.get") [.ref e,ψ,r]) Ω θ d:=by
 rcases g with⟨q,k,c,p,l⟩|⟨q,k,b,c,p,E,l⟩;·subst p;obtain⟨z,n,H,j,m⟩:=HL I.hok c;refine call_meetsIn Ys m.typeIs Z4 (ZM _ _ _) (meets_dict_get_default (c7 a.prog a.w) e (HK w) n r) ⟨_,m.mapOf,h _ _ (I.tok _) ?_⟩;rw[l];exact(j.val k).getD y
 ·subst p;cases(show ψ=z_ b from w);obtain⟨z,n,A,j,m⟩:=HM I.hok c;refine call_meetsIn Ys m.typeIs Z4 (ZM _ _ _) (meetsH_dict_get_default (ZA (c7 a.prog a.w)) e b n r) ⟨tupleKind_room_in1 B,k,A,iz I.hok E,m,h _ _ (I.tok _) ?_⟩;rw[l];exact(j.val k).getD y
def Mw(g e f:TE):TE:=λb H Q=>g b H λx d=>∃a,x=.ref a/\IsD d a/\e b d λy h=>f b h λz c=>∃o,ŗ c a y o/\Q (o.getD z) c
def Dg{f:u_}{o p:TE}(hu:a.A.units+1<cLine)(ho:PE a g Φ)(he:PE a w o)(hf:PE a f p)(m:M2 a g "get" k w f z):PE a (.Call (.Attribute g "get" k) [w,f] [] z) (Mw Φ o p):=by intro j s i H Q I h;refine wpAny_Call_method m.base m.few m.line ZK Ys PySem.F.type_dict_get (á (ho j s i H _ I h) λu B⟨x,H1,q,rx,c,ex,d,q1⟩=>?_);subst ex;obtain rfl:u=z_ c:=rx;obtain⟨v,r,_⟩:=Fd q d;refine⟨v,r,?_⟩;rw[m.trees];refine Yc rfl (aaK (V_ (á (he j B i H1 _ q q1) λiv A⟨y,H2,I2,P,q2⟩=>V_ (á (hf j A i H2 _ I2 q2) λfv s3⟨e,H3,I3,E,ov,b,q3⟩=>Wo ?_))));exact Mv hu I3 b P E λw' s4 I4 n=>⟨_,H3,I4,n,q3⟩
end L2
namespace FD
open L2
abbrev Kv:=List (List Str×N)
def NoD(u:HO):Prop:=∀a,u≠.dT a
mutual
theorem Ð.off{K:d_}{H j:Hp}(k:∀b u,NoD u->H b=Z u->j b=Z u):∀(d:N)(v:V),Ð K H d v->Ð K j d v|.non,_,h=>h|.bl _,_,h=>h|.int _,_,h=>h|.str _,_,h=>h|.tup e,v,h=>by obtain⟨a,g,r,h,q⟩:=h.tupE;exact⟨a,g,r,k _ _ (λ_ z=>by cases z) h,S.off k e g q⟩|.lst e,v,h=>by obtain⟨a,g,r,h,q⟩:=h.lstE;exact⟨a,g,r,k _ _ (λ_ z=>by cases z) h,S.off k e g q⟩|.scr m,v,h=>by obtain⟨a,r,h⟩:∃a,v=.ref a/\ŷ K H a (m.map V.int):=h;exact⟨a,r,h.imp (λ⟨o,h⟩=>⟨o,k _ _ (λ_ z=>by cases z) h⟩) id⟩|.exn c,v,h=>by obtain⟨a,o,u,C,r,h,q⟩:∃a o u C,v=.ref a/\H a=Z (.frz o u)/\o.cls=.ref C/\Vc K R_ (KE c)=Z (Z (.ref C)):=h;exact⟨a,o,u,C,r,k _ _ (λ_ z=>by cases z) h,q⟩|.obj c e,v,h=>by obtain⟨a,C,p,f,r,h,n,q,l⟩:=h.objE;exact⟨a,C,p,f,r,k _ _ (λ_ z=>by cases z) h,n,S.off k e f q,l⟩theorem S.off{K:d_}{H j:Hp}(k:∀b u,NoD u->H b=Z u->j b=Z u):∀(e:List N)(f:List V),S K H e f->S K j e f|[],_,h=>h|d::e,f,h=>by obtain⟨v,i,r,h,q⟩:∃v i,f=v::i/\Ð K H d v/\S K H e i:=h;exact⟨v,i,r,Ð.off k d v h,S.off k e i q⟩end
def kS(k:List Str):List ï:=k.map ZT
def zX{j:List Str}(h:kS u=kS j):u=j:=(List.map_inj_right λa b h=>Sum.inr.inj h).mp h
def Fe(a:Kv)(k:List Str)(d:N):Kv:=if(a.any λp=>uk (p.1=k))=L then a.map (λp=>if p.1=k then(p.1,d)else p)else a++[(k,d)]
def zY(a:Kv)(k:List Str):Option N:=(a.find? λp=>uk (p.1=k)).map (·.2)
inductive KD(K:d_)(H:Hp):Kv->List (List ï×V)->Prop|nil:KD K H [] []|cons{k:List Str}{d:N}{v:V}{kv:Kv}{kvs:List (List ï×V)}:Ð K H d v->KD K H kv kvs->KD K H ((k,d)::kv) ((kS k,v)::kvs)
def KD.mono{K:d_}{H c:Hp}(f:∀d v,Ð K H d v->Ð K c d v):∀{b:Kv}{a:List (List ï×V)},KD K H b a->KD K c b a|_,_,.nil=>.nil|_,_,.cons r t=>.cons (f _ _ r) (KD.mono f t)
def KD.length{K:d_}{H:Hp}:∀{b:Kv}{a:List (List ï×V)},KD K H b a->b.length=a.length|_,_,.nil=>rfl|_,_,.cons r t=>by rw[TW,TW,KD.length t]
def KD.any{K:d_}{H:Hp}(k:List Str):∀{b:Kv}{a:List (List ï×V)},KD K H b a->(a.any λp=>uk (p.1=kS k))=b.any λp=>uk (p.1=k)|_,_,.nil=>rfl|_,_,.cons (k:=j) r t=>by rw[Vw,Vw,KD.any k t];congr 1;show uk (kS j=kS k)=uk (j=k);rw[U4];simp only[decide_eq_true_eq];exact⟨zX,λh=>by rw[h]⟩
def KD.map{K:d_}{H:Hp}{k:List Str}{d:N}{v:V}(b:Ð K H d v):∀{c:Kv}{a:List (List ï×V)},KD K H c a->KD K H (c.map λp=>if p.1=k then(p.1,d)else p) (a.map λp=>if p.1=kS k then(p.1,v)else p)
 |_,_,.nil=>.nil|_,_,.cons (k:=j) r t=>by
  rw[F_,F_];by_cases h:j=k;·subst h;simp only[if_true];exact .cons b (KD.map b t)
  ·have e:¬kS j=kS k:=λz=>h (zX z);simp only[h,e,if_false];exact .cons r (KD.map b t)
def KD.snoc{K:d_}{H:Hp}{k:List Str}{d:N}{v:V}(b:Ð K H d v):∀{c:Kv}{a:List (List ï×V)},KD K H c a->KD K H (c++[(k,d)]) (a++[(kS k,v)])|_,_,.nil=>.cons b .nil|_,_,.cons r t=>.cons r (KD.snoc b t)
def KD.put(b:Ð v f i υ){c:Kv}{a:List (List ï×V)}(t:KD v f c a):KD v f (Fe c u i) (uj a (kS u) υ):=by
 unfold Fe uj;rw[t.any u];split;·exact KD.map b t
 ·exact KD.snoc b t
def KD.val{K:d_}{H:Hp}(k:List Str):∀{b:Kv}{a:List (List ï×V)},KD K H b a->(match zY b k with|some d=>∃v,rW a (kS k)=Z v/\Ð K H d v|none=>rW a (kS k)=U)
 |_,_,.nil=>rfl|_,_,.cons (k:=j) (d:=d) (v:=v) (kv:=b) (kvs:=a) r t=>by
  by_cases h:j=k
  · subst h;have e:zY ((j,d)::b) j=Z d:=by simp[zY]
    have c:rW ((kS j,v)::a) (kS j)=Z v:=lT rfl;rw[e];exact⟨v,c,r⟩
  · have e:zY ((j,d)::b) k=zY b k:=by simp[zY,VX,h]
    have c:rW ((kS j,v)::a) (kS k)=rW a (kS k):=lW λz=>h (zX z);rw[e,c];exact KD.val k t
def ń(a:O)(H c:Hp):Prop:=∀b u,b≠a->H b=Z u->c b=Z u
structure T1(X:C)(i:Nat)(a:O)(H:Hp)(σ:L2.St)(ρ:Ev)(kv:Kv):Prop where
 ia:σ[i]?=Z (Z (.ref a))no:∀d,ρ[i]?≠Z (Z d)env:Ø X.K H σ ρ
 dct:∃kvs,H a=Z (.dT kvs)/\KD X.K H kv kvs
def T1.mono{h:Kv}(T:T1 a b e f Ν ζ h)(c:Í f Α):T1 a b e Α Ν ζ h:=by obtain⟨g,j,i⟩:=T.dct;exact⟨T.ia,T.no,T.env.mono c,g,c _ _ j,i.mono λd v r=>Ð.mono c d v r⟩
def T1.set{c:Kv}(T:T1 a b e f Ν ζ c){j:Nat}(g:j≠b){d:N}{v:V}(r:Ð a.K f d v):T1 a b e f (Ν.set j (Z v)) (ζ.set j (Z d)) c:=⟨by rw[E_ g];exact T.ia,λh=>by rw[E_ g];exact T.no h,T.env.set r,T.dct⟩
def T1.put{h:Kv}(T:T1 a b e f Ν ζ h){k:List Str}{d:N}{v:V}{g:List (List ï×V)}(A:f e=Z (.dT g))(y:KD a.K f h g)(r:Ð a.K f d v):T1 a b e (Û f e (.dT (uj g (kS k) v))) Ν ζ (Fe h k d):=by
 have i:∀c u,NoD u->f c=Z u->Û f e (.dT (uj g (kS k) v)) c=Z u:=λc u p q=>by
  have w:c≠e:=λz=>by rw[z,A]at q;cases q;exact p _ rfl
  rw[aB w];exact q
 refine⟨T.ia,T.no,⟨T.env.len,λj B s=>?_⟩,_,au,(y.put r).mono λd v r=>Ð.off i d v r⟩;obtain⟨m,o,n⟩:=T.env.at' j B s;exact⟨m,o,Ð.off i _ _ n⟩
def QF:N->Option (List Str)|.tup a=>bD a|_=>U
def zZ(h:QF i=Z u)(r:Ð v f i υ):∃b,υ=.ref b/\f b=Z (.tup ((kS u).map kV)):=by
 cases i<;>try(cases h;done)
 rename_i c;obtain⟨a,d,rfl,p,o⟩:=r.tupE;refine⟨a,rfl,?_⟩;have e:∀{c:List N}{u:List Str}{d:List V},bD c=Z u->S v f c d->d=(kS u).map kV:=by intro c;induction c with|nil=>intro u d h r;cases h;exact(show d=[]from r)|cons i c n=>
  intro u d h r;obtain⟨υ,g,rfl,k,m⟩:∃υ g,d=υ::g/\Ð v f i υ/\S v f c g:=r;cases i<;>try(cases h;done)
  rename_i z;cases j:bD c with|none=>simp[bD,j]at h|some q=>simp[bD,j]at h;subst h;cases(show υ=.str z from k);rw[n j m];rfl
 rw[p,e h o]
abbrev ł:=Ev->Kv->Option N
def tV(X:C)(i:Nat)(g:ł):TE:=λf H Q=>∃a c e,T1 X i a H f c e/\∃d,g c e=Z d/\∀v b,Í H b->Ð X.K b d v->Q v b
structure FV(X:C)(i:Nat)(e:u_)(g:ł):Prop where h:PE X e (tV X i g)
def vE(f:Ò):ł:=λa _=>match f a with|some (.ok d)=>Z d|_=>U
def HP(c e:Ò):ł:=λa b=>match c a,e a with|some (.ok k),Z (.ok d)=>(match QF k with|some k=>Z ((zY b k).getD d)|none=>U)|_,_=>U
def oO(F:Ó)(g:ł)(f:Ò):ł:=λa b=>match g a b,f a with|some x,Z (.ok y)=>(match F [x,y]with|some (.ok d)=>Z d|_=>U)|_,_=>U
abbrev Ľ:=Ev->Kv->Option (Ev×Kv)
def tDc(X:C)(i:Nat)(f:Ľ):TS:=λb k H=>∃a h j,T1 X i a H k h j/\∃d e,f h j=Z (d,e)/\∀c g,ń a H g->T1 X i a g c d e->b.nx c g
structure FDs(X:C)(i:Nat)(st:List UH)(f:Ľ):Prop where h:ĳ X st (tDc X i f)
structure Dh(X:C)(i:Nat)(st:UH)(f:Ľ):Prop where h:PS X st (tDc X i f)
def HQ(c:Ò)(g:ł):Ľ:=λa b=>match g a b,c a with|some d,Z (.ok k)=>(match QF k with|some k=>if b.length<100000 then Z (a,Fe b k d)else U|none=>U)|_,_=>U
def pJ(j:Nat)(a:Ľ):List N->Ľ|[],b,c=>Z (b,c)|d::g,b,c=>match a (b.set j (Z d)) c with|some (e,f)=>pJ j a g e f|none=>U
def HR(j:Nat)(b:Ò)(a:Ľ):Ľ:=λc d=>match b c with|some (.ok (.tup e))=>pJ j a e c d|_=>U
def ń.refl(a:O)(H:Hp):ń a H H:=λ_ _ _ h=>h
def ń.trans{a:Hp}(p:ń e f Α)(q:ń e Α a):ń e f a:=λb u n h=>q b u n (p b u n h)
def ń.of(a:Í f Α):ń e f Α:=λb u _ h=>a b u h
def QG(j:FE a g B):FV a b g (vE B):=⟨λk s f H Q I⟨c,i,m,T,d,e,q⟩=>j.h k s f H Q I ⟨i,T.env,by
 unfold vE at e;split at e;·rename_i n h;cases e;rw[h];exact q
 ·cases e⟩⟩
def Mx(hu:a.A.units+1<cLine)(hx:PE a (.Name c k) (xM b))(hk:FE a g B)(hd:FE a w Ç)(m:M2 a (.Name c k) "get" z g w Λ):FV a b (.Call (.Attribute (.Name c k) "get" z) [g,w] [] Λ) (HP B Ç):=⟨λf' s y H Q I⟨f,u,P,T,d,i,q⟩=>by
 refine Dg hu hx hk.h hd.h m f' s y H Q I ⟨.ref f,T.ia,f,rfl,?_⟩;obtain⟨r,h1,h2⟩:=T.dct;refine⟨.inr ⟨r,.inl h1⟩,u,T.env,?_⟩;unfold HP at i;split at i
 · rename_i k0 d0 e1 e2;split at i;·rename_i e ek;cases i;rw[e1];intro vk H1 p A;refine⟨u,(T.mono p).env,?_⟩;rw[e2];intro vd H2 o rd;obtain⟨h,rfl,hb⟩:=zZ ek (Ð.mono o _ _ A);have T2:=T.mono (p.trans o);obtain⟨j,g1,g2⟩:=T2.dct;refine⟨rW j (kS e),ŗ.t g1 hb,q _ H2 (p.trans o) ?_⟩;have n:=g2.val e;cases v:zY P e with|none=>rw[v]at n;rw[n];exact rd|some d1=>rw[v]at n;obtain⟨v1,e3,E⟩:=n;rw[e3];exact E
   ·cases i
 ·cases i⟩
def My{f:ł}(hu:a.A.units+1<cLine)(hx:PE a (.Name c z) (xM b))(hk:FE a g B)(hv:FV a b w f)(hs:UD w (Z (.Subscript (.Name c z) g Λ)) k.line a.env=pure D:=by lk):Dh a b (.Assign [.Subscript (.Name c z) g Λ] w k) (HQ B f):=⟨λf' s A H j I⟨e,E,kv,T,a',b',n,q⟩=>by
 unfold HQ at n;split at n
 · rename_i d k0 e1 e2;split at n
   · rename_i m ek;split at n
     · rename_i hl;cases n;refine HN hu hx hk.h hv.h hs f' s A H j I ⟨e,E,kv,T,d,e1,λv H1 y r1=>⟨.ref e,T.ia,E,(T.mono y).env,?_⟩⟩;rw[e2];intro vk H2 r rk;obtain⟨i,rfl,hb⟩:=zZ ek rk;have T2:=T.mono (y.trans r);obtain⟨o,g1,P⟩:=T2.dct;have p:o.length<sizeLine:=by have:=P.length;have h2:=bX (b:=o.length+1) (by omega);omega
       refine⟨e,_,rfl,Ŝ.t g1 hb p,q A _ (λi u hn h=>?_) (T2.put g1 P (Ð.mono r _ _ r1))⟩;rw[aB hn];exact r _ _ (y _ _ h)
     ·cases n
   ·cases n
 ·cases n⟩
def HS{f:Ľ}(h:Dh a b Η f):FDs a b [Η] f:=⟨o7 h.h⟩
def ð.offD{K:d_}{a b:O}{H e:Hp}{d:List V}{c:List (List ï×V)}(k:ń a H e)(f:H a=Z (.dT c))(h:H b=Z (.tup d)):e b=Z (.tup d):=k b _ (λz=>by rw[z,f]at h;cases h) h
def Mz{fb:Ľ}(j:Nat)(p':j≠b)(hp:W5 (w_ a.prog a.w) a.A a.env a.xe)(hc:a.calm=L)(hi:FE a g B)(hg:PG a (.Name c z) (wB j))(hb:FDs a b Ψ fb)(hs:∀x,TU g a.env x=pure x:=by intro _;lk):Dh a b (.For (.Name c z) g Ψ [] k) (HR j B fb):=⟨λf' s σ H o I⟨d,ρ,kv,T,e',h',hf,q⟩=>by
 refine qK hp hc (Ko hi.h) hg hb.h hs f' s σ H o I ⟨ρ,T.env,?_⟩;unfold HR at hf;split at hf
 · rename_i r hd;rw[hd];intro v H1 s1 r1;obtain⟨f,w,rfl,h1,h2⟩:=r1.tupE;refine⟨f,rfl,⟨w,ð.of h1⟩,?_⟩;have r':=T.mono s1;have s':r.length=w.length:=by have:=h2.length;omega
   refine⟨λn m a' H'=>m=r.length-n/\n<=r.length/\ń d H1 H'/\H' f=Z (.tup w)/\S a.K H' r w/\∃b' E,T1 a b d H' a' b' E/\pJ j fb (r.drop n) b' E=Z (e',h'),⟨r.length,by simp,TN _,ń.refl d H1,h1,h2,ρ,kv,r',by simpa using hf⟩,?_⟩;rintro n m a' H'⟨rfl,hn,g',P,i',b',E,Tn,p⟩;by_cases k':n<r.length
   · have hx:w[n]?=Z w[n]:=t_ (by omega);have l':r[n]?=Z r[n]:=t_ k';refine .inr ⟨⟨w,w[n],ð.of P,hx⟩,λd' H2=>ń d H1 H2/\H2 f=Z (.tup w)/\S a.K H2 r w/\∃y A,T1 a b d H2 d' y A/\pJ j fb (r.drop (n+1)) y A=Z (e',h'),λd' H2 e=>⟨r.length-(n+1),by omega,rfl,k',e⟩,λx H2 yl=>?_⟩;obtain⟨rfl,n'⟩:=yl;have ex:=n' w (ð.of P);rw[hx]at ex;cases ex;have rd:Ð a.K H2 r[n] w[n]:=FD.reps_at i' n _ _ l' hx;rw[iJ l']at p;unfold pJ at p;split at p
     · rename_i y A q';refine⟨d,_,E,Tn.set p' rd,y,A,q',λt' H3 c' T3=>⟨g'.trans c',?_,?_,y,A,T3,p⟩⟩;·obtain⟨m',g1,_⟩:=Tn.dct;exact ð.offD (K:=a.K) c' g1 P
       ·obtain⟨m',g1,_⟩:=Tn.dct;exact S.off (λi u hn h=>c' i u (λe=>by rw[e,g1]at h;cases h;exact hn _ rfl) h) _ _ i'
     ·cases p
   · have o':n=r.length:=by omega
     subst o';rw[Xq]at p;cases p;exact .inl ⟨⟨w,ð.of P,by omega⟩,q a' H' ((ń.of s1).trans g') Tn⟩
 ·cases hf⟩
def Di{g1:ł}(e:Nat)(ps:List Str)(F:Ó)(h:F' a.prog a.w a.K a.mg a.base c e ps F)(hr:Ú o a.A)(hk:e<=o)(hg:Gl a c)(h1:FV a b g g1)(h2:FE a w B)(hn:ps.length=2:=by lk)(u:(c==("__debug__":Str))=D:=by lk)(he:k_ [g,w] a.env=(D,eval g a.env)::k_ [w] a.env:=by lk)(r:k_ [w] a.env=(D,eval w a.env)::k_ [] a.env:=by lk)(n:(TF z (k_ [w] a.env)).any (·.1)=D:=by lk):FV a b (.Call (.Name c k) [g,w] [] z) (oO F g1 B):=by
 obtain⟨f,fd,G,hm,p,hb⟩:=h;refine⟨λf' s σ H Q j⟨i,y,kv,T,d,m,q⟩=>?_⟩;unfold oO at m;split at m
 · rename_i d1 d2 q1 q2;split at m;·rename_i d' hF;cases m;refine yf (G.mono hk) hr hg hm p hb .nil yq (kJ h1.h (kJ h2.h uY r) he) u he n f' s σ H Q j ⟨i,y,kv,T,d1,q1,λv1 H1 P r1=>⟨y,(T.mono P).env,?_⟩⟩;rw[q2];intro A H2 E r2;refine⟨[d1,d2],⟨v1,[A],rfl,Ð.mono E _ _ r1,A,[],rfl,r2,rfl⟩,hn.symm,?_⟩;rw[hF];exactλv H' s3 r3=>q v H' ((P.trans E).trans s3) r3
   ·cases m
 ·cases m
def z0(i:Nat)(f g:Ľ)(a:Ev->Kv->Option Fl):Õ:=λh=>match f (h.set i U) []with|some (c,e)=>(match g c e with|some (b,d)=>a b d|none=>U)|none=>U
def tR(X:C)(i:Nat)(r:Ev->Kv->Option Fl):TS:=λb f H=>∃a d e c,T1 X i a H f d e/\Í c H/\c a=U/\ó X c (r d e) b
structure FR(X:C)(i:Nat)(sts:List UH)(r:Ev->Kv->Option Fl):Prop where h:ĳ X sts (tR X i r)
def Dj{s2:UH}{f1 I:Ľ}{r:Ev->Kv->Option Fl}(hN:a.N.Nodup)(hi:a.N[b]?=Z c)(hx:ĸ a.env.scope c)(h1:Dh a b Η f1)(h2:Dh a b s2 I)(hr:FR a b Ψ r)(hs:UD (.Dict [] [] Λ) (Z (.Name c z)) k.line a.env=pure D:=by lk)(hf:a.fn c=L\/a.env.scope.names.lookup c=Z .local:=by first|exact .inl rfl|exact .inr rfl|assumption):Ģ a (.Assign [.Name c z] (.Dict [] [] Λ) k::Η::s2::Ψ) (z0 b f1 I r):=⟨λf' s A H h g⟨B,E,o⟩=>by
 refine gh (nZ (b:=b) hN hi hx Df hs hf) (gh h1.h (gh h2.h hr.h)) f' s A H h g λp P=>?_;have c':b<A.length:=by rw[g.len];exact(B_.mp hi).1
 have s0:Í H (Û H p (.dT [])):=aC P _;have T0:T1 a b p (Û H p (.dT [])) (A.set b (Z (.ref p))) (B.set b U) []:=by
  have E1:=(E.mono s0).fgt1 b;refine⟨K_ c',λd=>?_,⟨by rw[Uf];exact E1.len,λj d i=>?_⟩,[],au,.nil⟩
  · by_cases hl:b<B.length;·rw[K_ hl];exactλe=>by cases e
    ·rw[Uo (by rw[Uf];omega)];exactλe=>by cases e
  · have d':b≠j:=λe=>by
     subst e;by_cases hl:b<B.length;·rw[K_ hl]at i;cases i
     ·rw[Uo (by rw[Uf];omega)]at i;cases i
    obtain⟨v,q1,q2⟩:=E1.at' j d i;exact⟨v,by rw[E_ d'];exact q1,q2⟩
 unfold z0 at o;split at o
 · rename_i n w e1;split at o
   · rename_i m q e2;refine⟨p,_,[],T0,n,w,e1,λi' H1 b' g'=>⟨p,n,w,g',m,q,e2,λh' H2 a' e'=>⟨p,m,q,H,e',λf u hb=>?_,P,o⟩⟩⟩;have y:f≠p:=λe=>by rw[e,P]at hb;cases hb
     exact a' f u y (b' f u y (s0 f u hb))
   ·exact o.elim
 ·exact o.elim⟩
open TS
def z3{g:Array DictEntry}{o:Obj}(a:d.heap.IsValuesView e y)(c:d.heap.get? y=Z o)(f:o.data=.dict g b)(h:Ω (.ref d.heap.objs.size) {d with heap:=d.heap.push {cls:=.type "dict_valueiterator",data:=.fields #[.ref y,.int 0 0,.int g.size 0,.int b 0]}}):q_ (w_ n j) s (ž (.ref e)) Ω θ d:=by obtain⟨m,k,p,i⟩:=id a;refine Zc a.typeIs YD (Ub YD a.typeIs PySem.F.entry_dict_values_iter ?_ (PySem.F.args_dict_values_iter_1 _));unfold U9.«dict_values.__iter__»;refine ck (h_ (ck ?_));unfold acF;refine ck (U_ k i (x:=.ref y) rfl (h_ (ck ?_)));unfold abX;refine ck (Zd c f (ck (aad c f ?_)));simp only[show WZ "dict_valueiterator"=D by decide,xy,if_false];refine TJ (h_ ⟨_,rfl,"dict_valueiterator",_,⟨_,m_ _ rfl,rfl⟩,UO.lookup,?_⟩);simpa[Vd]using h
def z4{h:Array DictEntry}{a:Obj}{Q:Option R->ge->Prop}(c:d.heap.IsValIter y e o h.size b)(i:d.heap.get? e=Z a)(k:a.data=.dict h b)(r:(h[o]?).map (·.val)=Z ψ)(w:∀q,q.IsValIter y e (o+1) h.size b->VA y d.heap q->Q (Z ψ) {d with heap:=q}):q_ (w_ n j) s (Wf (.ref y)) Q θ d:=by
 obtain⟨A,p,v,g⟩:=id c;unfold Wf;refine ck (VH (Uc (name:=b_ "__next__") c.typeIs UO (Ub UO c.typeIs Xm ?_ (Xf _))));refine ck (h_ (ck (ck ?_)));first|refine ck (VO c.typeIs (h_ (ck (V7 p g ?_))))|refine ck (Ww c.typeIs (h_ (ck (V7 p g ?_))))
 have m:WZ "dict_valueiterator"=D:=by decide+kernel
 simp only[m,if_false,xy];show q_ _ _ (if(z_ e==.none)=L then _ else _) _ _ d;rw[if_neg (show¬((z_ e==.none)=L)from nofun)];refine ck (h_ (ck (Zd i k ?_)));rw[if_neg (by simp)];refine ck (h_ (ck (aad i k ?_)));rw[if_neg (by simp)];refine h_ ?_;obtain⟨z,u,rfl⟩:=UX.mp r;simp only[if_false,show¬((o:Int)<0)from by omega,VU,u];refine ck ?_;first|refine ck (VO c.typeIs (h_ (ck (W6 c.typeIs ?_))))|refine ck (Ww c.typeIs (h_ (ck (W6 c.typeIs ?_))))
 show q_ _ _ (setField (.ref y) 1 (Vd ((o:Int)+1))>>=_) _ _ d;refine ck (YW p g (by simp) ?_);have f:(d.heap.update y (abe (·.setIfInBounds 1 (Vd ((o:Int)+1))))).IsValIter y e (o+1) h.size b:=⟨_,U8 _ p (aar (XF g _)),(abE ..).trans v,by rw[XF g];simp[Vd]⟩;refine ck (Uu (ck (W6 (s:={d with heap:=d.heap.update y (abe (·.setIfInBounds 1 (Vd ((o:Int)+1))))}) f.typeIs (ck (W6 (s:={d with heap:=d.heap.update y (abe (·.setIfInBounds 1 (Vd ((o:Int)+1))))}) f.typeIs ?_)))));show q_ _ _ (pure z.val) _ _ _;exact h_ (h_ ⟨_,rfl,h_ (w _ f (Ve ..))⟩)
def Dk{m:Array DictEntry}{a:Obj}{Q:Option R->ge->Prop}(r:s.handled=U)(c:d.heap.IsValIter y e o m.size b)(f:d.heap.get? e=Z a)(g:a.data=.dict m b)(q:m.size<=o)(u:∀p,aaG y d.heap p->Q U {d with heap:=p}):q_ (w_ n j) s (Wf (.ref y)) Q θ d:=by
 obtain⟨v,i,w,k⟩:=id c;unfold Wf;refine ck (VH (Uc (name:=b_ "__next__") c.typeIs UO (Ub UO c.typeIs Xm ?_ (Xf _))));refine ck (h_ (ck (ck ?_)));first|refine ck (VO c.typeIs (h_ (ck (V7 i k ?_))))|refine ck (Ww c.typeIs (h_ (ck (V7 i k ?_))))
 have h:WZ "dict_valueiterator"=D:=by decide+kernel
 simp only[h,if_false,xy];show q_ _ _ (if(z_ e==.none)=L then _ else _) _ _ d;rw[if_neg (show¬((z_ e==.none)=L)from nofun)];refine ck (h_ (ck (Zd f g ?_)));rw[if_neg (by simp)];refine ck (h_ (ck (aad f g ?_)));rw[if_neg (by simp)];refine h_ ?_;simp only[if_false,show¬((o:Int)<0)from by omega,VU,Array.getElem?_eq_none q];refine ck ?_;first|refine ck (VO c.typeIs (h_ ?_))|refine ck (Ww c.typeIs (h_ ?_))
 show q_ _ _ (setField (.ref y) 0 .none>>=_) _ _ d;refine ck (YW i k (by simp) ?_);show q_ _ _ (acm (.type "StopIteration") []>>=_) _ _ _;refine ck ?_;simp only[abt,acm];refine ck (TJ ?_ (by size_fits));refine ck (m:=V8 _ _) (V3 (a:=C_) (by first|(simp only[V8];rfl)|rfl) (TJ ?_ (by size_fits)));simp only[acl];refine ck (Zp ?_);rw[show s.in1.handled=U from r];refine ck (h_ (aav ?_));refine ck (Xi (T:="StopIteration") (b:=L) ⟨_,m_ _ rfl,rfl⟩ YY ?_);exact h_ (u _ (((Ve ..).extBut.push _).push _))
def Aa(B:s.handled=U)(I d:O)(r:d≠I)(m:Array DictEntry)(z:Nat):Walks n j s I [I,d] [I] m.size (λi v=>(m[i]?).map (·.val)=Z v) (λi h=>h.IsValIter I d i m.size z/\∃o,h.get? d=Z o/\o.data=.dict m z)where
 sub:=λb k=>by simp at k;simp[k]
 frame:=λ_ _ _⟨st,o,g,f⟩y=>⟨st.at λo e=>y I (by simp) o e,o,y d (by simp) o g,f⟩;item:=λi c Q E A⟨st,o,g,f⟩p=>by
  have w:(m[i]?).map (·.val)=Z m[i].val:=by simp[A]
  refine z4 st g f w λq a b=>?_;exact p _ q c.toks w ⟨a,o,b.extBut d o r g,f⟩ λH o k e=>b.extBut H o (λh=>k (by simp[h])) e
 done:=λc Q E⟨st,o,g,f⟩p=>Dk B st g f (o_ _) λq u=>p q c.toks λb o k e=>u b o (λh=>k (by simp[h])) e;self:=λ_ _ _ _⟨st,_⟩p=>wpAny_pyIter_valiter st p
def Dl(r d:O)(b:Array DictEntry)(k:Nat):PySem.W.KdlSrc n j "dict_values" r d b.size (λi v=>(b[i]?).map (·.val)=Z v) (λh=>h.IsValuesView r d/\∃o,h.get? d=Z o/\o.data=.dict b k)where
 type:=λ_ e=>e.1.typeIs;there:=λ_⟨⟨_,s,_⟩,_,a,_⟩=>⟨s_ s,s_ a⟩;keep:=λ_ _⟨⟨o,p,x⟩,f,a,y⟩g=>⟨⟨o,g r (.inl rfl) o p,x⟩,f,g d (.inr rfl) f a,y⟩;notList:=by decide
 notTuple:=by decide
 hint:=λ_ _ _ _ e c=>PySem.W.kdl_hint_values e.1.typeIs c;iter:=λ_ _ q⟨m,o,a,y⟩=>⟨_,_,(λ_ _ c=>z3 m a y c),Aa q _ d (A_ (s_ a)) b k,⟨⟨_,m_ _ rfl,rfl,rfl⟩,o,i_ _ a,y⟩⟩
def rY{m:Array DictEntry}{o:Obj}{f:List R->ge->Prop}(A:s.handled=U)(r:d.heap.IsValuesView y e)(w:d.heap.get? e=Z o)(B:o.data=.dict m b)(z:m.size<=sizeLine)(v:y+1=d.heap.objs.size)(h:∀k p,(∀c o,d.heap.get? c=Z o->k.get? c=Z o)->d.heap.objs.size<=k.objs.size->f (m.toList.map (·.val)) {d with heap:=k,toks:=p}):q_ (w_ n j) s (abx (.ref y)) f θ d:=by
 refine PySem.W.kdu_collect (Dl y e m b) A ⟨r,o,w,B⟩ z λk p i q it=>?_;have g:i.toList=m.toList.map (·.val):=by
  apply Yl;intro a;have P:=it.1;by_cases u:a<i.size;·have:=it.2 a i[a] (by simp[u]);simp only[W8,J_];rw[this];simp[u]
  ·rw[Uo (by simp;omega),Uo (by simp;omega)]
 rw[g];refine h k p q ?_;obtain⟨H,E,_⟩:=r;exact v▸Nat.succ_le_of_lt (s_ (q _ _ E))
def Ab(a:d.TypeIs (.ref e) "dict")(b:(e==Wy)=D)(h:Ω (.ref d.heap.objs.size) {d with heap:=d.heap.push {cls:=.type "dict_values",data:=.fields #[.ref e]}}):q_ (w_ n j) s (call (.builtin "dict.values") [.ref e]) Ω θ d:=by refine Ub Zv a PySem.F.entry_dict_values ?_ (PySem.F.args_dict_values_1 _);refine ck ?_;unfold Builtin.Dict.noArgs;refine ck (wpAny_notOrdered_dict a ?_);show q_ _ _ (pure e) _ _ d;refine h_ ?_;show q_ _ _ (aas e>>=_) _ _ d;unfold aas;rw[if_neg (by rw[b];exact nofun)];exact ck (h_ (ck (TJ (h_ ⟨_,rfl,h⟩))))
structure M0(X:C)(o:u_)(m:Str)(apos cpos:Pos):Prop where
 base:UQ o m X.env (eval o X.env)=eval o X.env
 few:((TF cpos (k_ [] X.env)).all (λx=>!x.1)&&(Va cpos (Us [] X.env)).all (λx=>x.1.isSome)&&uk (([]:List u_).length+([]:List V0).length+(if([]:List V0).isEmpty then 0 else 1)<30))=L
 line:(apos.endLine==cpos.line)=L
 trees:TF cpos (k_ [] X.env)=[]
def oP(F:Ó):ł:=λ_ a=>match jF F (a.map (·.2))with|some (.ok d)=>Z d|_=>U
def KD.reps{K:d_}{H:Hp}:∀{b:Kv}{a:List (List ï×V)},KD K H b a->S K H (b.map (·.2)) (a.map (·.2))|_,_,.nil=>rfl|_,_,.cons r t=>⟨_,_,rfl,r,KD.reps t⟩
def HU{a:List (List ï×V)}{b:List (List ï×O×R)}(r:KT f a b):Ë (a.map (·.2)) (b.map (·.2.2)):=by induction r with|nil=>exact .nil|cons h _ c=>exact .cons h.2.2 c
def Do{p p2 kp r:Pos}(g:Nat)(ps:List Str)(F:Ó)(h:F' a.prog a.w a.K a.mg a.base m g ps F)(hr:Ú o a.A)(hk:g+2<=o)(h1:ps.length=1)(hg:Gl a "sorted")(hm:a.mg "sorted"=U)(o':Gl a m)(hx:PE a (.Name c k) (xM b))(e:M0 a (.Name c k) "values" z Λ)(p':(m==("__debug__":Str))=D:=by lk)(he:TF r (k_ [.Call (.Attribute (.Name c k) "values" z) [] [] Λ] a.env)=(D,eval (.Call (.Attribute (.Name c k) "values" z) [] [] Λ) a.env)::TF r (k_ [] a.env):=by lk)(A:(TF r (k_ [.Call (.Attribute (.Name c k) "values" z) [] [] Λ] a.env)).any (·.1)=D:=by lk)(P:TF r (k_ [] a.env)=[]:=by lk)(b':(Va r (Us [⟨Z "key",.Name m p2,kp⟩] a.env)).all (·.1.isSome)=L:=by lk)(n':(Va r (Us [⟨Z "key",.Name m p2,kp⟩] a.env)).any (·.1.isNone)=D:=by lk)(l':(Va r (Us [⟨Z "key",.Name m p2,kp⟩] a.env)).filterMap (·.1)=[b_ "key"]:=by lk):FV a b (.Call (.Name "sorted" p) [.Call (.Attribute (.Name c k) "values" z) [] [] Λ] [⟨Z "key",.Name m p2,kp⟩] r) (oP F):=⟨λf' s σ H Q I⟨f,ρ,kv,T,d,hd,q⟩=>by
 obtain⟨fa,fd,G,m',r',hb⟩:=h;refine UV (gF I hg hm (ψ:=.builtin "sorted") (by decide+kernel) ?_ (by decide) (by decide));refine callWith_kw ?_ he A b' n';rw[he,P];refine V_ ?_;refine wpAny_Call_method e.base e.few e.line ZK Zv PySem.F.type_dict_values (á (hx f' s σ H (λv H'=>v=.ref f/\H'=H) I ⟨.ref f,T.ia,rfl,rfl⟩) λu s1⟨v,H1,I1,rx,e1,e2⟩=>?_);subst e1 e2;obtain rfl:u=z_ f:=rx;obtain⟨g',g1,g2⟩:=T.dct;obtain⟨t1,t2,t3⟩:=Fd I1 (.inr ⟨g',.inl g1⟩);refine⟨t1,t2,?_⟩;rw[e.trees];refine Yc rfl (PySem.evalArgs_none (Ab t1 t3 (Wo ?_)));obtain⟨hz,_,xs,kt,j,es,ep,ho,hex,a',E,_⟩:=Ms I1.hok g1;have I2:=I1.kept (t':=s1.toks) (h':=s1.heap.push {cls:=.type "dict_values",data:=.fields #[.ref f]}) λn u q=>i_ _ q;refine kws_cons (mi I2 o' m' (kws_nil ?_) p');rw[l'];show q_ _ _ (call (.builtin "sorted") [.ref s1.heap.objs.size] [(b_ "key",.ref fa)]) _ _ _;unfold oP jF at hd;split at hd
 · rename_i d' y;cases hd;split at y
   · rename_i q' B;split at y
     · rename_i w;cases y;have i':es.size=xs.length:=by have:=congrArg YE E;simpa using this
       have h':es.toList.map (·.val)=xs.map (·.2.2):=by rw[E,Uq];rfl
       have rr:=KD.reps g2;refine vH (E:=es.toList.map (·.val)) G (hr.mono hk) hb h1 I2 (λQ' hQ=>rY (hr.hd) ⟨_,m_ _ rfl,rfl,rfl⟩ (i_ _ ho) a' ?_ ?_ hQ) (by rw[h'];exact HU kt) rr B w.1 w.2.1 w.2.2 λi c' H' sm hL e'=>q _ _ sm ⟨i,c',rfl,hL,e'⟩;·rw[i'];have:=Zt kt;omega
       ·rw[L_]
     ·cases y
   ·cases y
 ·cases hd⟩
def MB(j:Nat)(g:ł)(f:Õ):Ev->Kv->Option Fl:=λa b=>match g a b with|some d=>f (a.set j (Z d))|none=>U
def MD{c:ł}(j:Nat){y:Str}{h:Pos}(hN:a.N.Nodup)(A:a.N[j]?=Z y)(u:ĸ a.env.scope y)(E:FV a b g c)(z:Ģ a Ψ Υ)(w:UD g (Z (.Name y h)) k.line a.env=pure D:=by lk)(B:a.fn y=L\/a.env.scope.names.lookup y=Z .local:=by first|exact .inl rfl|exact .inr rfl|assumption):FR a b (.Assign [.Name y h] g k::Ψ) (MB j c Υ):=⟨λf' s m H f I⟨e,n,q,H0,T,p,h0,o⟩=>by
 unfold MB at o;split at o;·rename_i d P;exact gh (nZ hN A u E.h w B) z.h f' s m H f I ⟨e,n,q,T,d,P,λv H' i r=>⟨_,(T.env.mono i).set r,ó.mono (p.trans i) o⟩⟩
 ·exact o.elim⟩
def Ac{d:UH}{f e:Ľ}{r:Ev->Kv->Option Fl}(p:Dh a b Η f)(o:Dh a b d e)(i:FR a b Ψ r)(n:Ġ a.N=L:=by lk)(j:a.N[b]?=Z c:=by lk)(g:jL a.env.scope c=L:=by lk)(m:a.fn c=L:=by lk)(h:UD (.Dict [] [] z) (Z (.Name c k)) Λ.line a.env=pure D:=by lk):Ģ a (.Assign [.Name c k] (.Dict [] [] z) Λ::Η::d::Ψ) (z0 b f e r):=Dj (iP n) j (eI g) p o i h (.inl m)
def HV{e:Ľ}(i:W5 (w_ a.prog a.w) a.A a.env a.xe)(m:FE a g B)(q:FDs a b Ψ e)(d:Z8 o b=D:=by lk)(p:a.calm=L:=by lk)(r:Ġ a.N=L:=by lk)(f:a.N[o]?=Z c:=by lk)(j:jL a.env.scope c=L:=by lk)(n:a.fn c=L:=by lk)(h:∀x,TU g a.env x=pure x:=by intro _;lk):Dh a b (.For (.Name c k) g Ψ [] z) (HR o B e):=Mz o (Yg d) i p m (gZ (iP r) f (eI j) (.inl n)) q h
def HW{d:ł}(o:a.A.units+64<cLine)(j:FE a w B)(h:FV a b g d)(n:a.N[b]?=Z c:=by lk)(f:jL a.env.scope c=L:=by lk)(m:(c==("__debug__":Str))=D:=by lk)(e:(c==("__classdict__":Str))=D:=by lk)(i:UD g (Z (.Subscript (.Name c k) w Λ)) z.line a.env=pure D:=by lk):Dh a b (.Assign [.Subscript (.Name c k) w Λ] g z) (HQ B d):=My (by omega) (kZ n f m e) j h i
def HX(n:a.A.units+64<cLine)(h:FE a g B)(i:FE a w Ç)(j:a.N[b]?=Z c:=by lk)(f:jL a.env.scope c=L:=by lk)(d:(c==("__debug__":Str))=D:=by lk)(e:(c==("__classdict__":Str))=D:=by lk)(m:M2 a (.Name c k) "get" z g w Λ:=by exact⟨by lk,by lk,by lk,by lk⟩):FV a b (.Call (.Attribute (.Name c k) "get" z) [g,w] [] Λ) (HP B Ç):=Mx (by omega) (kZ j f d e) h i m
def Ad{T:bV}{m:ł}(s:HA a.prog a.w a.K a.mg a.base T)(n:Ú o a.A)(e:(T.lookup c).map (λq=>q.2.2)=Z Â)(v:FV a b g m)(u:FE a w B)(d:((T.lookup c).all λq=>aa1 q.1 o&&Z8 q.2.1.length 2)=L:=by lk)(p:a.env.kindOf c=Z .globalImplicit:=by lk)(j:(c==("__debug__":Str))=D:=by lk)(r:k_ [g,w] a.env=(D,eval g a.env)::k_ [w] a.env:=by lk)(i:k_ [w] a.env=(D,eval w a.env)::k_ [] a.env:=by lk)(h:(TF k (k_ [w] a.env)).any (·.1)=D:=by lk):FV a b (.Call (.Name c z) [g,w] [] k) (oO Â m B):=by cases f:T.lookup c with|none=>rw[f]at e;cases e|some q=>rw[f]at e d;cases e;rw[W1,pi]at d;exact Di q.1 q.2.1 q.2.2 (s.h c q f) n (Vi d.1) p v u (We d.2) j r i h
def Ae{T:bV}{d:Fc}{f p j n:Pos}(hT:HA a.prog a.w a.K a.mg a.base T)(hM:MA a.mg d)(H:Ú o a.A)(s:(T.lookup m).map (λq=>q.2.2)=Z Â)(r:((T.lookup m).all λq=>aa1 (q.1+2) o&&Z8 q.2.1.length 1)=L:=by lk)(hg:a.env.kindOf (b_ "sorted")=Z .globalImplicit:=by lk)(P:d.lookup (b_ "sorted")=Z U:=by lk)(y:a.env.kindOf m=Z .globalImplicit:=by lk)(hN:a.N[b]?=Z c:=by lk)(E:jL a.env.scope c=L:=by lk)(hd:(c==("__debug__":Str))=D:=by lk)(B:(c==("__classdict__":Str))=D:=by lk)(e:M0 a (.Name c k) "values" Λ f:=by exact⟨by lk,by lk,by lk,by lk⟩)(A:(m==("__debug__":Str))=D:=by lk)(he:TF z (k_ [.Call (.Attribute (.Name c k) "values" Λ) [] [] f] a.env)=(D,eval (.Call (.Attribute (.Name c k) "values" Λ) [] [] f) a.env)::TF z (k_ [] a.env):=by lk)(g:(TF z (k_ [.Call (.Attribute (.Name c k) "values" Λ) [] [] f] a.env)).any (·.1)=D:=by lk)(h:TF z (k_ [] a.env)=[]:=by lk)(i:(Va z (Us [⟨Z "key",.Name m j,n⟩] a.env)).all (·.1.isSome)=L:=by lk)(w:(Va z (Us [⟨Z "key",.Name m j,n⟩] a.env)).any (·.1.isNone)=D:=by lk)(v:(Va z (Us [⟨Z "key",.Name m j,n⟩] a.env)).filterMap (·.1)=[b_ "key"]:=by lk):FV a b (.Call (.Name "sorted" p) [.Call (.Attribute (.Name c k) "values" Λ) [] [] f] [⟨Z "key",.Name m j,n⟩] z) (oP Â):=by cases u:T.lookup m with|none=>rw[u]at s;cases s|some q=>rw[u]at s r;cases s;rw[W1,pi]at r;exact Do q.1 q.2.1 q.2.2 (hT.h m q u) H (Vi r.1) (We r.2) hg (hM.no P) y (kZ hN E hd B) e A he g h i w v
def HY{d:ł}(m:FV a b g d)(h:Ģ a Ψ Υ)(n:Ġ a.N=L:=by lk)(i:a.N[o]?=Z c:=by lk)(e:jL a.env.scope c=L:=by lk)(j:a.fn c=L:=by lk)(f:UD g (Z (.Name c z)) k.line a.env=pure D:=by lk):FR a b (.Assign [.Name c z] g k::Ψ) (MB o d Υ):=MD o (iP n) i (eI e) m h f (.inl j)
end FD
namespace TS
open FD
end TS
namespace FD
open L2 TS
def TBL(P:O)(q:Str)(H:Hp):Prop:=∃a t,H P=Z (.tbl a)/\a[0]?=Z (.str q t)
def spT(b:O)(q:Str)(K:d_)(F:Ó)(n:Nat):Sp:=λa H Q E=>TBL b q H/\Ĵ K F n a H Q E
open PySem.W
structure CK(K:d_)(k:Nat)(C:O):Prop where
 n:Vc K R_ (ŋ k)=Z (Z (.ref C))c:ţ K C
 a:∀f∈ĉ k,đ K C f
def pK{m:Type}:∀{a:List Str}{c:List m}{j:Nat}{f:Str}{v:m},a.Nodup->a[j]?=Z f->c[j]?=Z v->(a.zip c).lookup f=Z v
 |[],_,_,_,_,_,h,_=>by simp at h|n::a,[],j,f,v,_,_,h=>by simp at h|n::a,u::c,0,f,v,i,g,d=>by simp at g d;subst g d;simp[XM,Uj]|n::a,u::c,j+1,f,v,i,g,d=>by
  have b:a[j]?=Z f:=by simpa using g
  have k:(f==n)=D:=beq_eq_false_iff_ne.mpr λe=>by subst e;exact(U0.mp i).1 (S_ b)
  rw[XM,Uj,k];exact pK (U0.mp i).2 b (by simpa using d)
def mQ{d:Type}:∀{a:List Str}{c:List d}{f:Str},f∉a->(a.zip c).lookup f=U|[],_,_,_=>by simp|n::a,[],_,_=>by simp|n::a,u::c,f,h=>by have b:(f==n)=D:=beq_eq_false_iff_ne.mpr λe=>h (e▸on);rw[XM,Uj,b];exact mQ λz=>h (r_ _ z)
def Ag:∀k,(ĉ k).Nodup:=by intro k;unfold ĉ;split<;>decide
def jY(k j:Nat):N->Option (Rs N)|.obj a b=>if a=k then(match b[j]? with|some d=>Z (.ok d)|none=>U)else U|_=>U
def w5(c:CK v b e)(h:Vc v R_ (ŋ b)=Z (Z (.ref y))):y=e:=by have:=c.n.symm.trans h;simp at this;exact this.symm
def ME(f:CK a.K b e)(y:(ĉ b)[o]?=Z c)(P:FE a g B)(hb:UQ g c a.env (eval g a.env)=eval g a.env:=by lk):FE a (.Attribute g c k) (f1 (jY b o) B):=dv (Er P.h hb) λσ H Q A E g=>⟨A,E,ê.bind g λd v p e1 r s=>by cases d with
 |obj m z=>
 have j:ê a p (if m=b then(match z[o]? with|some d=>Z (.ok d)|none=>U)else U) Q:=s;by_cases w:m=b;·subst w;rw[if_pos rfl]at j;obtain⟨i,C',dx,vs,rfl,h,hn,q,l⟩:=r.objE;cases n:z[o]? with|none=>rw[n]at j;exact j.elim|some d=>rw[n]at j;obtain⟨u,h1,h2⟩:=q.get' n;rw[w5 f hn]at h;exact⟨i,e,dx,_,u,rfl,h,f.c,f.a c (S_ y),pK (Ag m) y h1,j u p (.refl p) h2⟩
 ·rw[if_neg w]at j;exact j.elim|_=>exact s.elim⟩
def MC(X:C)(o:u_)(m:Str)(d:List u_)(b a:Pos)(e:Sem Bool):Prop:=eval (.Call (.Attribute o m b) d [] a) X.env=(do
 let c<-eval o X.env
 aaV b.atName let(f,first)<-Xk [c] (aaW c m e)callWith a f first (TF a (k_ d X.env)) (Va a (Us [] X.env)))
def isO(k:Nat):N->Bool|.obj a _=>a==k|_=>D
def MF(h:isO b i=L):∃a,i=.obj b a:=by cases i<;>simp[isO]at h;subst h;exact⟨_,rfl⟩
inductive FlC where|nx(ρ:Ev)|rt(d o:N)|exc(c:Nat)
abbrev FnC:=Ev->Option FlC
def nox(r:Option FlC):Option FlC:=match r with|some (.exc _)=>U|r=>r
def vL{y:V}:∀{a:List Str}{vs:List V}{j:Nat}{f:Str},a.Nodup->a[j]?=Z f->j<=vs.length->vs.length<=a.length->og f y (a.zip vs)=a.zip (if j<vs.length then vs.set j y else vs++[y])
 |[],_,_,_,_,h,_,_=>by simp at h|n::a,[],j,f,_,h,c,_=>by
  have:j=0:=by simpa using c
  subst this;simp at h;subst h;simp[og]|n::a,u::vs,0,f,_,h,_,_=>by simp at h;subst h;simp[og]|n::a,u::vs,j+1,f,g,h,c,m=>by
  have i:a[j]?=Z f:=by simpa using h
  have d:n≠f:=λe=>(U0.mp g).1 (e▸S_ i);have k:=vL (y:=y) (vs:=vs) (U0.mp g).2 i (by simpa using c) (by simpa using m);rw[XM];show(if n=f then(n,y)::a.zip vs else(n,u)::og f y (a.zip vs))=_;rw[if_neg d,k];by_cases b:j<vs.length;·rw[if_pos b,if_pos (by simpa using b)];simp
  ·rw[if_neg b,if_neg (by simpa using b)];simp
inductive RsC where|ok(d o:N)|exc(c:Nat)
abbrev QH(o:u_)(a:Env):Sem Bool:=do return(<-importBound o a).getD L
abbrev HZ:=List (Str×Nat×Nat×(Ó))
def Ia(d:CK a.K b e)(f:FE a g B)(h:(ĉ b)[o]?=Z c:=by lk)(i:UQ g c a.env (eval g a.env)=eval g a.env:=by lk):FE a (.Attribute g c k) (f1 (jY b o) B):=ME d h f i
def df(k:Nat)(F:Ó)(b:Ò):Ò:=λa=>Ö (b a) λx=>if isO k x=L then(match F [x]with|some (.ok d)=>Z (.ok d)|_=>U)else U
structure Am(K:d_)(C:O)(q m:Str)(st:UH)(f:O):Prop where
 t:JH K C m f
 F:∃fd,ı K m q st f fd
def BdQ(x q:Str)(b:UH)(e:List Str):Prop:=∀(kV c f:R)(h:Option O)(d g:R)(a:List R),a.length=e.length->aby (VJ x q (hU b) (cr b) (aH b) .none kV c f h d g) ⟨a,[]⟩=pure (e.zip a)
def noB(k:Nat)(m:Str):Bool:=!(ĉ k).contains m
def MG(h:noB b c=L):c∉ĉ b:=λz=>by simp[noB,z]at h
def R7:Option (Option R)->Bool|some U=>L|_=>D
def ck_mk(n:Vc v R_ (ŋ b)=Z (Z (.ref e)))(g:Xl v e Str.empty=L)(j:X5 v e=L)(d:Ze v e=L)(c:UZ v (.ref e) "__setattr__"=Z (Z (.builtin "object.__setattr__")))(a:((ĉ b).all λf=>R7 (UZ v (.ref e) f))=L):CK v b e:=⟨n,⟨g,j,d,c⟩,λf i=>by
 have h:=Uz.mp a f i;unfold R7 at h;split at h;·assumption
 ·cases h⟩
abbrev Uv:=Sum N Nat
inductive ô where|lst(ds:List N)|obj(k:Nat)(fs:List Uv)
abbrev Ù:=List ô
abbrev ü:=List (Option Uv)
def Ĉ(K:d_)(H:Hp)(m:List O):Uv->V->Prop|.inl d,v=>Ð K H d v|.inr n,v=>∃a,m[n]?=Z a/\v=.ref a
def ã(K:d_)(H:Hp)(m:List O):List Uv->List V->Prop|[],a=>a=[]|d::c,a=>∃v b,a=v::b/\Ĉ K H m d v/\ã K H m c b
def Ĭ(K:d_)(H:Hp)(m:List O)(d:Hp)(a:O):ô->Prop|.lst f=>∃b,d a=Z (.lst b)/\S K H f b|.obj k fs=>∃C e c,d a=Z (.ins C e ((ĉ k).zip c))/\Vc K R_ (ŋ k)=Z (Z (.ref C))/\ã K H m fs c/\fs.length<=(ĉ k).length
structure SR(K:d_)(H:Hp)(m:List O)(S:Ù)(Hf:Hp):Prop where
 len:m.length=S.length
 nd:m.Nodup
 fr:∀a∈m,H a=U
 up:Í H Hf
 at':∀(n:Nat)(c:ô),S[n]?=Z c->∃a,m[n]?=Z a/\Ĭ K H m Hf a c
structure ö(K:d_)(H:Hp)(m:List O)(σ:L2.St)(ρ:ü):Prop where
 len:σ.length=ρ.length
 at':∀(i:Nat)(d:Uv),ρ[i]?=Z (Z d)->∃v,σ[i]?=Z (Z v)/\Ĉ K H m d v
def pL{m b:List P}(p:m<+:b){n:Nat}{a:P}(h:m[n]?=Z a):b[n]?=Z a:=by obtain⟨t,rfl⟩:=p;rw[M_ (B_.mp h).1];exact h
def Ĉ.mono{c:List O}(e:Í f Α)(p:ω<+:c):∀{d:Uv}{b:V},Ĉ v f ω d b->Ĉ v Α c d b|.inl d,b,h=>Ð.mono e d b h|.inr n,b,⟨a,h,r⟩=>⟨a,pL p h,r⟩
def ã.mono{K:d_}{H f:Hp}{m c:List O}(e:Í H f)(p:m<+:c):∀{b:List Uv}{a:List V},ã K H m b a->ã K f c b a|[],a,h=>h|d::b,a,⟨v,g,r,h,q⟩=>⟨v,g,r,h.mono e p,ã.mono e p q⟩
def ã.length{K:d_}{H:Hp}{m:List O}:∀{b:List Uv}{a:List V},ã K H m b a->a.length=b.length|[],a,h=>by cases(show a=[]from h);rfl|d::b,a,⟨v,c,r,_,q⟩=>by subst r;show c.length+1=b.length+1;rw[ã.length q]
def ã.get{K:d_}{H:Hp}{m:List O}:∀{b:List Uv}{a:List V}{i:Nat}{d:Uv},ã K H m b a->b[i]?=Z d->∃v,a[i]?=Z v/\Ĉ K H m d v|[],a,i,v,h,e=>by simp at e|d::b,a,i,o,⟨c,n,r,g,q⟩,e=>by subst r;cases i with|zero=>simp at e;subst e;exact⟨c,rfl,g⟩|succ i=>obtain⟨k,j,f⟩:=ã.get (i:=i) q (by simpa using e);exact⟨k,by simpa using j,f⟩
def ã.set{K:d_}{H:Hp}{m:List O}:∀{b:List Uv}{a:List V}(i:Nat){d:Uv}{v:V},ã K H m b a->Ĉ K H m d v->ã K H m (b.set i d) (a.set i v)|[],a,i,d,v,h,_=>by cases(show a=[]from h);exact rfl|j::b,a,i,d,v,⟨f,c,r,g,q⟩,e=>by subst r;cases i with|zero=>exact⟨v,c,rfl,e,q⟩|succ i=>exact⟨f,c.set i v,rfl,g,ã.set i q e⟩
def ã.append{K:d_}{H:Hp}{m:List O}:∀{e c:List Uv}{a b:List V},ã K H m e a->ã K H m c b->ã K H m (e++c) (a++b)|[],c,a,b,h,q=>by cases(show a=[]from h);exact q|d::e,c,a,b,⟨g,f,r,i,t⟩,q=>by subst r;exact⟨g,f++b,rfl,i,ã.append t q⟩
variable{Ζ:ü}
def ö.mono{b:List O}(E:ö v f ω Ν Ζ)(e:Í f Α)(p:ω<+:b):ö v Α b Ν Ζ:=⟨E.len,λi d h=>let⟨a,g,c⟩:=E.at' i d h;⟨a,g,c.mono e p⟩⟩
def ö.set{d:Uv}(E:ö v f ω Ν Ζ)(r:Ĉ v f ω d υ):ö v f ω (Ν.set b (Z υ)) (Ζ.set b (Z d)):=by
 refine⟨by rw[Uf,Uf];exact E.len,λj e h=>?_⟩;by_cases c:b=j
 · subst c;have a:b<Ζ.length:=by have:=(B_.mp h).1;simpa using this
   rw[K_ a]at h;cases h;exact⟨υ,K_ (by rw[E.len];exact a),r⟩
 ·rw[E_ c]at h⊢;exact E.at' j e h
def vw1(S:Ù):Uv->Option N|.inl d=>Z d|.inr n=>match S[n]? with|some (.lst a)=>Z (.lst a)|_=>U
def vwL(S:Ù):List Uv->Option (List N)|[]=>Z []|u::a=>match vw1 S u,vwL S a with|some d,Z b=>Z (d::b)|_,_=>U
def vw(S:Ù):Uv->Option N|.inl d=>Z d|.inr n=>match S[n]? with|some (.lst a)=>Z (.lst a)|some (.obj k fs)=>(vwL S fs).map (.obj k)|none=>U
def Ą(S:Ù)(a:ü):Ev:=a.map λo=>o.bind (vw S)
variable{q:Ù}
def SR.lst(R:SR v f ω q Α)(h:q[b]?=Z (.lst r))(g:ω[b]?=Z e):Ð v Α (.lst r) (.ref e):=by obtain⟨a,c,d,j,i⟩:=R.at' b _ h;rw[g]at c;cases c;exact⟨e,d,rfl,j,S.mono R.up _ _ i⟩
def SR.vw1(R:SR v f ω q Α):∀{u:Uv}{b:V}{d:N},Ĉ v f ω u b->vw1 q u=Z d->Ð v Α d b|.inl d,b,j,h,e=>by cases e;exact Ð.mono R.up _ _ h|.inr n,b,j,⟨a,i,g⟩,e=>by subst g;unfold FD.vw1 at e;match c:q[n]? with|none=>simp[c]at e|some (.obj k fs)=>simp[c]at e|some (.lst m)=>simp[c]at e;subst e;exact R.lst c i
def SR.vwL{K:d_}{H j:Hp}{m:List O}{a:Ù}(R:SR K H m a j):∀{c:List Uv}{b:List V}{g:List N},ã K H m c b->vwL a c=Z g->S K j g b|[],b,g,h,e=>by cases e;exact h|u::c,b,g,⟨v,n,r,h,q⟩,e=>by subst r;unfold FD.vwL at e;match f:FD.vw1 a u,i:FD.vwL a c with|some d,Z k=>rw[f,i]at e;cases e;exact .cons (R.vw1 h f) (SR.vwL R q i)|none,_=>rw[f]at e;cases e|some _,U=>rw[f,i]at e;cases e
def Ah{S:Ù}:∀{a:List Uv}{b:List N},vwL S a=Z b->b.length=a.length|[],b,e=>by cases e;rfl|u::a,b,e=>by unfold FD.vwL at e;match f:FD.vw1 S u,c:FD.vwL S a with|some d,Z g=>rw[f,c]at e;cases e;simp[Ah c]|none,_=>rw[f]at e;cases e|some _,U=>rw[f,c]at e;cases e
def SR.vw(R:SR v f ω q Α):∀{u:Uv}{c:V}{d:N},Ĉ v f ω u c->vw q u=Z d->Ð v Α d c|.inl d,c,B,h,e=>by cases e;exact Ð.mono R.up _ _ h|.inr n,c,B,⟨a,m,p⟩,e=>by subst p;unfold FD.vw at e;match g:q[n]? with|none=>simp[g]at e|some (.lst A)=>simp[g]at e;subst e;exact R.lst g m|some (.obj k fs)=>dsimp only at e;rw[g]at e;dsimp only at e;obtain⟨b,j,C,z,o,y,w,s,r⟩:=R.at' n _ g;rw[m]at j;cases j;match i:FD.vwL q fs with|none=>simp[i]at e|some A=>simp[i]at e;subst e;exact⟨a,C,z,o,rfl,y,w,R.vwL s i,by rw[Ah i];exact r⟩
def SR.envs(R:SR v f ω q Α)(E:ö v f ω Ν Ζ):Ø v Α Ν (Ą q Ζ):=by refine⟨by unfold Ą;rw[N_];exact E.len,λi d h=>?_⟩;unfold Ą at h;rw[J_]at h;match b:Ζ[i]? with|none=>simp[b]at h|some U=>simp[b]at h|some (Z u)=>simp[b]at h;obtain⟨a,e,c⟩:=E.at' i u b;exact⟨a,e,R.vw c h⟩
def pl:N->Bool|.scr _=>L|d=>ĝ d
def SR.cell(R:SR v f ω q Α){a:O}(h:a∈ω):(∃d,Α a=Z (.lst d))\/∃C g fs,Α a=Z (.ins C g fs):=by
 obtain⟨n,i⟩:=List.getElem?_of_mem h;have m:n<q.length:=by rw[<-R.len];exact(B_.mp i).1
 obtain⟨b,j,c⟩:=R.at' n _ (t_ m);rw[i]at j;cases j;match p:q[n],c with|.lst r,c=>obtain⟨d,e,_⟩:=c;exact .inl ⟨d,e⟩|.obj k fs,c=>obtain⟨C,g,o,e,_⟩:=c;exact .inr ⟨C,g,_,e⟩
def SR.grow{j:Hp}(R:SR v f ω q Α)(e:Í Α j):∃E,Í f E/\SR v E ω q j/\∀d i,pl d=L->Ð v j d i->Ð v E d i:=by
 have H:∀b u,f b=Z u->b∉ω:=λb u h z=>by rw[R.fr b z]at h;cases h
 have A:Í f λb=>if b∈ω then U else j b:=λb u h=>by simp only[H b u h,if_false];exact e b u (R.up b u h)
 have m:∀b o,(∀p,o≠.lst p)->(∀C y fs,o≠.ins C y fs)->j b=Z o->(λb=>if b∈ω then U else j b) b=Z o:=λb o w s h=>by
  have:b∉ω:=λz=>by
   rcases R.cell z with⟨p,g⟩|⟨C,y,fs,g⟩;·exact w p (Uk (h.symm.trans (e _ _ g)))
   ·exact s C y fs (Uk (h.symm.trans (e _ _ g)))
  simp only[this,if_false];exact h
 refine⟨λb=>if b∈ω then U else j b,A,⟨R.len,R.nd,λa h=>by simp[h],λb u h=>?_,λn c h=>?_⟩,λd i hp r=>?_⟩
 · by_cases hb:b∈ω;·simp[hb]at h
   ·simpa[hb]using h
 ·obtain⟨a,ha,g⟩:=R.at' n c h;refine⟨a,ha,?_⟩;match c,g with|.lst ds,⟨p,w,s⟩=>exact⟨p,e _ _ w,S.mono A _ _ s⟩|.obj k fs,⟨C,y,vs,w,s,h3,h4⟩=>exact⟨C,y,vs,e _ _ w,s,h3.mono A (Tx ω),h4⟩
 · by_cases P:∃B,d=.scr B;·obtain⟨B,rfl⟩:=P;obtain⟨a,rv,g⟩:∃a,i=.ref a/\ŷ v j a (B.map V.int):=r;exact⟨a,rv,g.imp (λ⟨o,h⟩=>⟨o,m a _ (by simp) (by simp) h⟩) id⟩
   · have hi:ĝ d=L:=by cases d<;>first|exact hp|exact absurd ⟨_,rfl⟩ P
     exact Ð.tups (λb ys h=>m b _ (by simp) (by simp) h) d i hi r
inductive Ru(α:Type)where|ok(a:α)(S:Ù)|exc(c:Nat)(S:Ù)
abbrev ò:=Ù->ü->Option (Ru Uv)
abbrev Dr:=Ù->ü->Option (Ru Bool)
abbrev nN:=Ù->ü->Option (Ru (List Uv))
def XU(X:C)(c:Nat)(H:Hp)(m:List O)(S:Ù):Prop:=∀g f d b a s e,Í H d->m<+:b->SR X.K d b S a->Ê X g f a s->KI X a c e s->X.xe e s
def OU(X:C)(H:Hp)(m:List O)(r:Option (Ru P))(Q:P->Hp->List O->Hp->Prop):Prop:=match r with|none=>False|some (.exc c S)=>XU X c H m S|some (.ok a S)=>∀d b e,Í H d->m<+:b->SR X.K d b S e->Q a d b e
def lB{b:Type}(o:Option (Ru P))(k:P->Ù->Option (Ru b)):Option (Ru b):=match o with|none=>U|some (.exc c S)=>Z (.exc c S)|some (.ok a S)=>k a S
def tU(X:C)(f:ò):TE:=λc e Q=>∃H m S b,SR X.K H m S e/\ö X.K H m c b/\OU X H m (f S b) λu g d a=>∀v,Ĉ X.K g d u v->Q v a
def tUB(X:C)(f:Dr):TT:=λd e Q=>∃H m S c,SR X.K H m S e/\ö X.K H m d c/\OU X H m (f S c) λb _ _ a=>Q b a
def tUA(X:C)(f:nN):TA:=λd h Q=>∃H m S b,SR X.K H m S h/\ö X.K H m d b/\OU X H m (f S b) λe i g a=>∀c,ã X.K i g e c->Q c a
structure UE(X:C)(e:u_)(f:ò):Prop where h:PE X e (tU X f)
structure UT(X:C)(e:u_)(f:Dr):Prop where h:PT X e (tUB X f)
structure UA(X:C)(es:List u_)(f:nN):Prop where h:PA X es (tUA X f)
def XU.mono{c:List O}(h:XU a b f ω q)(e:Í f Α)(p:ω<+:c):XU a b Α c q:=λj d n i m s x k g=>h j d n i m s x (e.trans k) (p.trans g)
def OU.mono{d:List O}{r:Option (Ru P)}{Q:P->Hp->List O->Hp->Prop}(h:OU a f ω r Q)(e:Í f Α)(p:ω<+:d):OU a Α d r Q:=by match r,h with|none,h=>exact h|some (.exc c S),h=>exact XU.mono h e p|some (.ok b S),h=>exactλm i k j g=>h m i k (e.trans j) (p.trans g)
def OU.bind{j:Type}{o:Option (Ru P)}{k:P->Ù->Option (Ru j)}{Q:j->Hp->List O->Hp->Prop}{d:P->Hp->List O->Hp->Prop}(h:OU a f ω (lB o k) Q)(q:∀b S i e g,Í f i->ω<+:e->SR a.K i e S g->OU a i e (k b S) Q->d b i e g):OU a f ω o d:=by match o,h with|none,h=>exact h|some (.exc c S),h=>exact h|some (.ok b S),h=>exactλr p g n m R=>q b S r p g n m R (OU.mono h n m)
def XU.xw(h:XU a b f ω q)(R:SR a.K f ω q Α):XW a b Α:=λg d m s e j I c=>by obtain⟨n,i,k,_⟩:=R.grow j;exact h g d n ω m s e i (Tx ω) k I c
def ay(f:Ò):ò:=λS a=>match f (Ą S a)with|none=>U|some (.exc c)=>Z (.exc c S)|some (.ok d)=>if pl d=L then Z (.ok (.inl d) S)else U
def fK(f:å):Dr:=λS a=>match f (Ą S a)with|none=>U|some (.exc c)=>Z (.exc c S)|some (.ok d)=>Z (.ok d S)
def Ib(i:FE a g B):UE a g (ay B):=⟨λj s h w Q I⟨H,m,S,f,R,E,o⟩=>by refine i.h j s h w Q I ⟨Ą S f,R.envs E,?_⟩;unfold ay at o;match e:B (Ą S f)with
 |none=>rw[e]at o;exact o.elim|some (.exc c)=>rw[e]at o;exact XU.xw o R|some (.ok d)=>
 rw[e]at o;dsimp only at o;by_cases b:pl d=L;·rw[if_pos b]at o;intro v u n r;obtain⟨y,k,q,p⟩:=R.grow n;exact o y m u k (Tx m) q v (p d v b r)
 ·rw[if_neg b]at o;exact o.elim⟩
def Ic(h:FT a g Ο):UT a g (fK Ο):=⟨λi s f q Q I⟨H,m,S,e,R,E,o⟩=>by refine h.h i s f q Q I ⟨Ą S e,R.envs E,?_⟩;unfold fK at o;match b:Ο (Ą S e)with|none=>rw[b]at o;exact o.elim|some (.exc c)=>rw[b]at o;exact XU.xw o R|some (.ok d)=>rw[b]at o;intro p k;obtain⟨r,j,n,_⟩:=R.grow k;exact o r m p j (Tx m) n⟩
def fg(i:Nat):ò:=λS a=>match a[i]? with|some (Z u)=>Z (.ok u S)|_=>U
def MH(i:Nat)(h:PE a g (xM i)):UE a g (fg i):=⟨λk s d c Q I⟨H,m,S,e,R,E,o⟩=>by refine h k s d c Q I ?_;unfold fg at o;match b:e[i]? with|none=>rw[b]at o;exact o.elim|some U=>rw[b]at o;exact o.elim|some (Z u)=>rw[b]at o;obtain⟨v,j,f⟩:=E.at' i u b;exact⟨v,j,o H m c (.refl H) (Tx m) R v f⟩⟩
def QI(k j:Nat)(S:Ù):Uv->Option (Ru Uv)
 |.inr n=>match S[n]? with|some (.obj a fs)=>if a=k then(match fs[j]? with|some u=>Z (.ok u S)|none=>U)else U|_=>U
 |_=>U
def JW(k j:Nat)(f:ò):ò:=λS a=>lB (f S a) λu b=>QI k j b u
variable{Μ:ò}
def MI(f:CK a.K b e)(hf:(ĉ b)[o]?=Z c)(ho:UE a g Μ)(hb:UQ g c a.env (eval g a.env)=eval g a.env:=by lk):UE a (.Attribute g c k) (JW b o Μ):=⟨λf' s σ Hf Q I⟨H,m,S,ρ,R,E,h⟩=>Er ho.h hb f' s σ Hf Q I ⟨H,m,S,ρ,R,E,OU.bind h λu S1 H1 B A e1 p1 R1 p v r=>by match u,r,p with
 |.inl d,_,p=>exact p.elim|.inr n,⟨i,ha,hv⟩,p=>subst hv;unfold QI at p;match y:S1[n]? with
 |none=>simp[y]at p;exact p.elim|some (.lst ds)=>simp[y]at p;exact p.elim|some (.obj P fs)=>
 simp only[y]at p;by_cases hk:P=b
 ·subst hk;rw[if_pos rfl]at p;obtain⟨j,q,C',dx,vs,h1,h2,h3,h4⟩:=R1.at' n _ y;rw[ha]at q;cases q;rw[w5 f h2]at h1;match z:fs[o]? with|none=>rw[z]at p;exact p.elim|some u=>rw[z]at p;obtain⟨w,g1,g2⟩:=h3.get z;exact⟨i,e,dx,_,w,rfl,h1,f.c,f.a c (S_ hf),pK (Ag P) hf g1,p H1 B A (.refl H1) (Tx B) R1 w g2⟩
 ·rw[if_neg hk]at p;exact p.elim⟩⟩
def iA:nN:=λS _=>Z (.ok [] S)
def bF(f:ò)(g:nN):nN:=λS a=>lB (f S a) λu c=>lB (g c a) λb S2=>Z (.ok (u::b) S2)
def MJ:UA a [] iA:=⟨λd e s c b Q I⟨H,m,S,f,R,E,o⟩=>uY d e s c b Q I (o H m b (.refl H) (Tx m) R [] rfl)⟩
def Ie{f:nN}(P:UE a g Μ)(B:UA a A f)(z:k_ (g::A) a.env=(D,eval g a.env)::k_ A a.env:=by lk):UA a (g::A) (bF Μ f):=⟨λk f' s i Hf Q I⟨H,m,S,c,R,E,o⟩=>kJ P.h B.h z k f' s i Hf Q I ⟨H,m,S,c,R,E,OU.bind o λu S1 H1 y a' e1 p R1 w v r=>⟨H1,y,S1,c,R1,E.mono e1 p,OU.bind w λus S2 h e b e2 n R2 q d j=>q h e b (.refl h) (Tx e) R2 (v::d) ⟨v,d,rfl,r.mono e2 n,j⟩⟩⟩⟩
def lG(g:N->N->Option (Rs N))(f:ò)(h:Ò):ò:=λS e=>lB (f S e) λu a=>match vw a u,h (Ą a e)with|some d,Z (.ok i)=>(match g d i with|some (.ok (.bl b))=>Z (.ok (.inl (.bl b)) a)|_=>U)|some _,Z (.exc c)=>Z (.exc c a)|_,_=>U
def opP{r:R2}{g:N->N->Option (Rs N)}(hg:Ĕ a r g)(R:SR a.K f ω q Α)(E:ö a.K f ω Ν Ζ)(o:OU a f ω (lG g Μ B q Ζ) λu H' m' y=>∀v,Ĉ a.K H' m' u v->Æ v y):ż r (tU a Μ) (tF a B) Ν Α Æ:=⟨f,ω,q,Ζ,R,E,OU.bind o λu m H1 z a' e1 p1 i b v r=>by refine⟨Ą m Ζ,i.envs (E.mono e1 p1),?_⟩;match h:vw m u,j:B (Ą m Ζ)with|none,_=>simp[h]at b;exact b.elim|some d,U=>simp[h,j]at b;exact b.elim|some d,Z (.exc c)=>simp only[h,j]at b;exact XU.xw b i|some d,Z (.ok H)=>simp only[h,j]at b;intro v2 Hg A r2;refine hg d H v v2 Hg _ (Ð.mono A _ _ (i.vw r h)) r2 ?_;match e:g d H with|some (.ok (.bl k))=>rw[e]at b;intro w s p n;obtain⟨P,e2,R2,dn⟩:=i.grow (A.trans p);exact b P z s e2 (Tx z) R2 w (show Ð a.K P (.bl k) w from n)|none=>rw[e]at b;exact b.elim|some (.exc _)=>rw[e]at b;exact b.elim|some (.ok .non)=>rw[e]at b;exact b.elim|some (.ok (.int _))=>rw[e]at b;exact b.elim|some (.ok (.str _))=>rw[e]at b;exact b.elim|some (.ok (.tup _))=>rw[e]at b;exact b.elim|some (.ok (.lst _))=>rw[e]at b;exact b.elim|some (.ok (.scr _))=>rw[e]at b;exact b.elim|some (.ok (.exn _))=>rw[e]at b;exact b.elim|some (.ok (.obj _ _))=>rw[e]at b;exact b.elim⟩
def Ig{c:ź}{r:R2}{b:N->N->Option (Rs N)}(e:û a (TZ c) r)(h:Ĕ a r b)(j:UE a g Μ)(i:FE a w B)(f:Q_ c w=D):UE a (.Compare g [c] [w] k) (lG b Μ B):=⟨λn s d p Q I⟨H,m,S,q,R,E,o⟩=>xY e j.h i.h f n s d p Q I (opP h R E o)⟩
def ul(g:N->N->Option (Rs N))(f h:ò):ò:=λS a=>lB (f S a) λu i=>lB (h i a) λc S2=>match vw S2 u,vw S2 c with|some d,Z e=>(match g d e with|some (.ok (.bl b))=>Z (.ok (.inl (.bl b)) S2)|_=>U)|_,_=>U
def opU{g:ò}{r:R2}{i:N->N->Option (Rs N)}(hg:Ĕ a r i)(R:SR a.K f ω q Α)(E:ö a.K f ω Ν Ζ)(o:OU a f ω (ul i Μ g q Ζ) λu H' m' s=>∀v,Ĉ a.K H' m' u v->Æ v s):ż r (tU a Μ) (tU a g) Ν Α Æ:=⟨f,ω,q,Ζ,R,E,OU.bind o λu S1 H1 m1 a' e1 p1 R1 o1 v r=>⟨H1,m1,S1,Ζ,R1,E.mono e1 p1,OU.bind o1 λH S2 H2 y p e2 p2 R2 b B P=>by match e:vw S2 u,h:vw S2 H with|none,_=>simp[e]at b;exact b.elim|some d,U=>simp[e,h]at b;exact b.elim|some d,Z z=>simp only[e,h]at b;refine hg d z v B p _ (R2.vw (r.mono e2 p2) e) (R2.vw P h) ?_;match c:i d z with|some (.ok (.bl k))=>rw[c]at b;intro w n m j;obtain⟨A,e3,R3,dn⟩:=R2.grow m;exact b A y n e3 (Tx y) R3 w (show Ð a.K A (.bl k) w from j)|none=>rw[c]at b;exact b.elim|some (.exc _)=>rw[c]at b;exact b.elim|some (.ok .non)=>rw[c]at b;exact b.elim|some (.ok (.int _))=>rw[c]at b;exact b.elim|some (.ok (.str _))=>rw[c]at b;exact b.elim|some (.ok (.tup _))=>rw[c]at b;exact b.elim|some (.ok (.lst _))=>rw[c]at b;exact b.elim|some (.ok (.scr _))=>rw[c]at b;exact b.elim|some (.ok (.exn _))=>rw[c]at b;exact b.elim|some (.ok (.obj _ _))=>rw[c]at b;exact b.elim⟩⟩
def R8(S:Ù):Uv->Option (Ru Bool)|.inl (.bl b)=>Z (.ok b S)|_=>U
def uB(f:ò):Dr:=λS a=>lB (f S a) λu b=>R8 b u
def Ai{u:Uv}{Q:Bool->Hp->List O->Hp->Prop}(r:Ĉ a.K f ω u υ)(R:SR a.K f ω q Α)(o:OU a f ω (R8 q u) Q):∃k,υ=.bl k/\Q k f ω Α:=by match u,r,o with|.inr n,_,o=>exact o.elim|.inl d,r,o=>cases d with|bl b=>exact⟨b,r,o f ω Α (.refl f) (Tx ω) R⟩|_=>exact o.elim
def Ih{c:ź}{r:R2}{b:N->N->Option (Rs N)}(f:û a (TZ c) r)(i:Ĕ a r b)(n:UE a g Μ)(j:FE a w B)(h:Q_ c w=D):UT a (.Compare g [c] [w] k) (uB (lG b Μ B)):=⟨λp s d y Q I⟨H,m,S,A,R,E,o⟩=>tJ f n.h j.h h p s d y Q I (opP i R E (OU.bind o λu S1 H1 m1 z e1 P q e v r=>Ai r q e))⟩
def Ii{b:ò}{c:ź}{r:R2}{d:N->N->Option (Rs N)}(h:û a (TZ c) r)(j:Ĕ a r d)(p:UE a g Μ)(n:UE a w b)(i:Q_ c w=D):UT a (.Compare g [c] [w] k) (uB (ul d Μ b)):=⟨λq s e z Q I⟨H,m,S,B,R,E,o⟩=>tJ h p.h n.h i q s e z Q I (opU j R E (OU.bind o λu S1 H1 m1 A e1 P y f v r=>Ai r y f))⟩
def Ds(g:ω.Nodup)(h:ω[b]?=Z e)(i:ω[o]?=Z e):b=o:=by
 obtain⟨l,a⟩:=B_.mp h;obtain⟨d,f⟩:=B_.mp i;have c:=Xs.mp g;rcases Zl b o with z|z|z;·exact(c b o l d z (a.trans f.symm)).elim
 ·exact z
 ·exact(c o b d l z (f.trans a.symm)).elim
def Ĭ.ne{b:O}{o:HO}{c:ô}(h:Ĭ v f ω Α e c)(g:e≠b):Ĭ v f ω (Û Α b o) e c:=by match c,h with|.lst n,⟨i,d,a⟩=>exact⟨i,by rw[aB g];exact d,a⟩|.obj k fs,⟨C,m,j,d,a⟩=>exact⟨C,m,j,by rw[aB g];exact d,a⟩
def Ĭ.pre{a:List O}{c:ô}(h:Ĭ v f ω Α e c)(p:ω<+:a):Ĭ v f a Α e c:=by match c,h with|.lst n,h=>exact h|.obj k fs,⟨C,m,b,j,i,g,d⟩=>exact⟨C,m,b,j,i,g.mono (.refl f) p,d⟩
def SR.put{o:HO}{c:ô}(R:SR v f ω q Α)(g:ω[b]?=Z e)(p:Ĭ v f ω (Û Α e o) e c):SR v f ω (q.set b c) (Û Α e o):=by
 have m:e∈ω:=S_ g;refine⟨by rw[Uf];exact R.len,R.nd,R.fr,λa u h=>?_,λj r h=>?_⟩
 · have:a≠e:=λz=>by rw[z,R.fr e m]at h;cases h
   rw[aB this];exact R.up a u h
 · by_cases i:b=j
   · subst i;have n:b<q.length:=by rw[<-R.len];exact(B_.mp g).1
     rw[K_ n]at h;cases h;exact⟨e,g,p⟩
   ·rw[E_ i]at h;obtain⟨a,k,d⟩:=R.at' j r h;exact⟨a,k,d.ne λz=>i (Ds R.nd g (z▸k))⟩
def SR.fresh(R:SR v f ω q Α)(b:Α e=U):e∉ω/\f e=U:=by
 refine⟨λz=>?_,?_⟩;·rcases R.cell z with⟨c,a⟩|⟨C,d,fs,a⟩<;>·rw[b]at a;cases a
 ·cases h:f e with|none=>rfl|some u=>have:=R.up e u h;rw[b]at this;cases this
def SR.push{o:HO}{c:ô}(R:SR v f ω q Α)(m:Α e=U)(r:Ĭ v f (ω++[e]) (Û Α e o) e c):SR v f (ω++[e]) (q++[c]) (Û Α e o):=by
 obtain⟨g,k⟩:=R.fresh m;refine⟨by simp[R.len],?_,λa h=>?_,λb u h=>?_,λn w h=>?_⟩
 · rw[Xa];refine⟨R.nd,by simp,λa h b s=>?_⟩;have:b=e:=by simpa using s
   subst this;exactλz=>g (z▸h)
 · rcases Ue.mp h with h|h;·exact R.fr a h
   · have:a=e:=by simpa using h
     subst this;exact k
 · have:b≠e:=λz=>by rw[z,k]at h;cases h
   rw[aB this];exact R.up b u h
 · by_cases i:n<q.length;·rw[M_ i]at h;obtain⟨a,j,d⟩:=R.at' n w h;refine⟨a,by rw[M_ (by rw[R.len];exact i)];exact j,(d.ne (b:=e) λ(z:a=e)=>g (by rw[<-z];exact S_ j)).pre (XN ω [e])⟩
   · have p:n=q.length:=by have:=(B_.mp h).1;simp at this;omega
     subst p;rw[P_ (o_ _),Xn]at h;cases h;exact⟨e,by rw[<-R.len,P_ (o_ _),Xn];rfl,r⟩
def ins:List Uv->Option (List N)|[]=>Z []|.inl d::a=>(ins a).map (d::·)|.inr _::_=>U
def pM{K:d_}{H:Hp}{m:List O}:∀{b:List Uv}{a:List V}{c:List N},ins b=Z c->ã K H m b a->S K H c a|[],a,c,h,r=>by cases h;exact r|.inr _::_,_,_,h,_=>by cases h|.inl d::b,a,c,h,⟨v,k,e,i,g⟩=>by subst e;unfold ins at h;cases f:ins b with|none=>rw[f]at h;cases h|some j=>rw[f]at h;cases h;exact .cons i (pM f g)
def Dt(e:nN):ò:=λS c=>lB (e S c) λd b=>match ins d with|some a=>if a.length<=100000 then Z (.ok (.inr b.length) (b++[.lst a]))else U|none=>U
def SR.newL(R:SR a.K f ω q Α)(c:S a.K f r ν)(g:Α e=U)(o:OU a f ω (Z (.ok (.inr q.length) (q++[.lst r]))) λu h d b=>∀v,Ĉ a.K h d u v->Æ v b):Æ (.ref e) (Û Α e (.lst ν)):=o f (ω++[e]) _ (.refl f) (XN ω [e]) (R.push g ⟨ν,au,c⟩) (.ref e) ⟨e,by rw[<-R.len,P_ (o_ _),Xn];rfl,rfl⟩
def MK{e:nN}(n:UA a A e):UE a (.List A k) (Dt e):=⟨λq s f w Q I⟨H,m,S,g,R,E,o⟩=>yd n.h q s f w Q I ⟨H,m,S,g,R,E,OU.bind o λh S1 H1 P y e1 B v b z i=>by match d:ins h with
 |none=>simp[d]at b;exact b.elim|some u=>
 simp only[d]at b;by_cases c:u.length<=100000;·rw[if_pos c]at b;have r:=pM d i;exact⟨by rw[r.length];exact bX c,λp j=>v.newL r j b⟩
 ·rw[if_neg c]at b;exact b.elim⟩⟩
def ML(f:ò)(g:nN):ò:=λS a=>lB (f S a) λu c=>match u with|.inr n=>(match c[n]? with|some (.lst _)=>lB (g c a) λe S2=>(match ins e,S2[n]? with|some [d],Z (.lst b)=>if b.length<100000 then Z (.ok (.inl .non) (S2.set n (.lst (b++[d]))))else U|_,_=>U)|_=>U)|_=>U
def MM{gs:nN}(ho:UE a w Μ)(ha:UA a [g] gs)(A:UQ w "append" a.env (eval w a.env)=eval w a.env:=by lk)(a':((TF z (k_ [g] a.env)).all (λx=>!x.1)&&(Va z (Us [] a.env)).all (λx=>x.1.isSome)&&uk ([g].length+([]:List V0).length+(if([]:List V0).isEmpty then 0 else 1)<30))=L:=by lk)(y:(k.endLine==z.line)=L:=by lk)(hs:k_ [g] a.env=(D,eval g a.env)::k_ [] a.env:=by lk)(p:(TF z (k_ [] a.env)).any (·.1)=D:=by lk):UE a (.Call (.Attribute w "append" k) [g] [] z) (ML Μ gs):=⟨λf' s σ Hf Q I⟨H,m,S,ρ,R,E,w⟩=>BZ XS W7 Zu qS ho.h ha.h A a' y hs p f' s σ Hf Q I ⟨H,m,S,ρ,R,E,OU.bind w λu S1 H1 m1 g' e1 p1 R1 i v r=>by match u,r,i with|.inl d,_,i=>exact i.elim|.inr n,⟨e,ha,hv⟩,i=>subst hv;dsimp only at i;match o:S1[n]? with|none=>rw[o]at i;exact i.elim|some (.obj f fs)=>rw[o]at i;exact i.elim|some (.lst d')=>rw[o]at i;dsimp only at i;obtain⟨b,B,b',q1,q2⟩:=R1.at' n _ o;rw[ha]at B;cases B;refine⟨.inl ⟨rfl,b',ă.of q1⟩,H1,m1,S1,ρ,R1,E.mono e1 p1,OU.bind i λus S2 H2 m2 e' e2 p2 R2 h vs rs=>?_⟩;match q:ins us,j:S2[n]? with
 |some [d],Z (.lst ds)=>
 rw[q,j]at h;dsimp only at h;by_cases hl:ds.length<100000
 · rw[if_pos hl]at h;obtain⟨b,B,xs,q3,q4⟩:=R2.at' n _ j;have P:=pL p2 ha;rw[P]at B;cases B;obtain⟨c,rfl,c'⟩:=dt (pM q rs);have hz:xs.length<sizeLine:=by have:=q4.length;have h2:=bX (b:=xs.length+1) (by omega);omega
   exact⟨e,xs,c,rfl,rfl,q3,hz,h H2 m2 _ (.refl H2) (Tx m2) (R2.put P ⟨_,au,q4.append ⟨c,[],rfl,c',rfl⟩⟩) .non rfl⟩
 ·rw[if_neg hl]at h;exact h.elim|none,_=>simp[q]at h;exact h.elim|some [],_=>simp[q]at h;exact h.elim|some (_::_::_),_=>simp[q]at h;exact h.elim|some [d],U=>simp[q,j]at h;exact h.elim|some [d],Z (.obj _ _)=>simp[q,j]at h;exact h.elim⟩⟩
inductive Ť where|nx(ρ:ü)(S:Ù)|rt(u:Uv)(S:Ù)|exc(c:Nat)(S:Ù)
abbrev cz:=Ù->ü->Option Ť
def OV(X:C)(H:Hp)(m:List O)(r:Option Ť)(a:uV):Prop:=match r with|none=>False|some (.exc c S)=>XU X c H m S|some (.rt u S)=>∀v d b e,Í H d->m<+:b->SR X.K d b S e->Ĉ X.K d b u v->a.rt v e|some (.nx g S)=>∀f d b e,Í H d->m<+:b->SR X.K d b S e->ö X.K d b f g->a.nx f e
def tVU(X:C)(f:cz):TS:=λa c d=>∃H m S b,SR X.K H m S d/\ö X.K H m c b/\OV X H m (f S b) a
structure US(X:C)(st:UH)(f:cz):Prop where h:PS X st (tVU X f)
structure Œ(X:C)(st:List UH)(f:cz):Prop where h:ĳ X st (tVU X f)
def Ff(o:Option (Ru P))(k:P->Ù->Option Ť):Option Ť:=match o with|none=>U|some (.exc c S)=>Z (.exc c S)|some (.ok a S)=>k a S
def sqV(o:Option Ť)(k:Ù->ü->Option Ť):Option Ť:=match o with|some (.nx a S)=>k S a|o=>o
def OV.mono{m:List O}{b:uV}{r:Option Ť}(h:OV a f ω r b)(e:Í f Α)(p:ω<+:m):OV a Α m r b:=by match r,h with|none,h=>exact h|some (.exc c S),h=>exact XU.mono h e p|some (.rt u S),h=>exactλv k g j i d=>h v k g j (e.trans i) (p.trans d)|some (.nx n S),h=>exactλv k g j i d=>h v k g j (e.trans i) (p.trans d)
def OU.bindV{e:uV}{o:Option (Ru P)}{k:P->Ù->Option Ť}{d:P->Hp->List O->Hp->Prop}(h:OV a f ω (Ff o k) e)(q:∀b S j g i,Í f j->ω<+:g->SR a.K j g S i->OV a j g (k b S) e->d b j g i):OU a f ω o d:=by match o,h with|none,h=>exact h|some (.exc c S),h=>exact h|some (.ok b S),h=>exactλr p i n m R=>q b S r p i n m R (OV.mono h n m)
def vM:cz:=λS a=>Z (.nx a S)
def c8(f g:cz):cz:=λS a=>sqV (f S a) g
def lX(i:Nat)(f:ò):cz:=λS a=>Ff (f S a) λu b=>Z (.nx (a.set i (Z u)) b)
def jw(f:ò):cz:=λS a=>Ff (f S a) λ_ b=>Z (.nx a b)
def nO(f:ò):cz:=λS a=>Ff (f S a) λu b=>Z (.rt u b)
def Ķ(p:Dr)(f g:cz):cz:=λS a=>Ff (p S a) λb c=>if b=L then f c a else g c a
def QJ(f:Õ):cz:=λS a=>match f (Ą S a)with|some (.exc c)=>Z (.exc c S)|_=>U
def Ij:Œ a [] vM:=⟨λe s c d b I⟨H,m,S,f,R,E,o⟩=>tz e s c d b I (o c H m d (.refl H) (Tx m) R E)⟩
def Ik{F:cz}(b:US a Η F):Œ a [Η] F:=⟨o7 b.h⟩
def Du{F G:cz}(n:US a Η F)(k:Œ a Ψ G):Œ a (Η::Ψ) (c8 F G):=⟨λp s h v b I⟨H,m,S,g,R,E,o⟩=>by refine gh n.h k.h p s h v b I ⟨H,m,S,g,R,E,?_⟩;unfold c8 sqV at o;match d:F S g with|none=>rw[d]at o;exact o.elim|some (.exc c e)=>rw[d]at o;exact o|some (.rt u e)=>rw[d]at o;exact o|some (.nx f e)=>rw[d]at o;exactλz w j A q i r y=>⟨w,j,e,f,r,y,OV.mono o q i⟩⟩
def MN(i:Nat){x:Str}(B:a.N.Nodup)(w:a.N[i]?=Z x)(p:ĸ a.env.scope x)(A:UE a g Μ)(q:UD g (Z (.Name x z)) k.line a.env=pure D:=by lk)(y:a.fn x=L\/a.env.scope.names.lookup x=Z .local:=by first|exact .inl rfl|exact .inr rfl|assumption):US a (.Assign [.Name x z] g k) (lX i Μ):=⟨λP s f Hf b I⟨H,m,S,h,R,E,o⟩=>nZ B w p A.h q y P s f Hf b I ⟨H,m,S,h,R,E,OU.bindV o λu S1 e d c e1 j R1 n v r=>n _ e d c (.refl e) (Tx d) R1 ((E.mono e1 j).set r)⟩⟩
def Il(p:UE a g Μ)(n:UD g U k.line a.env=pure D:=by lk):US a (.Expr g k) (jw Μ):=⟨λq s f z b I⟨H,m,S,h,R,E,o⟩=>tE p.h n q s f z b I ⟨H,m,S,h,R,E,OU.bindV o λu A e d c w i y j v r=>j _ e d c (.refl e) (Tx d) y (E.mono w i)⟩⟩
def MO(j:UE a g Μ):US a (.Return (Z g) k) (nO Μ):=⟨λn s f q b I⟨H,m,S,h,R,E,o⟩=>xP j.h n s f q b I ⟨H,m,S,h,R,E,OU.bindV o λu z e d c y w p i v r=>i v e d c (.refl e) (Tx d) p r⟩⟩
def QK{j:List UH}{p:Dr}{F G:cz}(v:UT a g p)(y:Œ a Ψ F)(w:Œ a j G):US a (.If g Ψ j k) (Ķ p F G):=⟨λz s u A c I⟨H,m,S,e,R,E,o⟩=>F7 v.h y.h w.h z s u A c I ⟨H,m,S,e,R,E,OU.bindV o λb n r h B i f q d=>by cases b with|true=>rw[if_pos rfl]at d⊢;exact⟨r,h,n,e,q,E.mono i f,d⟩|false=>rw[if_neg (by simp)]at d⊢;exact⟨r,h,n,e,q,E.mono i f,d⟩⟩⟩
def MP(h:FS a Η Υ):US a Η (QJ Υ):=⟨λi s g j b I⟨H,m,S,f,R,E,o⟩=>by refine h.h i s g j b I ⟨Ą S f,R.envs E,?_⟩;unfold QJ at o;match e:Υ (Ą S f)with|none=>rw[e]at o;exact o.elim|some (.rt d)=>rw[e]at o;exact o.elim|some (.nx _)=>rw[e]at o;exact o.elim|some (.exc c)=>rw[e]at o;exact XU.xw o R⟩
def mR(k j:Nat)(w:Uv)(a:List Uv):Option (List Uv):=if j<a.length then Z (a.set j w)else if j=a.length/\a.length<(ĉ k).length then Z (a++[w])else U
def nJ(k j:Nat)(o f:ò):cz:=λS a=>Ff (f S a) λw d=>Ff (o d a) λu S2=>match u with|.inr n=>(match S2[n]? with|some (.obj c fs)=>if c=k then(match mR k j w fs with|some b=>Z (.nx a (S2.set n (.obj k b)))|none=>U)else U|_=>U)|_=>U
def MQ{i:ò}(f:CK a.K b e)(c':(ĉ b)[o]?=Z c)(ho:UE a w i)(he:UE a g Μ)(hs:UD g (Z (.Attribute w c z)) k.line a.env=pure D:=by lk):US a (.Assign [.Attribute w c z] g k) (nJ b o i Μ):=⟨λf' s σ Hf p I⟨H,m,S,ρ,R,E,w⟩=>Ku ho.h he.h hs f' s σ Hf p I ⟨H,m,S,ρ,R,E,OU.bindV w λh S1 H1 m1 i' e1 p1 R1 o1 y ry=>⟨H1,m1,S1,ρ,R1,E.mono e1 p1,OU.bindV o1 λu S2 H2 m2 h' e2 p2 R2 B v r=>by match u,r,B with
 |.inl d,_,B=>exact B.elim|.inr n,⟨j,ha,hv⟩,B=>subst hv;dsimp only at B;match a':S2[n]? with
 |none=>rw[a']at B;exact B.elim|some (.lst ds)=>rw[a']at B;exact B.elim|some (.obj k' fs)=>
 rw[a']at B;dsimp only at B;by_cases hk:k'=b
 · subst hk;rw[if_pos rfl]at B;obtain⟨q,d',C',dx,vs,h1,h2,h3,h4⟩:=R2.at' n _ a';rw[ha]at d';cases d';rw[w5 f h2]at h1;have lv:=h3.length;refine⟨j,e,dx,_,rfl,h1,f.c,f.a c (S_ c'),?_,?_⟩
   · have:(ĉ k').length<1000:=by unfold ĉ;split<;>decide
     rw[List.length_zip];omega
   ·match A:mR k' o h fs with
     |none=>rw[A]at B;exact B.elim|some g'=>
     rw[A]at B;dsimp only at B;have b':Ĉ a.K H2 m2 h y:=ry.mono e2 p2;refine B σ H2 m2 _ (.refl H2) (Tx m2) (R2.put ha ⟨e,dx,if o<vs.length then vs.set o y else vs++[y],?_,by rw[<-w5 f h2];exact h2,?_,?_⟩) ((E.mono e1 p1).mono e2 p2)
     · rw[au];unfold mR at A;have e':o<=vs.length:=by
        by_cases hj:o<fs.length;·omega
        · rw[if_neg hj]at A;by_cases P:o=fs.length/\fs.length<(ĉ k').length;·omega
          ·rw[if_neg P]at A;cases A
       rw[vL (Ag k') c' e' (by omega)]
     · unfold mR at A;by_cases hj:o<fs.length;·rw[if_pos hj]at A;cases A;rw[if_pos (by omega)];exact h3.set o b'
       · rw[if_neg hj]at A;by_cases P:o=fs.length/\fs.length<(ĉ k').length;·rw[if_pos P]at A;cases A;rw[if_neg (by omega)];exact h3.append ⟨y,[],rfl,b',rfl⟩
         ·rw[if_neg P]at A;cases A
     · unfold mR at A;by_cases hj:o<fs.length;·rw[if_pos hj]at A;cases A;rw[Uf];exact h4
       · rw[if_neg hj]at A;by_cases P:o=fs.length/\fs.length<(ĉ k').length;·rw[if_pos P]at A;cases A;rw[Uw];simp;omega
         ·rw[if_neg P]at A;cases A
 ·rw[if_neg hk]at B;exact B.elim⟩⟩⟩
def Im(b:List Nat)(a:ü):ü:=b.foldl (λr j=>r.set j U) a
def ö.fgt1(j:Nat)(E:ö v f ω Ν Ζ):ö v f ω Ν (Ζ.set j U):=by
 refine⟨by rw[Uf];exact E.len,λi d h=>?_⟩;by_cases a:j=i
 · subst a;by_cases b:j<Ζ.length;·rw[K_ b]at h;cases h
   ·rw[Uo (by rw[Uf];omega)]at h;cases h
 ·rw[E_ a]at h;exact E.at' i d h
def ö.fgt{H:Hp}{m:List O}{K:d_}{c:L2.St}:∀(b:List Nat){a:ü},ö K H m c a->ö K H m c (Im b a)|[],_,E=>E|j::b,a,E=>ö.fgt b (E.fgt1 j)
abbrev Đ:=Ù->List Uv->Option (Ru Uv)
def oQ{c:List Uv}(r:ã v f ω c ν):ö v f ω (L2.start u ν) (c.map Z++Ud (u.length-c.length) U):=by
 have j:=r.length;refine⟨by unfold L2.start;rw[Uw,Uw,N_,N_,VE,VE,j],λi d h=>?_⟩;by_cases g:i<c.length
 ·rw[M_ (by simpa using g),J_]at h;match e:c[i]? with|none=>rw[e]at h;cases h|some b=>rw[e]at h;cases h;obtain⟨a,m,k⟩:=r.get e;refine⟨a,?_,k⟩;unfold L2.start;rw[M_ (by rw[N_,j];exact g),J_,m];rfl
 ·rw[P_ (by simpa using g)]at h;have:=S_ h;rw[List.mem_replicate]at this;cases this.2
def fu(k:Nat)(F:Đ)(n:Nat)(g:ò)(f:nN):ò:=λS a=>lB (g S a) λu d=>match u with|.inr c=>(match d[c]? with|some (.obj e _)=>if e=k then lB (f d a) λb S2=>(if b.length=n then F S2 (.inr c::b)else U)else U|_=>U)|_=>U
def rZ(k:Nat)(F:Đ)(n:Nat)(d:nN):ò:=λS c=>lB (d S c) λb a=>if b.length=n then lB (F (a++[.obj k []]) (.inr a.length::b)) λu S2=>(match u with|.inl .non=>Z (.ok (.inr a.length) S2)|_=>U)else U
abbrev um:=List (Str×Nat×Nat×Đ)
def OZ(n:Nat)(b:cz):Ó:=λa=>match b [] ((a.map λd=>Z (.inl d))++Ud (n-a.length) U)with|some (.rt (.inl d) _)=>Z (.ok d)|_=>U
def vN{K:d_}{H:Hp}{m:List O}:∀{c:List N}{a:List V},S K H c a->ã K H m (c.map .inl) a|[],a,r=>r|d::c,a,r=>by obtain⟨v,b,e,g,f⟩:∃v b,a=v::b/\Ð K H d v/\S K H c b:=r;exact⟨v,b,e,g,vN f⟩
def MR(N B:List Str)(P:cz)(hF:Â=OZ N.length P)(hn:o=B.length)(Fn:ı v c m Η e Ä)(Sc:iH N B (aH Η))(hb:∀(u:R)(A:x_)(q:List Env)(s:ge)(H:Hp)(E:XK),Ú b (A.deeper (Xv m (aH Η) s.heap.objs.size e u))->Œ (uZ Ē n j v Χ ε N m (aH Η) e u A q s H E).nox (cr Η) P):î n j v Χ ε Ē (b+1) e Ä B (Ĵ v Â o):=by
 subst hF hn;obtain⟨oc,od,kV,c',pm,an,u,ct,b',rfl,lk,a'⟩:=Fn.ex;refine Gg lk a' Sc (λvs H Q E h=>?_) λA q s H vs Q E hr h=>?_;·obtain⟨y,r,hl,_⟩:=h;rw[r.length,hl]
 ·obtain⟨y,r,hl,z⟩:=h;have a:=oQ (u:=N) (vN (m:=[]) r);rw[Uq,N_]at a;refine⟨_,(hb u A q s H E hr).h.nox,H,[],[],_,⟨rfl,aaO,(λ_ z=>by cases z),.refl H,(λ_ _ z=>by simp at z)⟩,a,?_⟩;unfold OZ at z;have e0:(y.map λd=>Z (WR d:Uv))=y.map (Z∘WR):=rfl;rw[e0]at z;match w:P [] (y.map (Z∘WR)++Ud (N.length-y.length) U)with|none=>rw[w]at z;exact z.elim|some (.exc k S)=>rw[w]at z;exact z.elim|some (.nx ρ S)=>rw[w]at z;exact z.elim|some (.rt (.inr _) S)=>rw[w]at z;exact z.elim|some (.rt (.inl d) S)=>rw[w]at z;exactλg H' m' Hf i p f r'=>z g Hf (i.trans f.up) (Ð.mono f.up _ _ r')
def Io(h:PE a g (xM b)):UE a g (fg b):=MH b h
def Ip(d:CK a.K o e)(f:UE a g Μ)(h:(ĉ o)[b]?=Z c:=by lk)(i:UQ g c a.env (eval g a.env)=eval g a.env:=by lk):UE a (.Attribute g c k) (JW o b Μ):=MI d h f i
def Iq(i:UE a g Μ)(j:Ġ a.N=L:=by lk)(f:a.N[b]?=Z c:=by lk)(d:jL a.env.scope c=L:=by lk)(h:a.fn c=L:=by lk)(e:UD g (Z (.Name c z)) k.line a.env=pure D:=by lk):US a (.Assign [.Name c z] g k) (lX b Μ):=MN b (iP j) f (eI d) i e (.inl h)
def Ir{d:ò}(f:CK a.K o e)(j:UE a g d)(m:UE a w Μ)(h:(ĉ o)[b]?=Z c:=by lk)(i:UD w (Z (.Attribute g c z)) k.line a.env=pure D:=by lk):US a (.Assign [.Attribute g c z] w k) (nJ o b d Μ):=MQ f h j m i
def MS(b:a.A.units+64<cLine)(e:UE a g Μ)(d:FE a w B)(c:Q_ .Eq w=D:=by lk):UE a (.Compare g [.Eq] [w] k) (lG à Μ B):=Ig (GJ b) GL e d c
def MT(b:a.A.units+64<cLine)(e:UE a g Μ)(d:FE a w B)(c:Q_ .NotEq w=D:=by lk):UT a (.Compare g [.NotEq] [w] k) (uB (lG ď Μ B)):=Ih (GK b) GM e d c
def MU{b:ò}(c:a.A.units+64<cLine)(f:UE a g Μ)(e:UE a w b)(d:Q_ .NotEq w=D:=by lk):UT a (.Compare g [.NotEq] [w] k) (uB (ul ď Μ b)):=Ii (GK c) GM f e d
structure Lk(J:It)(a c:Int)(n:Nat):Prop where
 go:∀i H,i<n->J.go i H
 yld:∀i H x H',J.yld i H x H'->H'=H/\x=.int (a+(i:Int)*c)stop:∀i H,n<=i->J.stop i H
abbrev FnI:=Ev->Option (Int×Int×Nat)
structure UI(X:C)(tg iter:u_)(w:FnI):Prop where h:PI X tg iter λσ H R=>∃ρ a c n,Ø X.K H σ ρ/\w ρ=Z (a,c,n)/\∀J H',Í H H'->Lk J a c n->R J H'
abbrev okR(n:Int):Prop:=-(2^62)<=n/\n<2^62
def iU1(b:Þ):FnI:=λa=>match b a with|some (.ok [.int n])=>if okR n then Z (0,1,n.toNat)else U|_=>U
def QL(a:Int)(n:Nat):Lk (X' a n) a 1 n:=⟨λ_ _ h=>h,λi H x b⟨h,e⟩=>⟨h,by rw[e,Int.mul_one]⟩,λ_ _ h=>h⟩
def S6(o:Gl a "range")(m:a.mg "range"=U)(p:FA a [w] ξ)(i:k_ [w] a.env=[(D,eval w a.env)]:=by lk):UI a g (.Call (.Name "range" k) [w] [] z) (iU1 ξ):=⟨λr s d H R I⟨e,P,B,A,E,b,q⟩=>by
 refine qJ o m p.h i r s d H R I ⟨e,E,?_⟩;unfold iU1 at b;split at b
 · rename_i n j;rw[j];split at b;·rename_i c;cases b;intro y Hg u h;obtain⟨v,rfl,f⟩:=dt h;exact⟨n,by rw[show v=.int n from f],c.1,c.2,q _ _ u (QL 0 _)⟩
   ·cases b
 ·cases b⟩
def nP(i:Nat)(d:List Nat)(F:cz)(a c:Int):Nat->Nat->Ù->ü->Option Ť|0,_,S,b=>Z (.nx (Im d b) S)|n+1,k,S,b=>match F S ((Im d b).set i (Z (.inl (.int (a+(k:Int)*c)))))with|some (.nx e f)=>nP i d F a c n (k+1) f e|o=>o
def w6(i:Nat)(d:List Nat)(w:FnI)(F:cz):cz:=λS b=>match w (Ą S b)with|some (a,c,n)=>nP i d F a c n 0 S b|none=>U
def Iu{e:FnI}{F:cz}(i:Nat)(B:List Nat)(hp:W5 (w_ a.prog a.w) a.A a.env a.xe)(hc:a.calm=L)(hi:UI a g w e)(hn:PG a g (wB i))(hb:Œ a Ψ F)(g':∀x,TU w a.env x=pure x:=by intro _;lk):US a (.For g w Ψ [] k) (w6 i B e F):=⟨λf' s σ Hf h I⟨H,m,S,ρ,R,E,o⟩=>by unfold w6 at o;match hq:e (Ą S ρ)with
 |none=>rw[hq]at o;exact o.elim|some (d,c,n)=>
 rw[hq]at o;dsimp only at o;refine qK hp hc hi.h hn hb.h g' f' s σ Hf h I ⟨Ą S ρ,d,c,n,R.envs E,hq,λJ Hg eg f=>?_⟩;obtain⟨H0,e0,R0,_⟩:=R.grow eg;refine⟨λb q a' b'=>q=n-b/\b<=n/\∃z A S' p,SR a.K z A S' b'/\ö a.K z A a' p/\OV a z A (nP i B F d c (n-b) b S' p) h,⟨n,by simp,TN _,H0,m,S,ρ,R0,E.mono e0 (Tx m),by simpa using o.mono e0 (Tx m)⟩,?_⟩;rintro b q a' b'⟨rfl,hk,z,A,S',p,R',E',j⟩;by_cases c':b<n;·refine .inr ⟨f.go b _ c',λP d'=>∃H2 m2 S2 u,SR a.K H2 m2 S2 d'/\ö a.K H2 m2 P u/\OV a H2 m2 (nP i B F d c (n-(b+1)) (b+1) S2 u) h,λP d' q=>⟨n-(b+1),by omega,rfl,c',q⟩,λx H2 y=>?_⟩;obtain⟨rfl,rfl⟩:=f.yld b _ x H2 y;rw[show n-b=(n-(b+1))+1 by omega]at j;unfold nP at j;show tVU a F _ _ _;refine⟨z,A,S',(Im B p).set i (Z (.inl (.int (d+(b:Int)*c)))),R',(ö.fgt B E').set (show Ð a.K z (.int (d+(b:Int)*c)) (.int (d+(b:Int)*c))from rfl),?_⟩;match v:F S' ((Im B p).set i (Z (.inl (.int (d+(b:Int)*c)))))with|none=>rw[v]at j;exact j|some (.exc c _)=>rw[v]at j;exact j|some (.rt r _)=>rw[v]at j;exact j|some (.nx u S2)=>rw[v]at j;exactλP H3 m3 h' e3 p3 R3 E3=>⟨H3,m3,S2,u,R3,E3,OV.mono j e3 p3⟩
 · have e':b=n:=by omega
   subst e';rw[Xn]at j;exact .inl ⟨f.stop b _ (o_ _),j a' z A b' (.refl z) (Tx A) R' (ö.fgt B E')⟩⟩
def Dw{w:FnI}{V:cz}{e:List Nat}(h:W5 (w_ a.prog a.w) a.A a.env a.xe)(j:UI a (.Name c z) g w)(o:Œ a Ψ V)(n:a.calm=L:=by lk)(p:Ġ a.N=L:=by lk)(f:a.N[b]?=Z c:=by lk)(i:jL a.env.scope c=L:=by lk)(m:a.fn c=L:=by lk)(d:∀c,TU g a.env c=pure c:=by intro _;lk):US a (.For (.Name c z) g Ψ [] k) (w6 b e w V):=Iu b e h n j (gZ (iP p) f (eI i) (.inl m)) o d
def nK(n:Nat)(c:cz):Đ:=λS b=>match c S (b.map Z++Ud (n-b.length) U)with|some (.nx _ a)=>Z (.ok (.inl .non) a)|some (.rt u a)=>Z (.ok u a)|_=>U
def NX(F:Đ):Prop:=∀S a c b,F S a≠Z (.exc c b)
def MV{F:Đ}{a:cz}(h:F=nK b a):NX F:=λS d c e z=>by subst h;unfold nK at z;split at z<;>cases z
def spV(K:d_)(F:Đ)(n:Nat):Sp:=λe g Q _=>∃H m S b,SR K H m S g/\ã K H m b e/\b.length=n/\match F S b with|some (.ok u f)=>∀v d c a,Í H d->m<+:c->SR K d c f a->Ĉ K d c u v->Q v a|_=>False
def Fg{F:Đ}(N P:List Str)(fb:cz)(hF:F=nK N.length fb)(hn:o=P.length)(Fn:ı v c m Η e Ä)(Sc:iH N P (aH Η))(hb:∀(w:R)(A:x_)(k:List Env)(s:ge)(H:Hp)(E:XK),Ú b (A.deeper (Xv m (aH Η) s.heap.objs.size e w))->Œ (uZ Ē n j v Χ ε N m (aH Η) e w A k s H E).nox (cr Η) fb):î n j v Χ ε Ē (b+1) e Ä P (spV v F o):=by
 subst hF hn;obtain⟨oc,od,kV,d',pm,an,w,ct,c',rfl,lk,a'⟩:=Fn.ex;refine Gg lk a' Sc (λvs H Q E h=>?_) λA k s Hf vs Q E hr h=>?_;·obtain⟨H,d,S,z,f,r,hl,_⟩:=h;rw[r.length,hl]
 ·obtain⟨H,d,S,z,f,r,hl,q⟩:=h;refine⟨_,(hb w A k s Hf E hr).h.nox,H,d,S,z.map Z++Ud (N.length-z.length) U,f,oQ r,?_⟩;unfold nK at q;match B:fb S (z.map Z++Ud (N.length-z.length) U)with|none=>rw[B]at q;exact q.elim|some (.exc i S1)=>rw[B]at q;exact q.elim|some (.rt u S1)=>rw[B]at q;exactλg H' m' y a p R' r'=>q g H' m' y a p R' r'|some (.nx ρ S1)=>rw[B]at q;exactλb' H' m' y a p R' _=>q .non H' m' y a p R' rfl
def Fh{F:Đ}(s:NX F){H n:Hp}{m:List O}{S:Ù}{f:List Uv}{j:List V}{Q:VK}(R:SR a.K H m S n)(q:ã a.K H m f j)(w:f.length=b)(o:OU a H m (F S f) λu i g d=>∀v,Ĉ a.K i g u v->Q v d):spV a.K F b j n Q E0:=by refine⟨H,m,S,f,R,q,w,?_⟩;match h:F S f with|none=>rw[h]at o;exact o.elim|some (.ok u k)=>rw[h]at o;exactλv i g d e p y r=>o i g d e p y v r|some (.exc c k)=>exact(s S f c k h).elim
structure Dx(P:n_)(w:y_)(K:d_)(mg:Str->Option R)(base:O_)(k:Nat)(C:O)(m:Str)(lv n:Nat)(F:Đ):Prop where
 c:CK K k C
 nx:NX F
 h:m∉ĉ k
 f:∃f fd ps,JH K C m f/\î P w K mg base Ē lv f fd ps (spV K F (n+1))/\ñ K fd ps []
def Aj{p:Nat}{F:Đ}{gs:nN}{pl:Sem Bool}(h:Dx a.prog a.w a.K a.mg a.base b e c Ρ o F)(hr:Ú p a.A)(hk:Ρ<=p)(ho:UE a g Μ)(ha:UA a (w::A) gs)(ht:MC a g c (w::A) z k pl)(he:k_ (w::A) a.env=(D,eval w a.env)::k_ A a.env:=by lk)(a':(TF k (k_ A a.env)).any (·.1)=D:=by lk):UE a (.Call (.Attribute g c z) (w::A) [] k) (fu b F o Μ gs):=by have nx:=h.nx;obtain⟨f,fd,ps,hm,G,hb⟩:=h.f;refine⟨λf' s σ Hf Q I⟨H,m,S,ρ,R,E,g⟩=>Ge (v:=pl) ho.h h.c.c hm (G.mono hk) hr hb .nil yq ha.h he a' ht f' s σ Hf Q I ⟨H,m,S,ρ,R,E,OU.bind g λu S1 H1 m1 c' e1 p1 R1 n v r=>?_⟩⟩;match u,r,n with
 |.inl d,_,n=>exact n.elim|.inr n',⟨i,ha,hv⟩,n=>subst hv;dsimp only at n;match P:S1[n']? with
 |none=>rw[P]at n;exact n.elim|some (.lst ds)=>rw[P]at n;exact n.elim|some (.obj k' fs)=>
 rw[P]at n;dsimp only at n;by_cases q:k'=b
 · subst q;rw[if_pos rfl]at n;obtain⟨j,y,C',dx,vs,h1,h2,h3,h4⟩:=R1.at' n' _ P;rw[ha]at y;cases y;rw[w5 h.c h2]at h1;refine⟨i,dx,_,rfl,h1,mQ h.h,H1,m1,S1,ρ,R1,E.mono e1 p1,OU.bind n λus S2 H2 m2 b' e2 p2 R2 B ws rs=>?_⟩;show spV a.K F (o+1) (.ref i::(ws++[])) b' Q E0;rw[W3];by_cases hl:us.length=o;·rw[if_pos hl]at B;exact Fh nx (f:=.inr n'::us) R2 ⟨.ref i,ws,rfl,⟨i,pL p2 ha,rfl⟩,rs⟩ (by rw[TW,hl]) B
   ·rw[if_neg hl]at B;exact B.elim
 ·rw[if_neg q]at n;exact n.elim
structure Iw(P:n_)(w:y_)(K:d_)(mg:Str->Option R)(base:O_)(k:Nat)(C:O)(lv n:Nat)(F:Đ):Prop where
 c:CK K k C
 nx:NX F
 g:mg (ŋ k)=Z (.ref C)f:∃f fd ps,Mk K C f/\î P w K mg base Ē lv f fd ps (spV K F (n+1))/\ñ K fd ps []
def Al{p:Nat}{F:Đ}{gs:nN}(h:Iw a.prog a.w a.K a.mg a.base b e Ρ o F)(a':Ú p a.A)(hk:Ρ+1<=p)(hg:Gl a (ŋ b))(P:UA a (g::A) gs)(d':(ŋ b==("__debug__":Str))=D)(he:k_ (g::A) a.env=(D,eval g a.env)::k_ A a.env:=by lk)(b':(TF z (k_ A a.env)).any (·.1)=D:=by lk):UE a (.Call (.Name (ŋ b) k) (g::A) [] z) (rZ b F o gs):=by
 have nx:=h.nx;obtain⟨f,fd,ps,M,G,hb⟩:=h.f;refine⟨λf' s σ Hf Q I⟨H,m,S,ρ,R,E,i⟩=>Gf M G (a'.mono hk) hg h.g hb .nil yq P.h d' he b' f' s σ Hf Q I ⟨H,m,S,ρ,R,E,OU.bind i λus S1 H1 y h' e1 p1 R1 w vs rs=>?_⟩⟩;by_cases B:us.length=o
 · rw[if_pos B]at w;intro c dx P c' q;obtain⟨H2,e2,R2,_⟩:=R1.grow (aC c' (.own c));have e':Û h' dx (.own c) c=U:=by rw[aB (by first|exact q|exact VB q)];exact P
   have R3:=R2.push (o:=.ins e dx []) (c:=.obj b []) e' ⟨e,dx,[],by rw[au];simp,h.c.n,rfl,TN _⟩;have j:(y++[c])[S1.length]?=Z c:=by rw[<-R1.len,P_ (o_ _),Xn];rfl
   show spV a.K F (o+1) (.ref c::(vs++[])) _ _ E0;rw[W3];refine Fh nx (f:=.inr S1.length::us) R3 ⟨.ref c,vs,rfl,⟨c,j,rfl⟩,rs.mono e2 (XN y [c])⟩ (by rw[TW,B]) (OU.bind (w.mono e2 (XN y [c])) λu S4 H4 m4 g' e4 p4 R4 n v r=>?_);match u,r,n with|.inr _,_,n=>exact n.elim|.inl d,r,n=>cases d with|non=>exact⟨r,n H4 m4 g' (.refl H4) (Tx m4) R4 (.ref c) ⟨c,pL p4 j,rfl⟩⟩|_=>exact n.elim
 ·rw[if_neg B]at w;exact w.elim
structure Ė(P:n_)(w:y_)(K:d_)(mg:Str->Option R)(base:O_)(k:Nat)(C:O)(T:um):Prop where h:∀m e,T.lookup m=Z e->Dx P w K mg base k C m e.1 e.2.1 e.2.2
def An:Ė n j v Χ ε b e []:=⟨λ_ _ h=>by cases h⟩
def ez{T:um}{F:Đ}(h:Dx n j v Χ ε b e c o Ρ F)(t:Ė n j v Χ ε b e T):Ė n j v Χ ε b e ((c,o,Ρ,F)::T):=⟨λx a z=>by
 rcases ki z with⟨rfl,rfl⟩|z;·exact h
 ·exact t.h x a z⟩
def eC{F:Đ}(a:CK v b e)(N f:List Str)(h:cz)(A:Am v e m c Η y)(i:BdQ c m Η f)(w:∀(g:R)(A:x_)(d:List Env)(s:ge)(H:Hp)(E:XK),Ú o (A.deeper (Xv m (aH Η) s.heap.objs.size y g))->Œ (uZ Ē n j v Χ ε N m (aH Η) y g A d s H E).nox (cr Η) h)(k:F=nK N.length h:=by lk)(q:fnB N f (aH Η)=L:=by lk)(r:Ρ+1=f.length:=by lk)(u:noB b c=L:=by lk):Dx n j v Χ ε b e c (o+1) Ρ F:=let⟨_,p⟩:=A.F;⟨a,MV k,MG u,_,_,f,A.t,Fg N f h k r p (Mq q) w,p.binds i⟩
def Ao{h:O_}{F:Đ}(z:v.In h)(B:h.Ns R_ Χ)(a:CK v b e)(M:Mk v e y)(N f:List Str)(i:cz)(A:∃w,ı v "__init__" c Η y w)(k:BdQ "__init__" c Η f)(u:∀(g:R)(A:x_)(d:List Env)(s:ge)(H:Hp)(E:XK),Ú o (A.deeper (Xv c (aH Η) s.heap.objs.size y g))->Œ (uZ Ē n j v Χ ε N c (aH Η) y g A d s H E).nox (cr Η) i)(m:F=nK N.length i:=by lk)(q:fnB N f (aH Η)=L:=by lk)(r:Ρ+1=f.length:=by lk):Iw n j v Χ ε b e (o+1) Ρ F:=let⟨_,p⟩:=A;⟨a,MV m,Yz z B a.n,_,_,f,M,Fg N f i m r p (Mq q) u,p.binds k⟩
def Dy{T:um}{F:Đ}{j:nN}(u:Ė a.prog a.w a.K a.mg a.base b e T)(n:Ú Ρ a.A)(f:(T.lookup c).map (λq=>q.2.2)=Z F)(p:UE a g Μ)(s:UA a (w::A) j)(d:((T.lookup c).all λq=>aa1 q.1 Ρ&&Z8 o q.2.1)=L:=by lk)(m:MC a g c (w::A) z k (QH g a.env):=by delta MC;lk)(r:k_ (w::A) a.env=(D,eval w a.env)::k_ A a.env:=by lk)(i:(TF k (k_ A a.env)).any (·.1)=D:=by lk):UE a (.Call (.Attribute g c z) (w::A) [] k) (fu b F o Μ j):=by cases h:T.lookup c with|none=>rw[h]at f;cases f|some q=>rw[h]at f d;cases f;rw[W1,pi]at d;obtain rfl:=We d.2;exact Aj (u.h c q h) n (Vi d.1) p s m r i
def Dz{d:Nat}{F:Đ}{n:nN}(h:Iw a.prog a.w a.K a.mg a.base b e Ρ o F)(f:Ú d a.A)(s:UA a (g::A) n)(m:ŋ b=c:=by lk)(p:aa1 (Ρ+1) d=L:=by lk)(q:a.env.kindOf c=Z .globalImplicit:=by lk)(j:(c==("__debug__":Str))=D:=by lk)(r:k_ (g::A) a.env=(D,eval g a.env)::k_ A a.env:=by lk)(i:(TF k (k_ A a.env)).any (·.1)=D:=by lk):UE a (.Call (.Name c z) (g::A) [] k) (rZ b F o n):=by subst m;exact Al h f (Vi p) (ī q) s j r i
def Ix(f g:ò):ò:=λS a=>lB (f S a) λu b=>match u with|.inl (.bl L)=>g b a|.inl (.bl D)=>Z (.ok (.inl (.bl D)) b)|_=>U
def MW{b:BoolOp}(h:UE a g Μ):UE a (.BoolOp b [g] k) Μ:=⟨Ek h.h⟩
def MX{b:ò}(z:UE a g Μ)(y:UE a (.BoolOp .And (w::A) k) b):UE a (.BoolOp .And (g::w::A) k) (Ix Μ b):=⟨λB s p Hf Q I⟨H,m,S,j,R,E,o⟩=>El z.h y.h B s p Hf Q I ⟨H,m,S,j,R,E,OU.bind o λu S1 h f i P q n e v r=>by match u,r,e with|.inr _,_,e=>exact e.elim|.inl d,r,e=>cases d with
 |bl c=>cases c with|true=>exact⟨L,r,Eu ⟨h,f,S1,j,n,E.mono P q,e⟩⟩|false=>exact⟨D,r,Et (e h f i (.refl h) (Tx f) n (.bl D) rfl)⟩
 |_=>exact e.elim⟩⟩
structure QM(P:n_)(w:y_)(K:d_)(mg:Str->Option R)(base:O_)(k:Nat)(C:O)(m:Str)(lv:Nat)(F:Ó):Prop where
 c:CK K k C
 h:m∉ĉ k
 f:∃f fd ps,JH K C m f/\î P w K mg base Ē lv f fd ps (Ĵ K F 1)/\ñ K fd ps []
structure œ(P:n_)(w:y_)(K:d_)(mg:Str->Option R)(base:O_)(k:Nat)(C:O)(T:HZ):Prop where h:∀m e,T.lookup m=Z e->QM P w K mg base k C m e.1 e.2.2
def Ap:œ n j v Χ ε b e []:=⟨λ_ _ h=>by cases h⟩
def vO{T:HZ}(h:QM n j v Χ ε b e c o Â)(t:œ n j v Χ ε b e T):œ n j v Χ ε b e ((c,o,Ρ,Â)::T):=⟨λx a z=>by
 rcases ki z with⟨rfl,rfl⟩|z;·exact h
 ·exact t.h x a z⟩
def Aq(a:CK v b e)(N f:List Str)(h:Õ)(A:Am v e m c Η y)(i:BdQ c m Η f)(u:∀(g:R)(A:x_)(d:List Env)(s:ge)(H:Hp)(E:XK),Ú o (A.deeper (Xv m (aH Η) s.heap.objs.size y g))->Ģ (uZ Ē n j v Χ ε N m (aH Η) y g A d s H E).nox (cr Η) h)(w:Â=aS N.length h:=by lk)(p:fnB N f (aH Η)=L:=by lk)(q:1=f.length:=by lk)(r:noB b c=L:=by lk):QM n j v Χ ε b e c (o+1) Â:=let⟨_,k⟩:=A.F;⟨a,MG r,_,_,f,A.t,EA N f h w q k (Mq p) u,k.binds i⟩
def DB{T:HZ}(hT:œ a.prog a.w a.K a.mg a.base b e T)(hr:Ú o a.A)(n:(T.lookup c).map (λq=>q.2.2)=Z Â)(ho:FE a g B)(s:((T.lookup c).all λq=>aa1 q.1 o)=L:=by lk)(P:MC a g c [] z k (QH g a.env):=by delta MC;lk):FE a (.Call (.Attribute g c z) [] [] k) (df b Â B):=by cases p:T.lookup c with|none=>rw[p]at n;cases n|some q=>
 rw[p]at n s;cases n;rw[W1]at s;have h:=hT.h c q p;obtain⟨f,fd,ps,hm,G,hb⟩:=h.f;refine dv (BU (o:=QH g a.env) ho.h h.c.c hm (G.mono (Vi s)) hr hb .nil yq P) λσ H Q A E g=>⟨A,E,ê.bind g λd v H1 e1 r m=>?_⟩;by_cases u:isO b d=L;·rw[if_pos u]at m;dsimp only at m;obtain⟨y,rfl⟩:=MF u;obtain⟨i,C',dx,vs,rfl,w,hn,qq,l⟩:=r.objE;rw[w5 h.c hn]at w;refine⟨i,dx,_,rfl,w,mQ h.h,?_⟩;show Ĵ a.K q.2.2 1 [.ref i] H1 Q E0;refine⟨[.obj b y],.cons r .nil,rfl,?_⟩;match n:q.2.2 [.obj b y]with|none=>rw[n]at m;exact m.elim|some (.ok d')=>rw[n]at m;exact m|some (.exc j)=>rw[n]at m;exact m.elim
 ·rw[if_neg u]at m;exact m.elim
def mS{i:Nat}{g:List Nat}{c:Õ}{f:Ev}:∀{j:List N},(∀d∈j,∃b,c (f.set i (Z d))=Z (.nx b)/\fgt g b=f)->∀a,fgt g a=f->mC i g c j a=Z (.nx f)|[],_,a,e=>by unfold mC;rw[e]|d::j,h,a,e=>by obtain⟨b,n,m⟩:=h d on;unfold mC;rw[e,n];exact mS (λo k=>h o (r_ _ k)) b m
def Ar{g:Õ}(h:Ο ζ=Z (.ok L)):bg Ο Υ g ζ=Υ ζ:=by unfold bg;rw[h];rfl
def aU{p:P->Bool}{l:List P}(h:l.all p=L){x:P}(a:x∈l):p x=L:=Uz.mp h x a
end FD
variable{Ζ:FD.ü}{q:FD.Ù}{Μ:FD.ò}
namespace G
open L2 FD
def Î(i:Nat):UH:=p9_.main.body.getD i (.Pass ⟨0,0,0,0⟩)
section
variable{X:C}{a b c o e:u_}{es:List u_}{fa fb fc fo:Ò}{ga:Þ}{pos p pt apos cpos:Pos}
def MY(d:FE X a fa)(c:FE X b fb):FE X (.BinOp a .Add b pos) (I cY fa fb):=wK ų La d c
def MZ(d:FE X a fa)(c:FE X b fb):FE X (.BinOp a .Add b pos) (I iy fa fb):=wK LG LH d c
def M1(d:FE X a fa)(c:FE X b fb):FE X (.BinOp a .Sub b pos) (I wO fa fb):=wK Kp PD d c
def M3(d:FE X a fa)(c:FE X b fb):FE X (.BinOp a .Mult b pos) (I mD fa fb):=wK Kq PF d c
def M4(d:FE X a fa)(c:FE X b fb):FE X (.BinOp a .Mod b pos) (I jW fa fb):=wK Kr PH d c
def Iy(d:FE X a fa)(c:FE X b fb):FE X (.BinOp a .FloorDiv b pos) (I jZ fa fb):=wK F8 Lb d c
def M5(c:X.A.units+64<cLine)(f:FE X a fa)(e:FE X b fb)(d:Q_ .Eq b=D:=by lk):FT X (.Compare a [.Eq] [b] pos) (fB (I à fa fb)):=jz (GJ c) GL f e d
def M6(c:X.A.units+64<cLine)(f:FE X a fa)(e:FE X b fb)(d:Q_ .NotEq b=D:=by lk):FT X (.Compare a [.NotEq] [b] pos) (fB (I ď fa fb)):=jz (GK c) GM f e d
def M7(e:FE X a fa)(d:FE X b fb)(c:Q_ .Lt b=D:=by lk):FT X (.Compare a [.Lt] [b] pos) (fB (I ltX fa fb)):=jz Lp Lq e d c
def M8(e:FE X a fa)(d:FE X b fb)(c:Q_ .Gt b=D:=by lk):FT X (.Compare a [.Gt] [b] pos) (fB (I ť fa fb)):=jz Kt (Le _) e d c
def M9(e:FE X a fa)(d:FE X b fb)(c:Q_ .Is b=D:=by lk):FT X (.Compare a [.Is] [b] pos) (fB (I ċ fa fb)):=jz Ep Lf e d c
def Iz(e:FE X a fa)(d:FE X b fb)(c:Q_ .IsNot b=D:=by lk):FT X (.Compare a [.IsNot] [b] pos) (fB (I nI fa fb)):=jz xX ED e d c
def IA(c:X.A.units<cLine)(f:FE X a fa)(e:FE X b fb)(d:Q_ .Eq b=D:=by lk):FT X (.Compare a [.Eq] [b] pos) (fB (I OQ fa fb)):=jz (PP c) PQ f e d
def Na(c:X.A.units+64<cLine)(f:FE X a fa)(e:FE X b fb)(d:Q_ .Gt b=D:=by lk):FT X (.Compare a [.Gt] [b] pos) (fB (I V' fa fb)):=jz (Qy c) Qz f e d
def Nb(e:FE X a fa)(d:FE X b fb)(c:Q_ .In b=D:=by lk):FT X (.Compare a [.In] [b] pos) (fB (I ŏ fa fb)):=jz RN RO e d c
def As(c:X.A.units+64<cLine)(f:FE X a fa)(e:FE X b fb)(d:Q_ .NotIn b=D:=by lk):FT X (.Compare a [.NotIn] [b] pos) (fB (I lA fa fb)):=jz (Cy c) Cz f e d
def Nc(c:X.A.units+64<cLine)(f:FE X a fa)(e:FE X b fb)(d:Q_ .Eq b=D:=by lk):FE X (.Compare a [.Eq] [b] pos) (I à fa fb):=ls (GJ c) GL f e d
def Nd(e:FE X a fa)(d:FE X b fb)(c:Q_ .Lt b=D:=by lk):FE X (.Compare a [.Lt] [b] pos) (I ltX fa fb):=ls Lp Lq e d c
def Nf(e:FE X a fa)(d:FE X b fb)(c:Q_ .LtE b=D:=by lk):FE X (.Compare a [.LtE] [b] pos) (I į fa fb):=ls Qe Qf e d c
def Ng(e:FE X a fa)(d:FE X b fb)(c:Q_ .Gt b=D:=by lk):FE X (.Compare a [.Gt] [b] pos) (I ť fa fb):=ls Kt (Le _) e d c
def Nh(e:FE X a fa)(d:FE X b fb)(c:Q_ .Is b=D:=by lk):FE X (.Compare a [.Is] [b] pos) (I ċ fa fb):=ls Ep Lf e d c
def IB(e:FE X a fa)(d:FE X b fb)(c:Q_ .IsNot b=D:=by lk):FE X (.Compare a [.IsNot] [b] pos) (I nI fa fb):=ls xX ED e d c
def Ni(e:FE X a fa)(d:FE X b fb)(c:Q_ .In b=D:=by lk):FE X (.Compare a [.In] [b] pos) (I ŏ fa fb):=ls RN RO e d c
def Au(e:FE X a fa)(d:FE X b fb)(c:Q_ .NotIn b=D:=by lk):FE X (.Compare a [.NotIn] [b] pos) (I qX fa fb):=ls Ņ yA e d c
def Nj(g:X.mg "isinstance"=U)(f:X.mg "int"=U)(i:FE X a fa)(h:X.env.kindOf (b_ "isinstance")=Z .globalImplicit:=by lk)(e:X.env.kindOf (b_ "int")=Z .globalImplicit:=by lk)(c:k_ [a,.Name (b_ "int") pt] X.env=(D,eval a X.env)::k_ [.Name (b_ "int") pt] X.env:=by lk)(b:k_ [.Name (b_ "int") pt] X.env=(D,eval (.Name (b_ "int") pt) X.env)::k_ [] X.env:=by lk)(d:(TF pos (k_ [.Name (b_ "int") pt] X.env)).any (·.1)=D:=by lk):FE X (.Call (.Name "isinstance" p) [a,.Name (b_ "int") pt] [] pos) (f1 (jX rn) fa):=u9 (T:="int") Hh LO (by decide+kernel) (by lk) h g e f i c b d
def Nk(g:X.mg "isinstance"=U)(f:X.mg "str"=U)(i:FE X a fa)(h:X.env.kindOf (b_ "isinstance")=Z .globalImplicit:=by lk)(e:X.env.kindOf (b_ "str")=Z .globalImplicit:=by lk)(c:k_ [a,.Name (b_ "str") pt] X.env=(D,eval a X.env)::k_ [.Name (b_ "str") pt] X.env:=by lk)(b:k_ [.Name (b_ "str") pt] X.env=(D,eval (.Name (b_ "str") pt) X.env)::k_ [] X.env:=by lk)(d:(TF pos (k_ [.Name (b_ "str") pt] X.env)).any (·.1)=D:=by lk):FE X (.Call (.Name "isinstance" p) [a,.Name (b_ "str") pt] [] pos) (f1 (jX qY) fa):=u9 (T:="str") GE Lm (by decide+kernel) (by lk) h g e f i c b d
def DC(g:X.mg "isinstance"=U)(f:X.mg "tuple"=U)(i:FE X a fa)(h:X.env.kindOf (b_ "isinstance")=Z .globalImplicit:=by lk)(e:X.env.kindOf (b_ "tuple")=Z .globalImplicit:=by lk)(c:k_ [a,.Name (b_ "tuple") pt] X.env=(D,eval a X.env)::k_ [.Name (b_ "tuple") pt] X.env:=by lk)(b:k_ [.Name (b_ "tuple") pt] X.env=(D,eval (.Name (b_ "tuple") pt) X.env)::k_ [] X.env:=by lk)(d:(TF pos (k_ [.Name (b_ "tuple") pt] X.env)).any (·.1)=D:=by lk):FE X (.Call (.Name "isinstance" p) [a,.Name (b_ "tuple") pt] [] pos) (f1 (jX tQ) fa):=u9 (T:="tuple") GF Ci (by decide+kernel) (by lk) h g e f i c b d
def IC(g:X.mg "isinstance"=U)(f:X.mg "bool"=U)(i:FE X a fa)(h:X.env.kindOf (b_ "isinstance")=Z .globalImplicit:=by lk)(e:X.env.kindOf (b_ "bool")=Z .globalImplicit:=by lk)(c:k_ [a,.Name (b_ "bool") pt] X.env=(D,eval a X.env)::k_ [.Name (b_ "bool") pt] X.env:=by lk)(b:k_ [.Name (b_ "bool") pt] X.env=(D,eval (.Name (b_ "bool") pt) X.env)::k_ [] X.env:=by lk)(d:(TF pos (k_ [.Name (b_ "bool") pt] X.env)).any (·.1)=D:=by lk):FE X (.Call (.Name "isinstance" p) [a,.Name (b_ "bool") pt] [] pos) (f1 (jX fH) fa):=u9 (T:="bool") Cf GI (by decide+kernel) (by lk) h g e f i c b d
def pN(a:FE X o fo)(b:FA X (e::es) ga)(h:Ů X o "startswith" e es apos cpos:=by exact⟨by lk,by lk,by lk,by lk,by lk⟩):FE X (.Call (.Attribute o "startswith" apos) (e::es) [] cpos) (fM (qH Ug) fo ga):=rV PySem.F.slot_str_startswith PySem.F.type_str_startswith PM EH a b h
def uo(a:FE X o fo)(b:FA X (e::es) ga)(h:Ů X o "endswith" e es apos cpos:=by exact⟨by lk,by lk,by lk,by lk,by lk⟩):FE X (.Call (.Attribute o "endswith" apos) (e::es) [] cpos) (fM (qH X7) fo ga):=rV PySem.F.slot_str_endswith PySem.F.type_str_endswith PN EH a b h
def DD(a:FE X o fo)(b:FA X (e::es) ga)(h:Ů X o "split" e es apos cpos:=by exact⟨by lk,by lk,by lk,by lk,by lk⟩):FE X (.Call (.Attribute o "split" apos) (e::es) [] cpos) (fM (iu) fo ga):=rV X1 PySem.F.type_str_split Cj GN a b h
def ID(a:FE X o fo)(b:FA X (e::es) ga)(h:Ů X o "join" e es apos cpos:=by exact⟨by lk,by lk,by lk,by lk,by lk⟩):FE X (.Call (.Attribute o "join" apos) (e::es) [] cpos) (fM (Ck) fo ga):=rV PySem.F.slot_str_join PySem.F.type_str_join GO Ls a b h
def r9(a:FE X o fo)(b:FA X (e::es) ga)(h:Ů X o "partition" e es apos cpos:=by exact⟨by lk,by lk,by lk,by lk,by lk⟩):FE X (.Call (.Attribute o "partition" apos) (e::es) [] cpos) (fM (pD) fo ga):=rV ZI PySem.F.type_str_partition GP Lv a b h
def DE(a:FE X o fo)(b:FA X (e::es) ga)(h:Ů X o "strip" e es apos cpos:=by exact⟨by lk,by lk,by lk,by lk,by lk⟩):FE X (.Call (.Attribute o "strip" apos) (e::es) [] cpos) (fM (mF) fo ga):=rV PySem.F.slot_str_strip PySem.F.type_str_strip Ct GV a b h
def DF(a:FE X o fo)(b:FA X (e::es) ga)(h:Ů X o "rfind" e es apos cpos:=by exact⟨by lk,by lk,by lk,by lk,by lk⟩):FE X (.Call (.Attribute o "rfind" apos) (e::es) [] cpos) (fM (OP acL) fo ga):=rV PySem.F.slot_str_rfind PySem.F.type_str_rfind Cg Ll a b h
def Nl(a:FE X o fo)(b:FA X (e::es) ga)(h:Ů X o "index" e es apos cpos:=by exact⟨by lk,by lk,by lk,by lk,by lk⟩):FE X (.Call (.Attribute o "index" apos) (e::es) [] cpos) (fM LI fo ga):=rV PySem.F.slot_str_index PySem.F.type_str_index LJ P6 a b h
def dN{x:Str}(h:FE X (.Name x p) fa):FE X (.Name x p) fa:=h
def dC{k:Const}{n:Nat}(h:FE X (.Constant k n p) fa):FE X (.Constant k n p) fa:=h
def dA(h:FA X es ga):FA X es ga:=h
def dK{x:Str}{a:List V0}(h:FE X (.Call (.Name x p) es a pos) fa):FE X (.Call (.Name x p) es a pos) fa:=h
def dM{x:Str}{a:List V0}(h:FE X (.Call (.Attribute o x p) es a pos) fa):FE X (.Call (.Attribute o x p) es a pos) fa:=h
def dB{c:Operator}(h:FE X (.BinOp a c b pos) fa):FE X (.BinOp a c b pos) fa:=h
def dQ{b:List ź}(h:FE X (.Compare a b es pos) fa):FE X (.Compare a b es pos) fa:=h
def dT{fb:å}(h:FT X a fb):FT X a fb:=h
def dW{fb:å}(h:FW X a fb):FW X a fb:=h
def dE(h:FE X a fa):FE X a fa:=h
def dSs{a:List UH}{f:Õ}(h:Ģ X a f):Ģ X a f:=h
def dS{a:UH}{f:Õ}(h:FS X a f):FS X a f:=h
end
set_option hygiene false
local macro_rules|`(tactic|walk_at$y:str)=>do
 let A:=fun(c:Char)=>match c.toNat with|63=>`(?_)|108=>`(by lk)|114=>`(by room)|107=>`(by kernel_rfl!)|97=>`(by assumption)|100=>`(#v[])|_=>`(_)
 let B:=fun(f:Char->Lean.MacroM Lean.Term)(u:List String)=>do
  let a<-(u.getD 1 "").toList.toArray.mapM f
  pure (Lean.Syntax.mkApp (Lean.mkIdent (u.getD 0 "").toName) a)
 let C:=fun(c:Char)=>do
  match ("g ī l|m Ex ??|v KR ??|j kZ llll".splitOn "|").find? (fun s=>s.front==c) with
  |none=>A c
  |some s=>
   let u:=s.splitOn " "
   let e<-B A u.tail
   if (u.getD 0 "").length==2 then `(by with_unfolding_all exact $e) else pure e
 let l:=y.getString.splitOn "|"
 if l.length==1 then
  let a<-("dN|Ps _lk|Pu _lk|Qr rk|Qs rk;dC|KM|KO|Pv|KN;dA|Ey|yr ??;dK|C7 rrk?|ze ?lg?g??|wT lg?g??|zS rrrk?|C1 ?g??|Lh g??|Co g??|CO g??|Hs g??|Li lg??|L5 lg??|LQ lg??|LR lg??|Nj ???|Nk ???|DC ???|IC ???;dM|pN ??|uo ??|DD ??|ID ??|r9 ??|DE ??|DF ??|Nl ??|Cq ??|DB rrk?;dB|MY ??|MZ ??|M1 ??|M3 ??|M4 ??|Iy ??;dQ|Nc ???|Nd ??|Nf ??|Ng ??|Nh ??|IB ??|Ni ??|Au ??;dT|M5 ???|M6 ???|M7 ??|M8 ??|M9 ??|Iz ??|IA ???|Na ???|Nb ??|As ???|FW.ft m|FW.ft v|KS ?|KP ?;dW|Ex ??|KR ??|Gq ?|KQ ?;dE|Mp ??|K1 ?|K0 ?|KU ?|KW ??|Pw ??|KY ?|Ld ?|Px ???|Lg ???|GW ???|Qt ???|Qw ???|Ia r?;dSs|Gr|Ac ???|Gs ?|Da ??|B5 ??;dS|K2 ?|Pz ???|B6|Gu ?|Qv ???k|HE ?|LA l??|HG ???|Db ???;|GB|GC ?|C8|C9 ?|~a|yu g??|yw g??|K7 ?|Cs g??|Hq g??|FI.toG ?|HV ???|HS ?|HW ???|HX ???|Ad rrk??|Ae rrrk|HY ??|QG ?|Dc ?|Ly|Hb|Hc ?|CA ??|LL ?|Qc l???|HI ?j|CN lj??|HF ?|HH ???;+|~b|MA.no al|Ú.units a|Ú.units0 a|PassesOwn.never|PassesOwn.leaving;|Ij|Ik ?|Du ??|Iq ?|Il ?|MO ?|QK ???|Dw ???|S6 g??|Ir r??|MP ?|Ib ?|Io j|Ip r?|MJ|Ie ??|MM ??|MK ?|MS ???|MT ???|MU ???|Ic ?|Dy rrk??|Dz rr?|MW ?|MX ??".splitOn ";").toArray.mapM fun t=>do
   let w:=Lean.Syntax.mkStrLit t
   let w<-`(tactic|walk_at$w:str)
   match (t.splitOn "|").getD 0 "" with
   |"+"=>pure w|""=>`(tactic|with_reducible $w:tactic)
   |d=>
    let d:=Lean.mkIdent d.toName
    `(tactic|with_reducible((fail_if_success(fail_if_success refine $d ?_));$w:tactic))
  `(tactic|(first $[|$a:tactic]*)<;>walk_at"x")
 else
  let a<-l.tail.toArray.mapM fun s=>match s with
   |"~a"=>`(tactic|intro _ _ _ _)|"~b"=>`(tactic|assumption)
   |_=>do
   let e<-B C (s.splitOn " ")
   `(tactic|refine $e)
  `(tactic|first $[|$a:tactic]*)
set_option hygiene true
local macro_rules|`(tactic|fin2)=>`(tactic|(intros;(conv=>arg 2;whnf);walk_at"x"))
def CC:Fc:=[cN "all",cN "any",cN "bool",cN "enumerate",cN "int",cN "isinstance",cN "len",cN "max",cN "min",cN "range",cN "set",cN "sorted",cN "str",cN "tuple",cN "zip",cI "ASK_HOUSE" 1,cI "ASK_ORIGIN" 3,cI "ASK_PARTS" 4,cI "ASK_PATH" 2,cI "ASK_SAFE" 0,cS "FIGURES" "0123456789",cI "GIVEN_HOUSE" 2,cI "GIVEN_LASTS" 5,cI "GIVEN_NAME" 0,cI "GIVEN_PARTS" 8,cI "GIVEN_PATH" 3,cI "GIVEN_REACH" 7,cI "GIVEN_SAFE" 6,cI "GIVEN_UNTIL" 4,cI "GIVEN_WORTH" 1,cS "LABEL_SIGNS" "abcdefghijklmnopqrstuvwxyz0123456789-",cI "LARGEST_ROOM" 20,cI "LAST_MOMENT" 9999,cI "LONGEST_LABEL" 8,cI "LONGEST_NOTE_NAME" 10,cI "LONGEST_PATH" 20,cI "LONGEST_WORTH" 12,cI "MOST_FIGURES" 4,cI "MOST_LABELS" 5,cI "MOST_NOTES" 20,cI "MOST_RULES" 8,cI "NOTE_ENDS" 5,cI "NOTE_EXACT" 3,cI "NOTE_HOUSE" 2,cI "NOTE_MADE" 8,cI "NOTE_NAME" 0,cS "NOTE_NAME_SIGNS" "abcdefghijklmnopqrstuvwxyzABCDEFGHIJKLMNOPQRSTUVWXYZ0123456789-_",cI "NOTE_PARTS" 10,cI "NOTE_PATH" 4,cI "NOTE_REACH" 7,cI "NOTE_SAFE" 6,cI "NOTE_USED" 9,cI "NOTE_WORTH" 1,cS "NO_WORTH_SIGNS" ";,=",cS "PATH_SIGNS" "abcdefghijklmnopqrstuvwxyz0123456789-_./"]
section
variable{P:n_}{w:y_}{K:d_}{mg:Str->Option R}{base h:O_}{f:O}(XI:K.In h)(Gn:h.Ns R_ mg)(M:MA mg CC){Ca:O}(cka:CK K 0 Ca){Cb:O}(ckb:CK K 1 Cb)
include XI Gn M cka ckb
def T0:bV:=[]
def QN:HZ:=[]
def QO:HZ:=[]
def QP:um:=[]
def QQ:um:=[]
def iQ:Õ:=(aJ (bg (cx (fB (f1 (jX qY) (Y 0)))) (aI (fC (.bl D))) é) (aJ (bg (Ċ (fB (I ltX (Ý fA (ao (Y 0))) (Y 2))) (fB (I ť (Ý fA (ao (Y 0))) (Y 3)))) (aI (fC (.bl D))) é) (aI (Ý pB (ao (cf [("signs",1)] (dO (Y 0)) U (I ŏ (Y 0) (Y 1))))))))
def dg:Ó:=aS 4 iQ
def T1:bV:=("is_text_of",1,["thing","signs","least","most"],dg)::T0
theorem pO(A:Af K "is_text_of" (Î 11) f)(t:HA P w K mg base T0):HA P w K mg base T1:=ai (al XI Gn ["thing","signs","least","most"] ["thing","signs","least","most"] iQ A aF (by delta iQ;fin2)) t
def k6:Õ:=(aJ (bg (cx (fB (ae dg 4 (qU (Y 0) (Ï "abcdefghijklmnopqrstuvwxyz0123456789-") (X 1) (X 8))))) (aI (fC (.bl D))) é) (aI (kG (ON (fM (qH Ug) (Y 0) (ao (Ï "-")))) (ON (fM (qH X7) (Y 0) (ao (Ï "-")))))))
def oR:Ó:=aS 1 k6
def T2:bV:=("is_label",2,["thing"],oR)::T1
theorem uq(A:Af K "is_label" (Î 20) f)(t:HA P w K mg base T1):HA P w K mg base T2:=ai (al XI Gn ["thing"] ["thing"] k6 A aF (by delta k6;fin2)) t
def mT:Õ:=(aJ (bg (cx (fB (f1 (jX qY) (Y 0)))) (aI (fC (.bl D))) é) (aJ (ce 1 (fM (iu) (Y 0) (ao (Ï ".")))) (aJ (bg (Ċ (fB (I ť (Ý fA (ao (Y 1))) (X 5))) (cx (fB (Ý pB (ao (cf [] (dO (Y 1)) U (ae oR 1 (ao (Y 0))))))))) (aI (fC (.bl D))) é) (aI (ON (ae dg 4 (qU (I Ì (Y 1) (f1 Lc (X 1))) (Ï "0123456789") (X 1) (X 8))))))))
def bw:Ó:=aS 2 mT
def T3:bV:=("is_name",3,["thing"],bw)::T2
theorem w8(A:Af K "is_name" (Î 21) f)(t:HA P w K mg base T2):HA P w K mg base T3:=ai (al XI Gn ["thing","parts"] ["thing"] mT A aF (by delta mT;fin2)) t
def mU:Õ:=(aJ (bg (cx (fB (f1 (jX qY) (Y 0)))) (aI (fC (.bl D))) é) (aJ (bg (fB (fM (qH Ug) (Y 0) (ao (Ï "*.")))) (aI (ae bw 1 (ao (xB (Y 0) (dr (X 2)) gp)))) é) (aJ (bg (fB (fM (qH Ug) (Y 0) (ao (Ï "!")))) (aI (kG (I ŏ (Ï ".") (Y 0)) (ae bw 1 (ao (xB (Y 0) (dr (X 1)) gp))))) é) (aI (ae bw 1 (ao (Y 0)))))))
def se:Ó:=aS 1 mU
def T4:bV:=("is_rule",4,["thing"],se)::T3
theorem w9(A:Af K "is_rule" (Î 22) f)(t:HA P w K mg base T3):HA P w K mg base T4:=ai (al XI Gn ["thing"] ["thing"] mU A aF (by delta mU;fin2)) t
def k7:Õ:=(aJ (bg (Ċ (cx (fB (f1 (jX tQ) (Y 0)))) (fB (I ť (Ý fA (ao (Y 0))) (X 8)))) (aI (fC (.bl D))) é) (aJ (bg (cx (fB (Ý pB (ao (cf [] (dO (Y 0)) U (ae se 1 (ao (Y 0)))))))) (aI (fC (.bl D))) é) (aI (Ý pB (ao (cf [("thing",0)] (λa=>Ö ((bJ (X 1) (Ý fA (ao (Y 0)))) a) BH) U (I ltX (I Ì (Y 1) (I wO (Y 0) (X 1))) (I Ì (Y 1) (Y 0)))))))))
def bL:Ó:=aS 1 k7
def T5:bV:=("is_table",5,["thing"],bL)::T4
theorem ur(A:Af K "is_table" (Î 23) f)(t:HA P w K mg base T4):HA P w K mg base T5:=ai (al XI Gn ["thing"] ["thing"] k7 A aF (by delta k7;fin2)) t
def eJ:Õ:=(bg (cx (fB (ae bL 1 (ao (Y 0))))) fG é)
def aT:Ó:=aS 1 eJ
def T6:bV:=("need_table",6,["thing"],aT)::T5
theorem pP(A:Af K "need_table" (Î 25) f)(t:HA P w K mg base T5):HA P w K mg base T6:=ai (al XI Gn ["thing"] ["thing"] eJ A aF (by delta eJ;fin2)) t
def cm:cz:=(c8 (jw (ay (ae aT 1 (ao (Y 1))))) (c8 (nJ 1 0 (fg 0) (ay (Y 1))) (c8 (nJ 1 1 (fg 0) (ay (iC eZ))) (c8 (nJ 1 2 (fg 0) (Dt iA)) (nJ 1 3 (fg 0) (Dt iA))))))
def cp:Đ:=nK 2 cm
theorem k8(A:∃b,ı K "__init__" "Desk.__init__" (bf (Î 128) 0) f b)(a:Mk K Cb f)(t:HA P w K mg base T6):Iw P w K mg base 1 Cb 7 1 cp:=Ao XI Gn ckb a ["self","table"] ["self","table"] cm A aF (by delta cm;fin2)
def cB:cz:=(c8 (jw (ML (JW 1 2 (fg 0)) (bF (ay (iC (bJ (Y 1) (f1 (jY 1 1) (Y 0))))) iA))) (c8 (nJ 1 3 (fg 0) (Dt iA)) (nJ 1 1 (fg 0) (ay (Y 2)))))
def bY:Đ:=nK 3 cB
def QR:um:=("do_step",1,2,bY)::QQ
theorem lH(A:Am K Cb "Desk.do_step" "do_step" (bf (Î 128) 2) f)(a:Ė P w K mg base 1 Cb QQ):Ė P w K mg base 1 Cb QR:=ez (eC ckb ["self","word","notes"] ["self","word","notes"] cB A aF (by delta cB;fin2)) a
def bx:cz:=(c8 (lX 3 (ay (I wO (Ý fA (ao (f1 (jY 1 1) (Y 0)))) (Ý fA (ao (Y 2)))))) (c8 (jw (fu 1 bY 2 (fg 0) (bF (ay (Y 1)) (bF (ay (Y 2)) iA)))) (nO (ay (Y 3)))))
def bW:Đ:=nK 4 bx
def QS:um:=("do_and_count",2,2,bW)::QR
theorem iR(A:Am K Cb "Desk.do_and_count" "do_and_count" (bf (Î 128) 6) f)(a:Ė P w K mg base 1 Cb QR):Ė P w K mg base 1 Cb QS:=ez (eC ckb ["self","word","left","gone"] ["self","word","left"] bx A aF (by delta bx;fin2)) a
def hX:Õ:=(aI (Ĩ (I à (Y 0) (Y 1)) (fM (qH X7) (Y 0) (ao (I cY (Ï ".") (Y 1))))))
def aD:Ó:=aS 2 hX
def T7:bV:=("lies_within",1,["one","other"],aD)::T6
theorem nQ(A:Af K "lies_within" (Î 26) f)(t:HA P w K mg base T6):HA P w K mg base T7:=ai (al XI Gn ["one","other"] ["one","other"] hX A aF (by delta hX;fin2)) t
def DG:Õ:=(aI (iC (dU (I Ì (Y 0) (X 0)) (I Ì (Y 0) (X 2)) (I Ì (Y 0) (X 4)))))
def cy:Ó:=aS 1 DG
def T8:bV:=("key",1,["note"],cy)::T7
theorem Nm(A:Af K "key" (Î 96) f)(t:HA P w K mg base T7):HA P w K mg base T8:=ai (al XI Gn ["note"] ["note"] DG A aF (by delta DG;fin2)) t
def bN:Õ:=(aJ (ce 1 (cu 1 [] (dO (Y 0)) (gN 0) U (ae cy 1 (ao (Y 0))))) (aI (I à (Ý mG (ao (Y 1))) (Ý fA (ao (Y 1))))))
def cw:Ó:=aS 2 bN
def T9:bV:=("has_no_key_twice",2,["notes"],cw)::T8
theorem jM(A:Af K "has_no_key_twice" (Î 104) f)(t:HA P w K mg base T8):HA P w K mg base T9:=ai (al XI Gn ["notes","keys"] ["notes"] bN A aF (by delta bN;fin2)) t
def iS:Õ:=(aI (Ý pB (ao (cf [("notes",0)] (λa=>Ö ((bJ (X 1) (Ý fA (ao (Y 0)))) a) BH) U (I į (I Ì (I Ì (Y 1) (I wO (Y 0) (X 1))) (X 8)) (I Ì (I Ì (Y 1) (Y 0)) (X 8)))))))
def gk:Ó:=aS 1 iS
def T10:bV:=("is_by_made",1,["notes"],gk)::T9
theorem pQ(A:Af K "is_by_made" (Î 103) f)(t:HA P w K mg base T9):HA P w K mg base T10:=ai (al XI Gn ["notes"] ["notes"] iS A aF (by delta iS;fin2)) t
def aY:Õ:=(aJ (bg (Ċ (cx (fB (f1 (jX rn) (Y 0)))) (fB (f1 (jX fH) (Y 0)))) (aI (fC (.bl D))) é) (aI (kG (I į (Y 1) (Y 0)) (I į (Y 0) (Y 2)))))
def aL:Ó:=aS 3 aY
def T11:bV:=("is_whole_number",1,["thing","least","most"],aL)::T10
theorem kj(A:Af K "is_whole_number" (Î 12) f)(t:HA P w K mg base T10):HA P w K mg base T11:=ai (al XI Gn ["thing","least","most"] ["thing","least","most"] aY A aF (by delta aY;fin2)) t
def dX:Õ:=(aI (ae aL 3 (dU (Y 0) (X 0) (X 9999))))
def ba:Ó:=aS 1 dX
def T12:bV:=("is_moment",2,["thing"],ba)::T11
theorem sf(A:Af K "is_moment" (Î 46) f)(t:HA P w K mg base T11):HA P w K mg base T12:=ai (al XI Gn ["thing"] ["thing"] dX A aF (by delta dX;fin2)) t
def bh:Õ:=(aI (Ĩ (I ċ (Y 0) (fC .non)) (ae ba 1 (ao (Y 0)))))
def az:Ó:=aS 1 bh
def T13:bV:=("is_moment_or_none",3,["thing"],az)::T12
theorem jx(A:Af K "is_moment_or_none" (Î 47) f)(t:HA P w K mg base T12):HA P w K mg base T13:=ai (al XI Gn ["thing"] ["thing"] bh A aF (by delta bh;fin2)) t
def gq:Õ:=(aI (ae dg 4 (qU (Y 0) (Ï "abcdefghijklmnopqrstuvwxyzABCDEFGHIJKLMNOPQRSTUVWXYZ0123456789-_") (X 1) (X 10))))
def aM:Ó:=aS 1 gq
def T14:bV:=("is_note_name",2,["thing"],aM)::T13
theorem mV(A:Af K "is_note_name" (Î 67) f)(t:HA P w K mg base T13):HA P w K mg base T14:=ai (al XI Gn ["thing"] ["thing"] gq A aF (by delta gq;fin2)) t
def mW:Õ:=(aI (kG (ae dg 4 (qU (Y 0) (Ï "abcdefghijklmnopqrstuvwxyz0123456789-_./") (X 1) (X 20))) (fM (qH Ug) (Y 0) (ao (Ï "/")))))
def cC:Ó:=aS 1 mW
def T15:bV:=("is_path",2,["thing"],cC)::T14
theorem xa(A:Af K "is_path" (Î 35) f)(t:HA P w K mg base T14):HA P w K mg base T15:=ai (al XI Gn ["thing"] ["thing"] mW A aF (by delta mW;fin2)) t
def k9:Õ:=(aI (Ĩ (I à (Y 0) (Ï "any")) (I à (Y 0) (Ï "near"))))
def dZ:Ó:=aS 1 k9
def T16:bV:=("is_reach",1,["thing"],dZ)::T15
theorem ut(A:Af K "is_reach" (Î 69) f)(t:HA P w K mg base T15):HA P w K mg base T16:=ai (al XI Gn ["thing"] ["thing"] k9 A aF (by delta k9;fin2)) t
def hZ:Õ:=(aI (kG (f1 (jX tQ) (Y 0)) (I à (Ý fA (ao (Y 0))) (Y 1))))
def bO:Ó:=aS 2 hZ
def T17:bV:=("is_tuple_of",1,["thing","parts"],bO)::T16
theorem nR(A:Af K "is_tuple_of" (Î 13) f)(t:HA P w K mg base T16):HA P w K mg base T17:=ai (al XI Gn ["thing","parts"] ["thing","parts"] hZ A aF (by delta hZ;fin2)) t
def lc:Õ:=(aJ (bg (Ċ (cx (fB (f1 (jX qY) (Y 0)))) (fB (I ť (Ý fA (ao (Y 0))) (X 12)))) (aI (fC (.bl D))) é) (aI (Ý pB (ao (cf [] (dO (Y 0)) U (kG (I į (Ï "!") (Y 0)) (kG (I į (Y 0) (Ï "~")) (I qX (Y 0) (Ï ";,=")))))))))
def bG:Ó:=aS 1 lc
def T18:bV:=("is_worth",1,["thing"],bG)::T17
theorem uu(A:Af K "is_worth" (Î 68) f)(t:HA P w K mg base T17):HA P w K mg base T18:=ai (al XI Gn ["thing"] ["thing"] lc A aF (by delta lc;fin2)) t
def kl:Õ:=(aJ (bg (cx (fB (ae bO 2 (bJ (Y 0) (X 10))))) (aI (fC (.bl D))) é) (aJ (bg (Ċ (cx (fB (ae ba 1 (ao (I Ì (Y 0) (X 8)))))) (cx (fB (ae ba 1 (ao (I Ì (Y 0) (X 9))))))) (aI (fC (.bl D))) é) (aI (Ý pB (ao (ju (aR (ae aM 1 (ao (I Ì (Y 0) (X 0)))) (aR (ae bG 1 (ao (I Ì (Y 0) (X 1)))) (aR (ae bw 1 (ao (I Ì (Y 0) (X 2)))) (wL (f1 (jX fH) (I Ì (Y 0) (X 3))) (ae cC 1 (ao (I Ì (Y 0) (X 4)))) (ae az 1 (ao (I Ì (Y 0) (X 5)))) (f1 (jX fH) (I Ì (Y 0) (X 6))) (ae dZ 1 (ao (I Ì (Y 0) (X 7)))) (I į (I Ì (Y 0) (X 8)) (I Ì (Y 0) (X 9)))))))))))))
def fL:Ó:=aS 1 kl
def T19:bV:=("is_note",4,["thing"],fL)::T18
theorem xb(A:Af K "is_note" (Î 91) f)(t:HA P w K mg base T18):HA P w K mg base T19:=ai (al XI Gn ["thing"] ["thing"] kl A aF (by delta kl;fin2)) t
def kn:Õ:=(aJ (bg (Ċ (cx (fB (f1 (jX tQ) (Y 0)))) (fB (I ť (Ý fA (ao (Y 0))) (X 20)))) (aI (fC (.bl D))) é) (aJ (bg (cx (fB (Ý pB (ao (cf [] (dO (Y 0)) U (ae fL 1 (ao (Y 0)))))))) (aI (fC (.bl D))) é) (aI (kG (ae gk 1 (ao (Y 0))) (ae cw 1 (ao (Y 0)))))))
def ib:Ó:=aS 1 kn
def T20:bV:=("is_jar",5,["thing"],ib)::T19
theorem Av(A:Af K "is_jar" (Î 102) f)(t:HA P w K mg base T19):HA P w K mg base T20:=ai (al XI Gn ["thing"] ["thing"] kn A aF (by delta kn;fin2)) t
def jm:Õ:=(bg (cx (fB (ae ib 1 (ao (Y 0))))) fG é)
def bH:Ó:=aS 1 jm
def T21:bV:=("need_jar",6,["thing"],bH)::T20
theorem uv(A:Af K "need_jar" (Î 105) f)(t:HA P w K mg base T20):HA P w K mg base T21:=ai (al XI Gn ["thing"] ["thing"] jm A aF (by delta jm;fin2)) t
def ic:Õ:=(bg (cx (fB (ae bw 1 (ao (Y 0))))) fG é)
def fN:Ó:=aS 1 ic
def T22:bV:=("need_name",4,["thing"],fN)::T21
theorem sh(A:Af K "need_name" (Î 24) f)(t:HA P w K mg base T21):HA P w K mg base T22:=ai (al XI Gn ["thing"] ["thing"] ic A aF (by delta ic;fin2)) t
def fP:Õ:=(aJ (ff (ae bH 1 (ao (Y 0)))) (aJ (ff (ae fN 1 (ao (Y 1)))) (aI (Ý iw (ao (cf [("house",1)] (dO (Y 0)) (Z (cx (fB (ae aD 2 (bJ (I Ì (Y 0) (X 2)) (Y 1)))))) (Y 0)))))))
def cD:Ó:=aS 2 fP
def T23:bV:=("forgotten",7,["jar","house"],cD)::T22
theorem si(A:Af K "forgotten" (Î 109) f)(t:HA P w K mg base T22):HA P w K mg base T23:=ai (al XI Gn ["jar","house"] ["jar","house"] fP A aF (by delta fP;fin2)) t
def cV:cz:=(nO (fu 1 bW 2 (fg 0) (bF (ay (Ï "forget")) (bF (ay (ae cD 2 (bJ (f1 (jY 1 1) (Y 0)) (Y 1)))) iA))))
def gu:Đ:=nK 2 cV
def QT:um:=("forget",8,1,gu)::QS
theorem mX(A:Am K Cb "Desk.forget" "forget" (bf (Î 128) 5) f)(t:HA P w K mg base T23)(a:Ė P w K mg base 1 Cb QS):Ė P w K mg base 1 Cb QT:=ez (eC ckb ["self","house"] ["self","house"] cV A aF (by delta cV;fin2)) a
def aP:Õ:=(bg (fB (I ť (Ý fA (ao (Y 0))) (X 20))) fG é)
def aA:Ó:=aS 1 aP
def T24:bV:=("need_no_more_than_a_jar_has",1,["notes"],aA)::T23
theorem eP(A:Af K "need_no_more_than_a_jar_has" (Î 106) f)(t:HA P w K mg base T23):HA P w K mg base T24:=ai (al XI Gn ["notes"] ["notes"] aP A aF (by delta aP;fin2)) t
def ko:Õ:=(aJ (bg (cx (fB (ae bO 2 (bJ (Y 0) (X 4))))) (aI (fC (.bl D))) é) (aI (Ý pB (ao (ju (qU (f1 (jX fH) (I Ì (Y 0) (X 0))) (ae bw 1 (ao (I Ì (Y 0) (X 1)))) (ae cC 1 (ao (I Ì (Y 0) (X 2)))) (Ĩ (I ċ (I Ì (Y 0) (X 3)) (fC .non)) (ae bw 1 (ao (I Ì (Y 0) (X 3)))))))))))
def ie:Ó:=aS 1 ko
def T25:bV:=("is_ask",4,["thing"],ie)::T24
theorem Aw(A:Af K "is_ask" (Î 49) f)(t:HA P w K mg base T24):HA P w K mg base T25:=ai (al XI Gn ["thing"] ["thing"] ko A aF (by delta ko;fin2)) t
def jn:Õ:=(bg (cx (fB (ae ie 1 (ao (Y 0))))) fG é)
def dh:Ó:=aS 1 jn
def T26:bV:=("need_ask",5,["thing"],dh)::T25
theorem uw(A:Af K "need_ask" (Î 50) f)(t:HA P w K mg base T25):HA P w K mg base T26:=ai (al XI Gn ["thing"] ["thing"] jn A aF (by delta jn;fin2)) t
def fw:Õ:=(bg (cx (fB (ae ba 1 (ao (Y 0))))) fG é)
def bP:Ó:=aS 1 fw
def T27:bV:=("need_moment",3,["thing"],bP)::T26
theorem nS(A:Af K "need_moment" (Î 48) f)(t:HA P w K mg base T26):HA P w K mg base T27:=ai (al XI Gn ["thing"] ["thing"] fw A aF (by delta fw;fin2)) t
def c9:Õ:=(aI (ae dg 4 (qU (Y 0) (Ï "0123456789") (X 1) (X 4))))
def da:Ó:=aS 1 c9
def T28:bV:=("is_written_moment",2,["text"],da)::T27
theorem jy(A:Af K "is_written_moment" (Î 72) f)(t:HA P w K mg base T27):HA P w K mg base T28:=ai (al XI Gn ["text"] ["text"] c9 A aF (by delta c9;fin2)) t
def gz:Õ:=(aJ (bg (fB (I à (Y 0) (Ï "safe"))) (aI (iC (bJ (X 6) (fC (.bl L))))) é) (aJ (bg (fB (ae dZ 1 (ao (Y 0)))) (aI (iC (bJ (X 7) (Y 0)))) é) (aJ (ce 1 (fM (pD) (Y 0) (ao (Ï " ")))) (aJ (ce 2 (I Ì (Y 1) (X 0))) (aJ (ce 3 (I Ì (Y 1) (X 2))) (aJ (bg (mB (fB (I à (Y 2) (Ï "for"))) (fB (ae bw 1 (ao (Y 3))))) (aI (iC (bJ (X 2) (Y 3)))) é) (aJ (bg (mB (fB (I à (Y 2) (Ï "under"))) (fB (ae cC 1 (ao (Y 3))))) (aI (iC (bJ (X 3) (Y 3)))) é) (aJ (bg (mB (fB (I à (Y 2) (Ï "until"))) (fB (ae da 1 (ao (Y 3))))) (aI (iC (bJ (X 4) (Ý OX (ao (Y 3)))))) é) (aJ (bg (mB (fB (I à (Y 2) (Ï "lasts"))) (fB (ae da 1 (ao (Y 3))))) (aI (iC (bJ (X 5) (Ý OX (ao (Y 3)))))) é) (aI (fC .non)))))))))))
def bE:Ó:=aS 4 gz
def T29:bV:=("what_is_told",4,["part"],bE)::T28
theorem mY(A:Af K "what_is_told" (Î 73) f)(t:HA P w K mg base T28):HA P w K mg base T29:=ai (al XI Gn ["part","pieces","word","rest"] ["part"] gz A aF (by delta gz;fin2)) t
def bi:lP:=(pF (qI 5 (ae bE 1 (ao (Y 4)))) (oIf (fB (I nI (Y 5) (fC .non))) (vm (I Ì (Y 5) (X 0)) (I Ì (Y 5) (X 1))) Qb))
def eQ:Õ:=(aJ (bg (cx (fB (f1 (jX qY) (Y 0)))) fG é) (aJ (ce 1 (cu 1 [] (dO (fM (iu) (Y 0) (ao (Ï ";")))) (gN 0) U (fM (mF) (Y 0) (ao (Ï " "))))) (aJ (ce 2 (fM (pD) (I Ì (Y 1) (X 0)) (ao (Ï "=")))) (aJ (bg (Ċ (fB (I à (I Ì (Y 2) (X 1)) (Ï ""))) (Ċ (cx (fB (ae aM 1 (ao (I Ì (Y 2) (X 0)))))) (cx (fB (ae bG 1 (ao (I Ì (Y 2) (X 2)))))))) fG é) (EN 3 (aR (I Ì (Y 2) (X 0)) (aR (I Ì (Y 2) (X 2)) (wL (fC .non) (fC .non) (fC .non) (fC .non) (fC (.bl D)) (Ï "any")))) (pF (He 4 [4,5] (dO (xB (Y 1) (dr (X 1)) gp)) bi) (Ha 3 (Ý iw (ao (Y 3))))))))))
def aN:Ó:=aS 6 eQ
def T30:bV:=("read_given",5,["text"],aN)::T29
theorem pR(A:Af K "read_given" (Î 74) f)(t:HA P w K mg base T29):HA P w K mg base T30:=ai (al XI Gn ["text","parts","first","given","part","told"] ["text"] eQ A aF (by delta eQ bi;fin2)) t
def bz:Õ:=(aJ (ff (ae aT 1 (ao (Y 0)))) (aJ (ff (ae bH 1 (ao (Y 1)))) (aJ (ff (ae dh 1 (ao (Y 2)))) (aJ (ce 5 (ae aN 1 (ao (Y 3)))) (aJ (ff (ae bP 1 (ao (Y 4)))) (aI (Y 5)))))))
def aG:Ó:=aS 6 bz
def T31:bV:=("read_what_is_given",7,["table","jar","ask","text","now"],aG)::T30
theorem iT(A:Af K "read_what_is_given" (Î 111) f)(t:HA P w K mg base T30):HA P w K mg base T31:=ai (al XI Gn ["table","jar","ask","text","now","given"] ["table","jar","ask","text","now"] bz A aF (by delta bz;fin2)) t
def iU:Õ:=(aJ (bg (fB (I ċ (I Ì (Y 0) (X 5)) (fC .non))) (aI (I Ì (Y 0) (X 4))) é) (aI (Ý OW (bJ (I cY (Y 1) (I Ì (Y 0) (X 5))) (X 9999)))))
def iV:Ó:=aS 2 iU
def T32:bV:=("end_for",1,["given","now"],iV)::T31
theorem xc(A:Af K "end_for" (Î 94) f)(t:HA P w K mg base T31):HA P w K mg base T32:=ai (al XI Gn ["given","now"] ["given","now"] iU A aF (by delta iU;fin2)) t
def fQ:Õ:=(aJ (bg (fB (I ċ (I Ì (Y 1) (X 2)) (fC .non))) (aI (I Ì (Y 0) (X 1))) é) (aI (I Ì (Y 1) (X 2))))
def fR:Ó:=aS 2 fQ
def T33:bV:=("house_for",1,["ask","given"],fR)::T32
theorem sj(A:Af K "house_for" (Î 92) f)(t:HA P w K mg base T32):HA P w K mg base T33:=ai (al XI Gn ["ask","given"] ["ask","given"] fQ A aF (by delta fQ;fin2)) t
def dz:Õ:=(aI (I Ì (fM (pD) (Y 0) (ao (Ï "."))) (X 2)))
def dD:Ó:=aS 1 dz
def T34:bV:=("behind_first_dot",1,["end"],dD)::T33
theorem jN(A:Af K "behind_first_dot" (Î 28) f)(t:HA P w K mg base T33):HA P w K mg base T34:=ai (al XI Gn ["end"] ["end"] dz A aF (by delta dz;fin2)) t
def cR:Õ:=(aJ (ce 1 (fM (iu) (Y 0) (ao (Ï ".")))) (aI (cf [("parts",1)] (λa=>Ö ((ao (Ý fA (ao (Y 1)))) a) PB) U (fM (Ck) (Ï ".") (ao (xB (Y 1) (dr (Y 0)) gp))))))
def cT:Ó:=aS 2 cR
def T35:bV:=("ends_longest_first",1,["name"],cT)::T34
theorem iW(A:Af K "ends_longest_first" (Î 27) f)(t:HA P w K mg base T34):HA P w K mg base T35:=ai (al XI Gn ["name","parts"] ["name"] cR A aF (by delta cR;fin2)) t
def gA:Õ:=(aJ (bg (fB (I ŏ (Y 1) (Y 0))) (aI (fC (.bl L))) é) (aI (kG (I ŏ (Ï ".") (Y 1)) (I ŏ (I cY (Ï "*.") (ae dD 1 (ao (Y 1)))) (Y 0)))))
def jG:Ó:=aS 2 gA
def T36:bV:=("is_told_open",2,["table","end"],jG)::T35
theorem mZ(A:Af K "is_told_open" (Î 29) f)(t:HA P w K mg base T35):HA P w K mg base T36:=ai (al XI Gn ["table","end"] ["table","end"] gA A aF (by delta gA;fin2)) t
def gH:Õ:=(bg (fB (I ŏ (I cY (Ï "!") (Y 3)) (Y 0))) (aI (ae dD 1 (ao (Y 3)))) é)
def gI:Õ:=(bg (fB (ae jG 2 (bJ (Y 0) (Y 3)))) (aI (Y 3)) é)
def fT:Õ:=(aJ (ce 2 (ae cT 1 (ao (Y 1)))) (aJ (Ez 3 [] (dO (Y 2)) gH) (aJ (Ez 3 [3] (dO (Y 2)) gI) (aI (I Ì (Y 2) (f1 Lc (X 1)))))))
def cF:Ó:=aS 4 fT
def T37:bV:=("find_open_end",3,["table","name"],cF)::T36
theorem lI(A:Af K "find_open_end" (Î 30) f)(t:HA P w K mg base T36):HA P w K mg base T37:=ai (al XI Gn ["table","name","ends","end"] ["table","name"] fT A aF (by delta fT gH gI;fin2)) t
def kq:Õ:=(aI (I à (ae cF 2 (bJ (Y 0) (Y 1))) (Y 1)))
def fU:Ó:=aS 2 kq
def T38:bV:=("is_open",4,["table","house"],fU)::T37
theorem xf(A:Af K "is_open" (Î 87) f)(t:HA P w K mg base T37):HA P w K mg base T38:=ai (al XI Gn ["table","house"] ["table","house"] kq A aF (by delta kq;fin2)) t
def gJ:Õ:=(aJ (ce 3 (I Ì (Y 2) (X 2))) (aJ (bg (fB (I ċ (Y 3) (fC .non))) (aI (fC (.bl L))) é) (aI (kG (I à (Y 3) (I Ì (Y 1) (X 1))) (ae fU 2 (bJ (Y 0) (Y 3)))))))
def cK:Ó:=aS 4 gJ
def T39:bV:=("is_exact",5,["table","ask","given"],cK)::T38
theorem ux(A:Af K "is_exact" (Î 88) f)(t:HA P w K mg base T38):HA P w K mg base T39:=ai (al XI Gn ["table","ask","given","house"] ["table","ask","given"] gJ A aF (by delta gJ;fin2)) t
def jo:Õ:=(aJ (bg (cx (fB (ae bO 2 (bJ (Y 0) (X 8))))) (aI (fC (.bl D))) é) (aI (Ý pB (ao (ju (aR (ae aM 1 (ao (I Ì (Y 0) (X 0)))) (aR (ae bG 1 (ao (I Ì (Y 0) (X 1)))) (wL (Ĩ (I ċ (I Ì (Y 0) (X 2)) (fC .non)) (ae bw 1 (ao (I Ì (Y 0) (X 2))))) (Ĩ (I ċ (I Ì (Y 0) (X 3)) (fC .non)) (ae cC 1 (ao (I Ì (Y 0) (X 3))))) (ae az 1 (ao (I Ì (Y 0) (X 4)))) (ae az 1 (ao (I Ì (Y 0) (X 5)))) (f1 (jX fH) (I Ì (Y 0) (X 6))) (ae dZ 1 (ao (I Ì (Y 0) (X 7))))))))))))
def gK:Ó:=aS 1 jo
def T40:bV:=("is_given",4,["thing"],gK)::T39
theorem uy(A:Af K "is_given" (Î 70) f)(t:HA P w K mg base T39):HA P w K mg base T40:=ai (al XI Gn ["thing"] ["thing"] jo A aF (by delta jo;fin2)) t
def gl:Õ:=(bg (cx (fB (ae gK 1 (ao (Y 0))))) fG é)
def di:Ó:=aS 1 gl
def T41:bV:=("need_given",5,["thing"],di)::T40
theorem pS(A:Af K "need_given" (Î 71) f)(t:HA P w K mg base T40):HA P w K mg base T41:=ai (al XI Gn ["thing"] ["thing"] gl A aF (by delta gl;fin2)) t
def jO:Õ:=(bg (cx (fB (ae cC 1 (ao (Y 0))))) fG é)
def m5:Ó:=aS 1 jO
def T42:bV:=("need_path",3,["thing"],m5)::T41
theorem sk(A:Af K "need_path" (Î 36) f)(t:HA P w K mg base T41):HA P w K mg base T42:=ai (al XI Gn ["thing"] ["thing"] jO A aF (by delta jO;fin2)) t
def pU:Õ:=(aJ (ff (ae m5 1 (ao (Y 0)))) (aJ (ce 1 (fM (OP acL) (Y 0) (ao (Ï "/")))) (aJ (bg (fB (I à (Y 1) (X 0))) (aI (Ï "/")) é) (aI (xB (Y 0) gp (dr (Y 1)))))))
def lY:Ó:=aS 2 pU
def T43:bV:=("folder",4,["path"],lY)::T42
theorem Ax(A:Af K "folder" (Î 37) f)(t:HA P w K mg base T42):HA P w K mg base T43:=ai (al XI Gn ["path","place"] ["path"] pU A aF (by delta pU;fin2)) t
def gL:Õ:=(aJ (bg (fB (I ċ (I Ì (Y 1) (X 3)) (fC .non))) (aI (ae lY 1 (ao (I Ì (Y 0) (X 2))))) é) (aI (I Ì (Y 1) (X 3))))
def fD:Ó:=aS 2 gL
def T44:bV:=("path_for",5,["ask","given"],fD)::T43
theorem uz(A:Af K "path_for" (Î 93) f)(t:HA P w K mg base T43):HA P w K mg base T44:=ai (al XI Gn ["ask","given"] ["ask","given"] gL A aF (by delta gL;fin2)) t
def gB:Õ:=(aJ (ce 2 (ae cF 2 (bJ (Y 0) (Y 1)))) (aJ (ce 3 (ae cT 1 (ao (Y 1)))) (aJ (ce 4 (fML PR (Y 3) (ao (Y 2)))) (aJ (bg (fB (I à (Y 4) (X 0))) (aI (fC .non)) é) (aI (I Ì (Y 3) (I wO (Y 4) (X 1))))))))
def bU:Ó:=aS 5 gB
def T45:bV:=("find_own_end",4,["table","name"],bU)::T44
theorem m7(A:Af K "find_own_end" (Î 31) f)(t:HA P w K mg base T44):HA P w K mg base T45:=ai (al XI Gn ["table","name","end","ends","place"] ["table","name"] gB A aF (by delta gB;fin2)) t
def aZ:Õ:=(aJ (ce 2 (I Ì (Y 1) (X 1))) (aJ (ce 3 (I Ì (Y 1) (X 3))) (aJ (bg (Ċ (fB (I ċ (Y 3) (fC .non))) (fB (I à (Y 3) (Y 2)))) (aI (fC (.bl L))) é) (aJ (ce 4 (ae bU 2 (bJ (Y 0) (Y 2)))) (aI (kG (I nI (Y 4) (fC .non)) (I à (Y 4) (ae bU 2 (bJ (Y 0) (Y 3))))))))))
def aQ:Ó:=aS 5 aZ
def T46:bV:=("comes_from_near",5,["table","ask"],aQ)::T45
theorem kr(A:Af K "comes_from_near" (Î 51) f)(t:HA P w K mg base T45):HA P w K mg base T46:=ai (al XI Gn ["table","ask","house","origin","own"] ["table","ask"] aZ A aF (by delta aZ;fin2)) t
def bM:Õ:=(aJ (ce 3 (I Ì (Y 2) (X 0))) (aJ (bg (fB (fM (qH Ug) (Y 3) (ao (Ï "safe-")))) (aI (I Ì (Y 2) (X 6))) é) (aJ (bg (fB (fM (qH Ug) (Y 3) (ao (Ï "own-")))) (aI (kG (I Ì (Y 2) (X 6)) (kG (ae cK 3 (dU (Y 0) (Y 1) (Y 2))) (I à (I Ì (Y 2) (X 3)) (Ï "/"))))) é) (aI (fC (.bl L))))))
def bd:Ó:=aS 4 bM
def T47:bV:=("keeps_its_mark",6,["table","ask","given"],bd)::T46
theorem lf(A:Af K "keeps_its_mark" (Î 89) f)(t:HA P w K mg base T46):HA P w K mg base T47:=ai (al XI Gn ["table","ask","given","name"] ["table","ask","given"] bM A aF (by delta bM;fin2)) t
def fz:Õ:=(aJ (ff (ae aT 1 (ao (Y 0)))) (aJ (ff (ae dh 1 (ao (Y 1)))) (aJ (ff (ae di 1 (ao (Y 2)))) (aJ (ce 3 (I Ì (Y 2) (X 2))) (aJ (bg (mB (fB (I nI (Y 3) (fC .non))) (cx (fB (ae aD 2 (bJ (I Ì (Y 1) (X 1)) (Y 3)))))) (aI (Ï "foreign")) é) (aJ (bg (mB (fB (I nI (Y 3) (fC .non))) (mB (fB (I ď (Y 3) (I Ì (Y 1) (X 1)))) (fB (ae fU 2 (bJ (Y 0) (Y 3)))))) (aI (Ï "open")) é) (aJ (bg (mB (fB (I Ì (Y 2) (X 6))) (cx (fB (I Ì (Y 1) (X 0))))) (aI (Ï "unsafe")) é) (aJ (bg (cx (fB (ae bd 3 (dU (Y 0) (Y 1) (Y 2))))) (aI (Ï "marked")) é) (aJ (bg (mB (fB (I à (I Ì (Y 2) (X 7)) (Ï "near"))) (cx (fB (ae aQ 2 (bJ (Y 0) (Y 1)))))) (aI (Ï "far")) é) (aI (fC .non)))))))))))
def bB:Ó:=aS 4 fz
def T48:bV:=("why_refused",7,["table","ask","given"],bB)::T47
theorem nU(A:Af K "why_refused" (Î 90) f)(t:HA P w K mg base T47):HA P w K mg base T48:=ai (al XI Gn ["table","ask","given","house"] ["table","ask","given"] fz A aF (by delta fz;fin2)) t
def vP:Õ:=(aJ (ff (ae aT 1 (ao (Y 0)))) (aJ (ff (ae dh 1 (ao (Y 1)))) (aJ (ff (ae di 1 (ao (Y 2)))) (aJ (ff (ae bP 1 (ao (Y 3)))) (aJ (bg (fB (I nI (ae bB 3 (dU (Y 0) (Y 1) (Y 2))) (fC .non))) fG é) (aI (iC (aR (I Ì (Y 2) (X 0)) (aR (I Ì (Y 2) (X 1)) (aR (ae fR 2 (bJ (Y 1) (Y 2))) (aR (ae cK 3 (dU (Y 0) (Y 1) (Y 2))) (wL (ae fD 2 (bJ (Y 1) (Y 2))) (ae iV 2 (bJ (Y 2) (Y 3))) (I Ì (Y 2) (X 6)) (I Ì (Y 2) (X 7)) (Y 3) (Y 3)))))))))))))
def fV:Ó:=aS 4 vP
def T49:bV:=("made",8,["table","ask","given","now"],fV)::T48
theorem IE(A:Af K "made" (Î 95) f)(t:HA P w K mg base T48):HA P w K mg base T49:=ai (al XI Gn ["table","ask","given","now"] ["table","ask","given","now"] vP A aF (by delta vP;fin2)) t
def uA:Õ:=(aJ (ce 2 (cu 1 [("note",1)] (dO (Y 0)) (gN 0) (Z (fB (I à (ae cy 1 (ao (Y 0))) (ae cy 1 (ao (Y 1)))))) (Y 0))) (aJ (bg (fB (I à (Y 2) (ju eZ))) (aI (I iy (Y 0) (iC (ao (Y 1))))) é) (aJ (ce 3 (I iy (I iy (j7 (Y 1) gp (dr (X 8))) (iC (ao (I Ì (I Ì (Y 2) (X 0)) (X 8))))) (j7 (Y 1) (dr (I iy (X 8) (X 1))) gp))) (aI (Ý iw (ao (cf [("note",1),("newer",3)] (dO (Y 0)) U (ķ (fB (I à (ae cy 1 (ao (Y 0))) (ae cy 1 (ao (Y 1))))) (Y 2) (Y 0)))))))))
def DH:Ó:=aS 4 uA
def T50:bV:=("put",2,["jar","note"],DH)::T49
theorem Nn(A:Af K "put" (Î 110) f)(t:HA P w K mg base T49):HA P w K mg base T50:=ai (al XI Gn ["jar","note","same","newer"] ["jar","note"] uA A aF (by delta uA;fin2)) t
def ig:Õ:=(aI (kG (I nI (I Ì (Y 0) (X 5)) (fC .non)) (I į (I Ì (Y 0) (X 5)) (Y 1))))
def br:Ó:=aS 2 ig
def T51:bV:=("has_ended",1,["note","now"],br)::T50
theorem sn(A:Af K "has_ended" (Î 97) f)(t:HA P w K mg base T50):HA P w K mg base T51:=ai (al XI Gn ["note","now"] ["note","now"] ig A aF (by delta ig;fin2)) t
def cG:Õ:=(aI (Ý iw (ao (cf [("now",1)] (dO (Y 0)) (Z (cx (fB (ae br 2 (bJ (Y 0) (Y 1)))))) (Y 0)))))
def bm:Ó:=aS 2 cG
def T52:bV:=("without_ended",2,["notes","now"],bm)::T51
theorem lJ(A:Af K "without_ended" (Î 108) f)(t:HA P w K mg base T51):HA P w K mg base T52:=ai (al XI Gn ["notes","now"] ["notes","now"] cG A aF (by delta cG;fin2)) t
def iX:Õ:=(aJ (bg (fB (I à (Y 0) (Y 1))) (aI (fC (.bl L))) é) (aJ (bg (cx (fB (fM (qH Ug) (Y 0) (ao (Y 1))))) (aI (fC (.bl D))) é) (aI (Ĩ (fM (qH X7) (Y 1) (ao (Ï "/"))) (I à (I Ì (Y 0) (Ý fA (ao (Y 1)))) (Ï "/"))))))
def bQ:Ó:=aS 2 iX
def T53:bV:=("lies_under",1,["path","top"],bQ)::T52
theorem pV(A:Af K "lies_under" (Î 38) f)(t:HA P w K mg base T52):HA P w K mg base T53:=ai (al XI Gn ["path","top"] ["path","top"] iX A aF (by delta iX;fin2)) t
def iY:Õ:=(aJ (bg (Ċ (cx (fB (I Ì (Y 0) (X 6)))) (Ċ (fB (ae br 2 (bJ (Y 0) (Y 2)))) (fB (I ď (I Ì (Y 0) (X 0)) (I Ì (Y 1) (X 0)))))) (aI (fC (.bl D))) é) (aJ (bg (mB (cx (fB (ae aD 2 (bJ (I Ì (Y 1) (X 2)) (I Ì (Y 0) (X 2)))))) (cx (fB (ae aD 2 (bJ (I Ì (Y 0) (X 2)) (I Ì (Y 1) (X 2))))))) (aI (fC (.bl D))) é) (aI (ae bQ 2 (bJ (I Ì (Y 1) (X 4)) (I Ì (Y 0) (X 4)))))))
def iZ:Ó:=aS 3 iY
def T54:bV:=("shadows",2,["old","note","now"],iZ)::T53
theorem xg(A:Af K "shadows" (Î 114) f)(t:HA P w K mg base T53):HA P w K mg base T54:=ai (al XI Gn ["old","note","now"] ["old","note","now"] iY A aF (by delta iY;fin2)) t
def fW:Õ:=(aJ (ce 5 (ae bB 3 (dU (Y 0) (Y 2) (Y 3)))) (aJ (bg (fB (I nI (Y 5) (fC .non))) (aI (Y 5)) é) (aJ (ce 6 (ae fV 4 (qU (Y 0) (Y 2) (Y 3) (Y 4)))) (aJ (bg (mB (cx (fB (I Ì (Y 2) (X 0)))) (fB (Ý Ht (ao (cf [("now",4),("note",6)] (dO (Y 1)) U (ae iZ 3 (dU (Y 0) (Y 2) (Y 1)))))))) (aI (Ï "shadowed")) é) (aJ (bg (fB (ae br 2 (bJ (Y 6) (Y 4)))) (aI (Ï "gone")) é) (aI (Ï "kept")))))))
def bI:Ó:=aS 7 fW
def T55:bV:=("word_of",9,["table","jar","ask","given","now"],bI)::T54
theorem xh(A:Af K "word_of" (Î 113) f)(t:HA P w K mg base T54):HA P w K mg base T55:=ai (al XI Gn ["table","jar","ask","given","now","refused","note"] ["table","jar","ask","given","now"] fW A aF (by delta fW;fin2)) t
def dF:Õ:=(aJ (ce 5 (ae bI 5 (qG (Y 0) (Y 1) (Y 2) (Y 3) (Y 4)))) (aJ (ce 6 (ae bm 2 (bJ (Y 1) (Y 4)))) (aJ (bg (fB (I à (Y 5) (Ï "kept"))) (aI (ae DH 2 (bJ (Y 6) (ae fV 4 (qU (Y 0) (Y 2) (Y 3) (Y 4)))))) é) (aJ (bg (fB (I à (Y 5) (Ï "gone"))) (aJ (ce 7 (ae cy 1 (ao (ae fV 4 (qU (Y 0) (Y 2) (Y 3) (Y 4)))))) (aI (Ý iw (ao (cf [("ended",7)] (dO (Y 6)) (Z (fB (I ď (ae cy 1 (ao (Y 0))) (Y 1)))) (Y 0)))))) é) (aI (Y 6))))))
def bZ:Ó:=aS 8 dF
def T56:bV:=("take_in",10,["table","jar","ask","given","now"],bZ)::T55
theorem xi(A:Af K "take_in" (Î 116) f)(t:HA P w K mg base T55):HA P w K mg base T56:=ai (al XI Gn ["table","jar","ask","given","now","word","notes","ended"] ["table","jar","ask","given","now"] dF A aF (by delta dF;fin2)) t
def m9:Õ:=(aJ (ce 5 (ae aG 5 (qG (Y 0) (Y 1) (Y 2) (Y 3) (Y 4)))) (aJ (bg (fB (Ý Ht (ao (cf [("now",4)] (dO (Y 1)) U (I ť (I Ì (Y 0) (X 9)) (Y 1)))))) fG é) (aJ (ce 6 (ae bZ 5 (qG (Y 0) (Y 1) (Y 2) (Y 5) (Y 4)))) (aJ (ff (ae aA 1 (ao (Y 6)))) (aI (Y 6))))))
def lg:Ó:=aS 7 m9
def T57:bV:=("taken",11,["table","jar","ask","text","now"],lg)::T56
theorem DI(A:Af K "taken" (Î 115) f)(t:HA P w K mg base T56):HA P w K mg base T57:=ai (al XI Gn ["table","jar","ask","text","now","given","notes"] ["table","jar","ask","text","now"] m9 A aF (by delta m9;fin2)) t
def i5:Õ:=(aJ (ce 5 (ae aG 5 (qG (Y 0) (Y 1) (Y 2) (Y 3) (Y 4)))) (aI (ae bI 5 (qG (Y 0) (Y 1) (Y 2) (Y 5) (Y 4)))))
def dG:Ó:=aS 6 i5
def T58:bV:=("verdict",10,["table","jar","ask","text","now"],dG)::T57
theorem xj(A:Af K "verdict" (Î 112) f)(t:HA P w K mg base T57):HA P w K mg base T58:=ai (al XI Gn ["table","jar","ask","text","now","given"] ["table","jar","ask","text","now"] i5 A aF (by delta i5;fin2)) t
def eU:cz:=(c8 (lX 4 (ay (ae lg 5 (qG (f1 (jY 1 0) (Y 0)) (f1 (jY 1 1) (Y 0)) (Y 1) (Y 2) (Y 3))))) (c8 (lX 5 (ay (ae dG 5 (qG (f1 (jY 1 0) (Y 0)) (f1 (jY 1 1) (Y 0)) (Y 1) (Y 2) (Y 3))))) (c8 (jw (fu 1 bY 2 (fg 0) (bF (ay (Ï "give")) (bF (ay (Y 4)) iA)))) (nO (ay (Y 5))))))
def i7:Đ:=nK 6 eU
def QU:um:=("give",12,3,i7)::QT
theorem pW(A:Am K Cb "Desk.give" "give" (bf (Î 128) 3) f)(t:HA P w K mg base T58)(a:Ė P w K mg base 1 Cb QT):Ė P w K mg base 1 Cb QU:=ez (eC ckb ["self","ask","text","now","notes","word"] ["self","ask","text","now"] eU A aF (by delta eU;fin2)) a
def ii:Õ:=(aI (iC (bJ (I Ì (Y 0) (X 9)) (I Ì (Y 0) (X 8)))))
def ci:Ó:=aS 1 ii
def T59:bV:=("when_last",1,["note"],ci)::T58
theorem sr(A:Af K "when_last" (Î 126) f)(t:HA P w K mg base T58):HA P w K mg base T59:=ai (al XI Gn ["note"] ["note"] ii A aF (by delta ii;fin2)) t
def gM:Õ:=(aJ (bg (fB (I V' (ae ci 1 (ao (Y 1))) (ae ci 1 (ao (Y 0))))) (aI (Y 1)) é) (aI (Y 0)))
def gO:Ó:=aS 2 gM
def T60:bV:=("later_of",2,["mine","its"],gO)::T59
theorem uC(A:Af K "later_of" (Î 125) f)(t:HA P w K mg base T59):HA P w K mg base T60:=ai (al XI Gn ["mine","its"] ["mine","its"] gM A aF (by delta gM;fin2)) t
def gQ:Õ:=(aI (iC (bJ (I Ì (Y 0) (X 8)) (ae cy 1 (ao (Y 0))))))
def gR:Ó:=aS 1 gQ
def T61:bV:=("place_of",2,["note"],gR)::T60
theorem uD(A:Af K "place_of" (Î 124) f)(t:HA P w K mg base T60):HA P w K mg base T61:=ai (al XI Gn ["note"] ["note"] gQ A aF (by delta gQ;fin2)) t
def dj:Ľ:=(HQ (ae cy 1 (ao (Y 3))) (vE (Y 3)))
def dk:Ľ:=(HQ (ae cy 1 (ao (Y 3))) (oO gO (HP (ae cy 1 (ao (Y 3))) (Y 3)) (Y 3)))
def ku:Õ:=(aJ (ff (ae bH 1 (ao (Y 0)))) (aJ (ff (ae bH 1 (ao (Y 1)))) (z0 2 (HR 3 (Y 0) dj) (HR 3 (Y 1) dk) (MB 4 (oP gR) (aJ (ff (ae aA 1 (ao (Y 4)))) (aI (Ý iw (ao (Y 4)))))))))
def jp:Ó:=aS 5 ku
def T62:bV:=("merged",7,["one","other"],jp)::T61
theorem Ay(A:Af K "merged" (Î 123) f)(t:HA P w K mg base T61):HA P w K mg base T62:=ai (al XI Gn ["one","other","chosen","note","notes"] ["one","other"] ku A aF (by delta ku dj dk;fin2)) t
def dH:cz:=(c8 (lX 2 (ay (ae jp 2 (bJ (f1 (jY 1 1) (Y 0)) (Y 1))))) (c8 (jw (fu 1 bY 2 (fg 0) (bF (ay (Ï "merge")) (bF (ay (Y 2)) iA)))) (nO (ay (Ý fA (ao (Y 2)))))))
def dI:Đ:=nK 3 dH
def QV:um:=("merge",8,1,dI)::QU
theorem nV(A:Am K Cb "Desk.merge" "merge" (bf (Î 128) 7) f)(t:HA P w K mg base T62)(a:Ė P w K mg base 1 Cb QU):Ė P w K mg base 1 Cb QV:=ez (eC ckb ["self","jar","notes"] ["self","jar"] dH A aF (by delta dH;fin2)) a
def ij:Õ:=(aI (f1 (jY 1 1) (Y 0)))
def aO:Ó:=aS 1 ij
def R9:HZ:=("notes",1,0,aO)::QO
theorem pY(A:Am K Cb "Desk.notes" "notes" (bf (Î 128) 1) f)(a:œ P w K mg base 1 Cb QO):œ P w K mg base 1 Cb R9:=vO (Aq ckb ["self"] ["self"] ij A aF (by delta ij;fin2)) a
def ng:Õ:=(aJ (ff (ae bH 1 (ao (Y 0)))) (aJ (ff (ae bP 1 (ao (Y 1)))) (aI (ae bm 2 (bJ (Y 0) (Y 1))))))
def i9:Ó:=aS 2 ng
def T63:bV:=("swept",7,["jar","now"],i9)::T62
theorem DJ(A:Af K "swept" (Î 107) f)(t:HA P w K mg base T62):HA P w K mg base T63:=ai (al XI Gn ["jar","now"] ["jar","now"] ng A aF (by delta ng;fin2)) t
def dJ:cz:=(nO (fu 1 bW 2 (fg 0) (bF (ay (Ï "sweep")) (bF (ay (ae i9 2 (bJ (f1 (jY 1 1) (Y 0)) (Y 1)))) iA))))
def cL:Đ:=nK 2 dJ
def Sa:um:=("sweep",8,1,cL)::QV
theorem nW(A:Am K Cb "Desk.sweep" "sweep" (bf (Î 128) 4) f)(t:HA P w K mg base T63)(a:Ė P w K mg base 1 Cb QV):Ė P w K mg base 1 Cb Sa:=ez (eC ckb ["self","now"] ["self","now"] dJ A aF (by delta dJ;fin2)) a
def jP:Õ:=(bg (cx (fB (ae aL 3 (dU (Y 0) (X 0) (X 20))))) fG é)
def d5:Ó:=aS 1 jP
def T64:bV:=("need_room",2,["thing"],d5)::T63
theorem su(A:Af K "need_room" (Î 131) f)(t:HA P w K mg base T63):HA P w K mg base T64:=ai (al XI Gn ["thing"] ["thing"] jP A aF (by delta jP;fin2)) t
def bR:cz:=(c8 (jw (ay (ae aT 1 (ao (Y 1))))) (c8 (jw (ay (ae d5 1 (ao (Y 2))))) (c8 (jw (ay (ae d5 1 (ao (Y 3))))) (c8 (nJ 0 0 (fg 0) (ay (Y 1))) (c8 (nJ 0 1 (fg 0) (ay (Y 2))) (c8 (nJ 0 2 (fg 0) (ay (Y 3))) (c8 (nJ 0 3 (fg 0) (ay (iC eZ))) (nJ 0 4 (fg 0) (ay (X 0))))))))))
def bS:Đ:=nK 4 bR
theorem jQ(A:∃b,ı K "__init__" "Keeper.__init__" (bf (Î 138) 0) f b)(a:Mk K Ca f)(t:HA P w K mg base T64):Iw P w K mg base 0 Ca 7 3 bS:=Ao XI Gn cka a ["self","table","each","most"] ["self","table","each","most"] bR A aF (by delta bR;fin2)
def cq:cz:=(c8 (lX 2 (ay (ae cD 2 (bJ (f1 (jY 0 3) (Y 0)) (Y 1))))) (c8 (lX 3 (ay (I wO (Ý fA (ao (f1 (jY 0 3) (Y 0)))) (Ý fA (ao (Y 2)))))) (c8 (nJ 0 3 (fg 0) (ay (Y 2))) (nO (ay (Y 3))))))
def fj:Đ:=nK 4 cq
def QW:um:=("forget",8,1,fj)::QP
theorem lh(A:Am K Ca "Keeper.forget" "forget" (bf (Î 138) 7) f)(t:HA P w K mg base T64)(a:Ė P w K mg base 0 Ca QP):Ė P w K mg base 0 Ca QW:=ez (eC cka ["self","house","left","gone"] ["self","house"] cq A aF (by delta cq;fin2)) a
def aV:cz:=(Ķ (fK (fB (I ltX (Y 1) (f1 (jY 0 4) (Y 0))))) (QJ fG) vM)
def bj:Đ:=nK 2 aV
def QX:um:=("need_no_earlier",1,1,bj)::QW
theorem gf(A:Am K Ca "Keeper.need_no_earlier" "need_no_earlier" (bf (Î 138) 3) f)(a:Ė P w K mg base 0 Ca QW):Ė P w K mg base 0 Ca QX:=ez (eC cka ["self","now"] ["self","now"] aV A aF (by delta aV;fin2)) a
def gS:Õ:=(aJ (ce 2 (ae bU 2 (bJ (Y 0) (I Ì (Y 1) (X 2))))) (aJ (bg (fB (I ċ (Y 2) (fC .non))) (aI (I Ì (Y 1) (X 2))) é) (aI (Y 2))))
def ca:Ó:=aS 3 gS
def T65:bV:=("group_of",5,["table","note"],ca)::T64
theorem uE(A:Af K "group_of" (Î 132) f)(t:HA P w K mg base T64):HA P w K mg base T65:=ai (al XI Gn ["table","note","own"] ["table","note"] gS A aF (by delta gS;fin2)) t
def Az:Õ:=(aI (iC (bJ (I Ì (Y 0) (X 6)) (I Ì (Y 0) (X 9)))))
def sw:Ó:=aS 1 Az
def T66:bV:=("rank",1,["note"],sw)::T65
theorem IF(A:Af K "rank" (Î 135) f)(t:HA P w K mg base T65):HA P w K mg base T66:=ai (al XI Gn ["note"] ["note"] Az A aF (by delta Az;fin2)) t
def gT:Õ:=(aJ (ce 2 (Ý (wY sw) (ao (Y 0)))) (aI (j7 (Y 2) gp (dr (Ý LP (bJ (I wO (Ý fA (ao (Y 0))) (Y 1)) (X 0)))))))
def fE:Ó:=aS 3 gT
def T67:bV:=("too_many",4,["notes","room"],fE)::T66
theorem uF(A:Af K "too_many" (Î 134) f)(t:HA P w K mg base T66):HA P w K mg base T67:=ai (al XI Gn ["notes","room","in_order"] ["notes","room"] gT A aF (by delta gT;fin2)) t
def jb:Õ:=(aI (Ý iw (ao (cf [("dropped",1)] (dO (Y 0)) (Z (fB (I lA (Y 0) (Y 1)))) (Y 0)))))
def gU:Ó:=aS 2 jb
def T68:bV:=("without",1,["notes","dropped"],gU)::T67
theorem xl(A:Af K "without" (Î 136) f)(t:HA P w K mg base T67):HA P w K mg base T68:=ai (al XI Gn ["notes","dropped"] ["notes","dropped"] jb A aF (by delta jb;fin2)) t
def nh:Õ:=(aJ (ce 6 (cu 1 [("table",0),("group",5)] (dO (Y 1)) (gN 0) (Z (fB (I à (ae ca 2 (bJ (Y 1) (Y 0))) (Y 2)))) (Y 0))) (ce 4 (ae gU 2 (bJ (Y 4) (ae fE 2 (bJ (Y 6) (Y 2)))))))
def AA:Õ:=(aJ (ce 4 (Y 1)) (aJ (Ez 5 [5,6] (dO (Ý kU (ao (cf [("table",0)] (dO (Y 1)) U (ae ca 2 (bJ (Y 1) (Y 0))))))) nh) (aI (ae gU 2 (bJ (Y 4) (ae fE 2 (bJ (Y 4) (Y 3))))))))
def AB:Ó:=aS 7 AA
def T69:bV:=("fit",6,["table","notes","each","most"],AB)::T68
theorem No(A:Af K "fit" (Î 133) f)(t:HA P w K mg base T68):HA P w K mg base T69:=ai (al XI Gn ["table","notes","each","most","left","group","members"] ["table","notes","each","most"] AA A aF (by delta AA nh;fin2)) t
def cW:cz:=(c8 (lX 4 (ay (ae dG 5 (qG (f1 (jY 0 0) (Y 0)) (f1 (jY 0 3) (Y 0)) (Y 1) (Y 2) (Y 3))))) (c8 (jw (fu 0 bj 1 (fg 0) (bF (ay (Y 3)) iA))) (c8 (lX 5 (ay (ae bZ 5 (qG (f1 (jY 0 0) (Y 0)) (f1 (jY 0 3) (Y 0)) (Y 1) (ae aN 1 (ao (Y 2))) (Y 3))))) (c8 (nJ 0 3 (fg 0) (ay (ae AB 4 (qU (f1 (jY 0 0) (Y 0)) (Y 5) (f1 (jY 0 1) (Y 0)) (f1 (jY 0 2) (Y 0)))))) (c8 (nJ 0 4 (fg 0) (ay (Y 3))) (nO (ay (Y 4))))))))
def gC:Đ:=nK 6 cW
def QY:um:=("hear",11,3,gC)::QX
theorem ni(A:Am K Ca "Keeper.hear" "hear" (bf (Î 138) 4) f)(t:HA P w K mg base T69)(a:Ė P w K mg base 0 Ca QX):Ė P w K mg base 0 Ca QY:=ez (eC cka ["self","ask","text","now","word","notes"] ["self","ask","text","now"] cW A aF (by delta cW;fin2)) a
def fX:Õ:=(aI (f1 (jY 0 3) (Y 0)))
def dL:Ó:=aS 1 fX
def Sb:HZ:=("notes",1,0,dL)::QN
theorem nj(A:Am K Ca "Keeper.notes" "notes" (bf (Î 138) 1) f)(a:œ P w K mg base 0 Ca QN):œ P w K mg base 0 Ca Sb:=vO (Aq cka ["self"] ["self"] fX A aF (by delta fX;fin2)) a
def cX:cz:=(c8 (lX 2 (ay (ae i9 2 (bJ (f1 (jY 0 3) (Y 0)) (Y 1))))) (c8 (jw (fu 0 bj 1 (fg 0) (bF (ay (Y 1)) iA))) (c8 (nJ 0 3 (fg 0) (ay (Y 2))) (nJ 0 4 (fg 0) (ay (Y 1))))))
def gD:Đ:=nK 3 cX
def Sd:um:=("step",8,1,gD)::QY
theorem np(A:Am K Ca "Keeper.step" "step" (bf (Î 138) 6) f)(t:HA P w K mg base T69)(a:Ė P w K mg base 0 Ca QY):Ė P w K mg base 0 Ca Sd:=ez (eC cka ["self","now","left"] ["self","now"] cX A aF (by delta cX;fin2)) a
def fY:Õ:=(aJ (bg (fB (I OQ (Y 0) (ju eZ))) (aI (I mD (X 7) (Y 1))) é) (aI (I cY (I Ì (Y 0) (I jW (Y 1) (Ý fA (ao (Y 0))))) (I mD (X 6553) (I jZ (Y 1) (Ý fA (ao (Y 0))))))))
def db:Ó:=aS 2 fY
def T70:bV:=("_law_cell",1,["_law_script","_law_k"],db)::T69
theorem sx(A:Af K "_law_cell" (Î 140) f)(t:HA P w K mg base T69):HA P w K mg base T70:=ai (al XI Gn ["_law_script","_law_k"] ["_law_script","_law_k"] fY A aF (by delta fY;fin2)) t
def dq:Õ:=(aJ (ce 3 (I jW (I cY (I mD (I jW (ae db 2 (bJ (Y 0) (Y 1))) (X 2147483563)) (X 69069)) (I mD (X 104723) (I cY (Y 1) (X 1)))) (X 2147483563))) (aJ (ce 3 (I jW (I cY (I mD (Y 3) (Y 3)) (I jZ (Y 3) (X 3))) (X 2147483399))) (aI (I jW (I jZ (I jW (I cY (I mD (Y 3) (Y 3)) (I jZ (Y 3) (X 7))) (X 2147483647)) (X 11)) (Y 2)))))
def ah:Ó:=aS 4 dq
def T71:bV:=("_law_drawn",2,["_law_script","_law_k","_law_many"],ah)::T70
theorem pZ(A:Af K "_law_drawn" (Î 141) f)(t:HA P w K mg base T70):HA P w K mg base T71:=ai (al XI Gn ["_law_script","_law_k","_law_many","_law_cell_here"] ["_law_script","_law_k","_law_many"] dq A aF (by delta dq;fin2)) t
def jR:Õ:=(aJ (ce 2 (ju (aR (Ï "a.b") (aR (Ï "b") (wL (Ï "x.a.b") (Ï "y.x.a.b") (Ï "c.uk") (Ï "uk") (Ï "d.c.uk") (Ï "e.d.c.uk")))))) (aJ (ce 2 (I cY (Y 2) (ju (wL (Ï "w.ck") (Ï "v.w.ck") (Ï "ck") (Ï "g-1.a.b") (Ï "7.b") (Ï "p.q"))))) (aI (I Ì (Y 2) (ae ah 3 (dU (Y 0) (Y 1) (Ý fA (ao (Y 2)))))))))
def aX:Ó:=aS 3 jR
def T72:bV:=("_law_name",3,["_law_script","_law_at"],aX)::T71
theorem sy(A:Af K "_law_name" (Î 142) f)(t:HA P w K mg base T71):HA P w K mg base T72:=ai (al XI Gn ["_law_script","_law_at","_law_some"] ["_law_script","_law_at"] jR A aF (by delta jR;fin2)) t
def jS:Õ:=(aJ (ce 2 (ju (aR (Ï "/") (aR (Ï "/x") (aR (Ï "/x/") (wL (Ï "/x/y") (Ï "/xy") (Ï "/x/y/z.q") (Ï "//") (Ï "/-_.9") (Ï "/x/y/"))))))) (aI (I Ì (Y 2) (ae ah 3 (dU (Y 0) (Y 1) (Ý fA (ao (Y 2))))))))
def dc:Ó:=aS 3 jS
def T73:bV:=("_law_path",3,["_law_script","_law_at"],dc)::T72
theorem sE(A:Af K "_law_path" (Î 144) f)(t:HA P w K mg base T72):HA P w K mg base T73:=ai (al XI Gn ["_law_script","_law_at","_law_some"] ["_law_script","_law_at"] jS A aF (by delta jS;fin2)) t
def gV:Õ:=(aJ (ce 2 (I Ì (ju (dU (fC .non) (ae aX 2 (bJ (Y 0) (I cY (Y 1) (X 3)))) (ae aX 2 (bJ (Y 0) (I cY (Y 1) (X 3)))))) (ae ah 3 (dU (Y 0) (I cY (Y 1) (X 2)) (X 3))))) (aI (iC (qU (I à (ae ah 3 (dU (Y 0) (Y 1) (X 2))) (X 0)) (ae aX 2 (bJ (Y 0) (I cY (Y 1) (X 1)))) (ae dc 2 (bJ (Y 0) (I cY (Y 1) (X 4)))) (Y 2)))))
def jq:Ó:=aS 3 gV
def T74:bV:=("_law_ask",4,["_law_script","_law_at"],jq)::T73
theorem uG(A:Af K "_law_ask" (Î 145) f)(t:HA P w K mg base T73):HA P w K mg base T74:=ai (al XI Gn ["_law_script","_law_at","_law_origin"] ["_law_script","_law_at"] gV A aF (by delta gV;fin2)) t
def gm:Õ:=(aJ (ce 3 (I Ì (ju (aR (Ï "n") (wL (Ï "safe-a") (Ï "own-b") (Ï "N_2") (Ï "m-1") (Ï "safe-") (Ï "n")))) (ae ah 3 (dU (Y 0) (Y 1) (X 7))))) (aJ (ce 4 (I Ì (ju (qG (Ï "5") (Ï "") (Ï "a!b~") (Ï "x/y?z") (Ï "123456789012"))) (ae ah 3 (dU (Y 0) (I cY (Y 1) (X 1)) (X 5))))) (EN 5 (qG (fC .non) (fC .non) (Y 2) (I Ì (fM (iu) (Y 2) (ao (Ï "."))) (f1 Lc (X 1))) (ae aX 2 (bJ (Y 0) (I cY (Y 1) (X 3))))) (pF (JL (ķ (fB (I ŏ (Ï ".") (Y 2))) (xB (Y 2) (dr (I cY (fM LI (Y 2) (ao (Ï "."))) (X 1))) gp) (Y 2))) (pF (qI 6 (I Ì (ju (dU (fC .non) (Ï "/") (ae dc 2 (bJ (Y 0) (I cY (Y 1) (X 5)))))) (ae ah 3 (dU (Y 0) (I cY (Y 1) (X 4)) (X 3))))) (pF (qI 7 (I Ì (ju (dU (fC .non) (fC .non) (ae ah 3 (dU (Y 0) (I cY (Y 1) (X 7)) (X 60))))) (ae ah 3 (dU (Y 0) (I cY (Y 1) (X 6)) (X 3))))) (pF (qI 8 (I Ì (ju (dU (fC .non) (fC .non) (ae ah 3 (dU (Y 0) (I cY (Y 1) (X 9)) (X 30))))) (ae ah 3 (dU (Y 0) (I cY (Y 1) (X 8)) (X 3))))) (pF (qI 9 (I Ì (ju (bJ (Ï "any") (Ï "near"))) (ae ah 3 (dU (Y 0) (I cY (Y 1) (X 11)) (X 2))))) (pF (qI 10 (I à (ae ah 3 (dU (Y 0) (I cY (Y 1) (X 10)) (X 2))) (X 0))) (Ha 5 (iC (aR (Y 3) (aR (Y 4) (wL (I Ì (Y 5) (ae ah 3 (dU (Y 0) (I cY (Y 1) (X 2)) (X 6)))) (Y 6) (Y 7) (Y 8) (Y 10) (Y 9)))))))))))))))
def eV:Ó:=aS 11 gm
def T75:bV:=("_law_given",4,["_law_script","_law_at","_law_house"],eV)::T74
theorem p0(A:Af K "_law_given" (Î 147) f)(t:HA P w K mg base T74):HA P w K mg base T75:=ai (al XI Gn ["_law_script","_law_at","_law_house","_law_name_here","_law_worth","_law_some","_law_path_here","_law_until","_law_lasts","_law_reach","_law_safe"] ["_law_script","_law_at","_law_house"] gm A aF (by delta gm;fin2)) t
def jr:Õ:=(aI (iC (dU (I Ì (Y 0) (X 0)) (I Ì (Y 0) (X 2)) (I Ì (Y 0) (X 4)))))
def el:Ó:=aS 1 jr
def T76:bV:=("_law_key",1,["_law_note"],el)::T75
theorem uH(A:Af K "_law_key" (Î 149) f)(t:HA P w K mg base T75):HA P w K mg base T76:=ai (al XI Gn ["_law_note"] ["_law_note"] jr A aF (by delta jr;fin2)) t
def jc:Õ:=(aJ (ce 2 (ju (aR (Ï "!w.ck") (aR (Ï "*.ck") (wL (Ï "*.uk") (Ï "a.b") (Ï "b") (Ï "c.uk") (Ï "q") (Ï "uk")))))) (aI (Ý iw (ao (cu 2 [("_law_script",0),("_law_at",1)] (λa=>Ö ((ao (Y 2)) a) Cr) (gP 0 1) (Z (fB (I à (ae ah 3 (dU (Y 2) (I cY (Y 3) (Y 0)) (X 2))) (X 0)))) (Y 1))))))
def eW:Ó:=aS 3 jc
def T77:bV:=("_law_table",3,["_law_script","_law_at"],eW)::T76
theorem p8(A:Af K "_law_table" (Î 143) f)(t:HA P w K mg base T76):HA P w K mg base T77:=ai (al XI Gn ["_law_script","_law_at","_law_some"] ["_law_script","_law_at"] jc A aF (by delta jc;fin2)) t
def aK:Õ:=(bg (fB (I nI (Y 11) (fC .non))) (ce 9 (I iy (I iy (I iy (I iy (Y 9) (Ï "; ")) (Y 10)) (Ï " ")) (Ý JQ (ao (Y 11))))) é)
def fZ:Õ:=(aJ (Lz [1,2,3,4] (j7 (Y 0) gp (dr (X 4)))) (aJ (Lz [5,6,7,8] (j7 (Y 0) (dr (X 4)) gp)) (aJ (ce 9 (I iy (I iy (Y 1) (Ï "=")) (Y 2))) (aJ (wS (gP 10 11) [11,10] (λa=>Ö ((bJ (iC (qU (Ï "for") (Ï "under") (Ï "until") (Ï "lasts"))) (j7 (Y 0) (dr (X 2)) (dr (X 6)))) a) JP) aK) (aI (I iy (I iy (Y 9) (ķ (fB (Y 7)) (Ï "; safe") (Ï ""))) (ķ (fB (I à (Y 8) (Ï "near"))) (Ï "; near") (Ï ""))))))))
def gc:Ó:=aS 12 fZ
def T78:bV:=("_law_text",1,["_law_given_here"],gc)::T77
theorem sI(A:Af K "_law_text" (Î 148) f)(t:HA P w K mg base T77):HA P w K mg base T78:=ai (al XI Gn ["_law_given_here","_law_name_here","_law_worth","_law_house","_law_path_here","_law_until","_law_lasts","_law_safe","_law_reach","_law_text_here","_law_word","_law_thing"] ["_law_given_here"] fZ A aF (by delta fZ aK;fin2)) t
def ik:Õ:=(aI (Ĩ (I à (Y 0) (Y 1)) (fM (qH X7) (Y 0) (ao (I cY (Ï ".") (Y 1))))))
def bc:Ó:=aS 2 ik
def T79:bV:=("_law_within",1,["_law_one","_law_other"],bc)::T78
theorem nX(A:Af K "_law_within" (Î 146) f)(t:HA P w K mg base T78):HA P w K mg base T79:=ai (al XI Gn ["_law_one","_law_other"] ["_law_one","_law_other"] ik A aF (by delta ik;fin2)) t
def AC:å:=(fB (I ď (df 1 aO (Y 2)) (df 0 dL (Y 3))))
def uI:å:=(fB (I à (ae ah 3 (dU (Y 0) (I iy (Y 6) (X 30)) (X 4))) (X 0)))
def AD:å:=(fB (I ď (cf [("_law_house",9)] (dO (df 1 aO (Y 2))) (Z (fB (ae bc 2 (bJ (I Ì (Y 0) (X 2)) (Y 1))))) (Y 0)) (ju eZ)))
def AE:cz:=(Ķ (uB (ul ď (fu 1 gu 1 (fg 2) (bF (ay (Y 9)) iA)) (fu 0 fj 1 (fg 3) (bF (ay (Y 9)) iA)))) (nO (ay (fC (.bl D)))) vM)
def AF:cz:=(lX 9 (ay (ae aX 2 (bJ (Y 0) (I iy (Y 6) (X 31))))))
def uJ:å:=(fB (I à (ae ah 3 (dU (Y 0) (I iy (Y 6) (X 35)) (X 4))) (X 0)))
def AG:cz:=(jw (fu 0 gD 1 (fg 3) (bF (ay (Y 4)) iA)))
def uK:å:=(Ċ (fB (I ď (df 1 aO (Y 2)) (df 0 dL (Y 3)))) (cx (fB (ae ib 1 (ao (df 1 aO (Y 2)))))))
def p9:cz:=(Ķ (fK uJ) (c8 AG (jw (fu 1 cL 1 (fg 2) (bF (ay (Y 4)) iA)))) vM)
def qc:cz:=(Ķ (fK uI) (c8 AF (c8 AE (Ķ (fK AD) (nO (ay (fC (.bl D)))) vM))) vM)
def uL:cz:=(Ķ (fK AC) (nO (ay (fC (.bl D)))) vM)
def AH:cz:=(Ķ (uB (ul ď (fu 1 i7 3 (fg 2) (bF (ay (Y 7)) (bF (ay (Y 8)) (bF (ay (Y 4)) iA)))) (fu 0 gC 3 (fg 3) (bF (ay (Y 7)) (bF (ay (Y 8)) (bF (ay (Y 4)) iA)))))) (nO (ay (fC (.bl D)))) vM)
def AI:cz:=(lX 8 (ay (ae gc 1 (ao (ae eV 3 (dU (Y 0) (I iy (Y 6) (X 12)) (I Ì (Y 7) (X 1))))))))
def AJ:cz:=(lX 7 (ay (ae jq 2 (bJ (Y 0) (I iy (Y 6) (X 2))))))
def AK:cz:=(lX 4 (ay (I iy (Y 4) (ae ah 3 (dU (Y 0) (Y 6) (X 4))))))
def vQ:cz:=(lX 6 (ay (I iy (X 20) (I mD (X 40) (Y 5)))))
def nq:cz:=(c8 vQ (c8 AK (c8 AJ (c8 AI (c8 AH (c8 uL (c8 qc (c8 p9 (Ķ (fK uK) (nO (ay (fC (.bl D)))) vM)))))))))
def AM:å:=(fB (I ď (Ý ug (ao (cf [] (dO (df 1 aO (Y 2))) U (ae el 1 (ao (Y 0)))))) (Ý ug (ao (cf [] (dO (Y 10)) U (ae el 1 (ao (Y 0))))))))
def AN:å:=(fB (I ď (cf [] (dO (df 1 aO (Y 2))) (Z (fB (I nI (I Ì (Y 0) (X 5)) (fC .non)))) (Y 0)) (ju eZ)))
def qd:cz:=(lX 11 (ay (Ý fA (ao (df 1 aO (Y 2))))))
def qe:cz:=(Ķ (fK AN) (nO (ay (fC (.bl D)))) vM)
def qf:cz:=(jw (fu 1 cL 1 (fg 2) (bF (ay (X 9999)) iA)))
def qg:cz:=(Ķ (fK AM) (nO (ay (fC (.bl D)))) vM)
def qh:cz:=(Ķ (uB (lG ď (fu 1 dI 1 (fg 2) (bF (ay (Y 10)) iA)) (Ý fA (ao (Y 10))))) (nO (ay (fC (.bl D)))) vM)
def qi:cz:=(lX 10 (ay (df 1 aO (Y 2))))
def vR:cz:=(w6 5 [5,6,7,8,9] (iU1 (ao (I iy (X 2) (ae ah 3 (dU (Y 0) (X 15) (X 6)))))) nq)
def vS:cz:=(lX 4 (ay (X 0)))
def vT:cz:=(lX 3 (rZ 0 bS 3 (bF (ay (Y 1)) (bF (ay (X 20)) (bF (ay (X 20)) iA)))))
def vU:cz:=(lX 2 (rZ 1 cp 1 (bF (ay (Y 1)) iA)))
def vV:cz:=(lX 1 (ay (ae eW 2 (bJ (Y 0) (X 0)))))
def xm:cz:=(c8 vV (c8 vU (c8 vT (c8 vS (c8 vR (c8 qi (c8 qh (c8 qg (c8 qf (c8 qe (c8 qd (nO (Ix (lG à (fu 1 cL 1 (fg 2) (bF (ay (X 9999)) iA)) (X 0)) (Ix (ay (I à (Ý fA (ao (df 1 aO (Y 2)))) (Y 11))) (lG à (fu 1 dI 1 (fg 2) (bF (ay (iC eZ)) iA)) (Y 11))))))))))))))))
def xn:Ó:=OZ 12 xm
theorem Np{a:UP}(A:ı K "law" "law" (Î 150) f a)(t:HA P w K mg base T79)(e:œ P w K mg base 0 Ca Sb)(d:œ P w K mg base 1 Cb R9)(c:Ė P w K mg base 0 Ca Sd)(b:Ė P w K mg base 1 Cb Sa)(h:Iw P w K mg base 0 Ca 7 3 bS)(g:Iw P w K mg base 1 Cb 7 1 cp):î P w K mg base Ē 13 f a ["_law_script"] (Ĵ K xn 1):=MR ["_law_script","_law_table_here","_law_desk","_law_keeper","_law_now","_law_k","_law_here","_law_ask_here","_law_text_here","_law_house","_law_before","_law_left"] ["_law_script"] xm (by lk) (by lk) A (Mq (by lk)) (by delta xm AC uI AD AE AF uJ AG uK p9 qc uL AH AI AJ AK vQ nq AM AN qd qe qf qg qh qi vR vS vT vU vV;fin2)
end
def af{K:d_}{x:Str}{b:UH}(f:O)(m:String:="law_notejar_k73_whole_desks")(t:Nat:=1238)(c:Nat:=Nat.pred f)(a:nsM K x=Z (Z (.ref f)):=by lk)(l:K.lookup f=Z ⟨l_ "function",U,.func (VJ x x (hU b) (cr b) (aH b) .none .none .none (kS m t) U (kR c) .none),#[]⟩:=by lk)(d:X6 K (kR c) x=L:=by lk)(k:Vl K (.ref f)=L:=by lk):Af K x b f:=⟨a,⟨_,Es l d k⟩,k⟩
def amf{K:d_}{x q:Str}{a:UH}(f:O)(m:String)(t c:Nat)(l:K.lookup f=Z ⟨l_ "function",U,.func (VJ x q (hU a) (cr a) (aH a) .none .none .none (kS m t) U (kR c) .none),#[]⟩:=by lk)(d:X6 K (kR c) q=L:=by lk)(k:Vl K (.ref f)=L:=by lk):∃b,ı K x q a f b:=⟨_,Es l d k⟩
def am{K:d_}{C:O}{x q:Str}{b:UH}{f:O}(e:∃c,ı K x q b f c)(a:UZ K (.ref C) x=Z (Z (.ref f)):=by lk)(i:ZY K (.ref f)=L:=by lk)(k:Vl K (.ref f)=L:=by lk):Am K C q x b f:=⟨⟨a,i,k⟩,e⟩
def all_mk{l:aag}{w:y_}{K:d_}{h:O_}{f:Str->Option R}{fa:O}(X:K.In h)(G:h.Ns R_ f)(e1:f "law"=Z (.ref fa)){f1 I f3 f4 f5 f6 f7 f8 f9 q2 q1 q0 p7 p6 p5 p4 p3 p2 p1 o5 o4 o3 o2 o1 o0 n9 n8 n7 n6 n5 n4 n3 n2 n1 n0 m8 m6 m4 m3 m2 m1 m0 l9 l6 l5 l4 l3 l2 l1 l0 k5 k4 k3 k2 k1 k0 j4 j3 j2 j1 j0 i8 i3 i1 h9 h8 h7 h6 h5 h4 h3 h2 h1 h0 g0 f0 e9 e8 e7 fl:O}(A1:Af K "is_text_of" (Î 11) f1)(A2:Af K "is_label" (Î 20) I)(A3:Af K "is_name" (Î 21) f3)(A4:Af K "is_rule" (Î 22) f4)(A5:Af K "is_table" (Î 23) f5)(A6:Af K "need_table" (Î 25) f6)(A7:Af K "lies_within" (Î 26) f7)(A8:Af K "key" (Î 96) f8)(A9:Af K "has_no_key_twice" (Î 104) f9)(D3:Af K "is_by_made" (Î 103) q2)(D2:Af K "is_whole_number" (Î 12) q1)(D1:Af K "is_moment" (Î 46) q0)(D0:Af K "is_moment_or_none" (Î 47) p7)(C6:Af K "is_note_name" (Î 67) p6)(B4:Af K "is_path" (Î 35) p5)(B3:Af K "is_reach" (Î 69) p4)(B2:Af K "is_tuple_of" (Î 13) p3)(B1:Af K "is_worth" (Î 68) p2)(z9:Af K "is_note" (Î 91) p1)(z8:Af K "is_jar" (Î 102) o5)(z7:Af K "need_jar" (Î 105) o4)(z6:Af K "need_name" (Î 24) o3)(z5:Af K "forgotten" (Î 109) o2)(z2:Af K "need_no_more_than_a_jar_has" (Î 106) o1)(z1:Af K "is_ask" (Î 49) o0)(y9:Af K "need_ask" (Î 50) n9)(y8:Af K "need_moment" (Î 48) n8)(y7:Af K "is_written_moment" (Î 72) n7)(y6:Af K "what_is_told" (Î 73) n6)(y5:Af K "read_given" (Î 74) n5)(y4:Af K "read_what_is_given" (Î 111) n4)(y3:Af K "end_for" (Î 94) n3)(y2:Af K "house_for" (Î 92) n2)(y1:Af K "behind_first_dot" (Î 28) n1)(y0:Af K "ends_longest_first" (Î 27) n0)(x9:Af K "is_told_open" (Î 29) m8)(x8:Af K "find_open_end" (Î 30) m6)(x7:Af K "is_open" (Î 87) m4)(x6:Af K "is_exact" (Î 88) m3)(x5:Af K "is_given" (Î 70) m2)(x4:Af K "need_given" (Î 71) m1)(x2:Af K "need_path" (Î 36) m0)(x1:Af K "folder" (Î 37) l9)(x0:Af K "path_for" (Î 93) l6)(w7:Af K "find_own_end" (Î 31) l5)(w3:Af K "comes_from_near" (Î 51) l4)(w2:Af K "keeps_its_mark" (Î 89) l3)(w1:Af K "why_refused" (Î 90) l2)(w0:Af K "made" (Î 95) l1)(v9:Af K "put" (Î 110) l0)(v6:Af K "has_ended" (Î 97) k5)(v5:Af K "without_ended" (Î 108) k4)(v3:Af K "lies_under" (Î 38) k3)(v2:Af K "shadows" (Î 114) k2)(v1:Af K "word_of" (Î 113) k1)(v0:Af K "take_in" (Î 116) k0)(u7:Af K "taken" (Î 115) j4)(u6:Af K "verdict" (Î 112) j3)(u2:Af K "when_last" (Î 126) j2)(u1:Af K "later_of" (Î 125) j1)(s9:Af K "place_of" (Î 124) j0)(s8:Af K "merged" (Î 123) i8)(s7:Af K "swept" (Î 107) i3)(s6:Af K "need_room" (Î 131) i1)(s5:Af K "group_of" (Î 132) h9)(s4:Af K "rank" (Î 135) h8)(s3:Af K "too_many" (Î 134) h7)(s2:Af K "without" (Î 136) h6)(s1:Af K "fit" (Î 133) h5)(s0:Af K "_law_cell" (Î 140) h4)(r8:Af K "_law_drawn" (Î 141) h3)(r7:Af K "_law_name" (Î 142) h2)(r6:Af K "_law_path" (Î 144) h1)(r5:Af K "_law_ask" (Î 145) h0)(r4:Af K "_law_given" (Î 147) g0)(r3:Af K "_law_key" (Î 149) f0)(r2:Af K "_law_table" (Î 143) e9)(r1:Af K "_law_text" (Î 148) e8)(r0:Af K "_law_within" (Î 146) e7){g d g1 g2 g3 g4 g5 g6 g7 g8 g9 e6 e5 e4 e3 e2:O}(b:CK K 0 g)(a:CK K 1 d)(G1:∃i,ı K "__init__" "Desk.__init__" (bf (Î 128) 0) g1 i)(d9:Mk K d g1)(G2:Am K d "Desk.do_step" "do_step" (bf (Î 128) 2) g2)(G3:Am K d "Desk.do_and_count" "do_and_count" (bf (Î 128) 6) g3)(G4:Am K d "Desk.forget" "forget" (bf (Î 128) 5) g4)(G5:Am K d "Desk.give" "give" (bf (Î 128) 3) g5)(G6:Am K d "Desk.merge" "merge" (bf (Î 128) 7) g6)(G7:Am K d "Desk.notes" "notes" (bf (Î 128) 1) g7)(G8:Am K d "Desk.sweep" "sweep" (bf (Î 128) 4) g8)(G9:∃i,ı K "__init__" "Keeper.__init__" (bf (Î 138) 0) g9 i)(e0:Mk K g g9)(q7:Am K g "Keeper.forget" "forget" (bf (Î 138) 7) e6)(q6:Am K g "Keeper.need_no_earlier" "need_no_earlier" (bf (Î 138) 3) e5)(q5:Am K g "Keeper.hear" "hear" (bf (Î 138) 4) e4)(q4:Am K g "Keeper.notes" "notes" (bf (Î 138) 1) e3)(q3:Am K g "Keeper.step" "step" (bf (Î 138) 6) e2)(AL:Af K "law" (Î 150) fl)(ma:CC.all (Qq K)=L):∃i:UP,(∀(s:ge)(v:R),abH s i ⟨[v],[]⟩ [("_law_script",v)])/\∀c:O_,K.In c->c.Ns R_ f->î l.prog w K f c Ē 13 fa i ["_law_script"] (Ĵ K xn 1):=by
 have e:=e1.symm.trans (Yz X G AL.a);cases e;have M:=Mn X G CC ma;obtain⟨i,Fn⟩:=AL.F;refine⟨i,?_,λc _ _=>?_⟩;·obtain⟨oc,od,kV,D9,pm,an,E1,ct,D4,rfl,lk,D5⟩:=Fn.ex;exactλs v=>.of_eq rfl
 have t0:HA l.prog w K f c T0:=Mm;have f':œ l.prog w K f c 0 g QN:=Ap;have d':œ l.prog w K f c 1 d QO:=Ap;have b':Ė l.prog w K f c 0 g QP:=An;have B:Ė l.prog w K f c 1 d QQ:=An;have t1:=pO X G M b a A1 t0;have t2:=uq X G M b a A2 t1;have t3:=w8 X G M b a A3 t2;have t4:=w9 X G M b a A4 t3;have t5:=ur X G M b a A5 t4;have t6:=pP X G M b a A6 t5;have g':=k8 X G M b a G1 d9 t6;have A:=lH X G M b a G2 B;have z:=iR X G M b a G3 A;have t7:=nQ X G M b a A7 t6;have t8:=Nm X G M b a A8 t7;have t9:=jM X G M b a A9 t8;have d8:=pQ X G M b a D3 t9;have d7:=kj X G M b a D2 d8;have d6:=sf X G M b a D1 d7;have d4:=jx X G M b a D0 d6;have d3:=mV X G M b a C6 d4;have d2:=xa X G M b a B4 d3;have d1:=ut X G M b a B3 d2;have d0:=nR X G M b a B2 d1;have c6:=uu X G M b a B1 d0;have c5:=xb X G M b a z9 c6;have c4:=Av X G M b a z8 c5;have c3:=uv X G M b a z7 c4;have c2:=sh X G M b a z6 c3;have p:=si X G M b a z5 c2;have y:=mX X G M b a G4 p z;have c1:=eP X G M b a z2 p;have c0:=Aw X G M b a z1 c1;have b9:=uw X G M b a y9 c0;have b8:=nS X G M b a y8 b9;have b7:=jy X G M b a y7 b8;have b6:=mY X G M b a y6 b7;have b5:=pR X G M b a y5 b6;have b4:=iT X G M b a y4 b5;have b3:=xc X G M b a y3 b4;have b2:=sj X G M b a y2 b3;have b1:=jN X G M b a y1 b2;have b0:=iW X G M b a y0 b1;have a9:=mZ X G M b a x9 b0;have a8:=lI X G M b a x8 a9;have a7:=xf X G M b a x7 a8;have a6:=ux X G M b a x6 a7;have a5:=uy X G M b a x5 a6;have a4:=pS X G M b a x4 a5;have a3:=sk X G M b a x2 a4;have a2:=Ax X G M b a x1 a3;have a1:=uz X G M b a x0 a2;have a0:=m7 X G M b a w7 a1;have U':=kr X G M b a w3 a0;have S':=lf X G M b a w2 U';have R':=nU X G M b a w1 S';have Q':=IE X G M b a w0 R';have O':=Nn X G M b a v9 Q';have I':=sn X G M b a v6 O';have H':=lJ X G M b a v5 I';have E':=pV X G M b a v3 H';have D':=xg X G M b a v2 E';have C':=xh X G M b a v1 D';have B':=xi X G M b a v0 C';have A':=DI X G M b a u7 B';have o:=xj X G M b a u6 A';have u:=pW X G M b a G5 o y;have z':=sr X G M b a u2 o;have y':=uC X G M b a u1 z';have x':=uD X G M b a s9 y';have n:=Ay X G M b a s8 x';have r:=nV X G M b a G6 n u;have c':=pY X G M b a G7 d';have m:=DJ X G M b a s7 n;have q:=nW X G M b a G8 m r;have k:=su X G M b a s6 m;have h':=jQ X G M b a G9 e0 k;have a':=lh X G M b a q7 k b';have P:=gf X G M b a q6 a';have w':=uE X G M b a s5 k;have v':=IF X G M b a s4 w';have u':=uF X G M b a s3 v';have t':=xl X G M b a s2 u';have j:=No X G M b a s1 t';have H:=ni X G M b a q5 j P;have e':=nj X G M b a q4 f';have E:=np X G M b a q3 j H;have s':=sx X G M b a s0 j;have r':=pZ X G M b a r8 s';have q':=sy X G M b a r7 r';have p':=sE X G M b a r6 q';have o':=uG X G M b a r5 p';have n':=p0 X G M b a r4 o';have m':=uH X G M b a r3 n';have l':=p8 X G M b a r2 m';have k':=sI X G M b a r1 l';have i':=nX X G M b a r0 k';exact Np X G M b a Fn i' e' c' E q h' g'
end G
set_option maxHeartbeats 4000000
namespace FD
open PySem.StrLaws PySem.Builtin PySem.Builtin.Str
def J(S:List Nat):List Nat->List (List Nat)->List Nat|p,[]=>p|p,q::r=>p++(S++J S q r)
def ş:At c m c.length b↔b+m.length<=c.length/\(c.cps.toList.drop b).take m.length=m.cps.toList:=by unfold At;rw[subAt_eq];simp
def AO{a:List Nat}(e:m.cps.toList=b::a){k:Nat}(h:At c m c.length k):c.cps.toList[k]?=Z b:=by
 obtain⟨_,f⟩:=ş.mp h;rw[e]at f;have d:=congrArg (λl=>l[0]?) f;simp only[List.getElem?_cons_zero]at d;have g:0<m.length:=by show 0<m.cps.size;rw[<-UG,e];simp
 rw[Zy g,Y9]at d;simpa using d
def IG{d:List Nat}(n:m.cps.toList=b::d){p g:List Nat}{a k:Nat}(j:c.cps.toList.drop a=p++g)(i:b∉p)(q:a<=k)(o:k<a+p.length):¬At c m c.length k:=by
 intro h;have e:=AO n h;have f:(c.cps.toList.drop a)[k-a]?=Z b:=by rw[Y9,show a+(k-a)=k by omega];exact e
 rw[j,M_ (by omega)]at f;exact i (S_ f)
def vW{x b:Str}{c:Nat}{w:List Nat}(A:b.cps.toList=c::w):∀(g:List (List Nat))(p:List Nat)(a:Nat)(d:List Nat)(f:Nat),(∀q∈p::g,c∉q)->x.cps.toList.drop a=J b.cps.toList p g->a<=x.length->ChainG x b x.length a d f->(∀k,f<=k->¬At x b x.length k)->(partsFrom x b.length a d).map (λs=>s.cps.toList)=p::g
 |[],p,a,d,f,y,o,ha,u,E=>by
  have i:x.cps.toList.length=x.length:=by simp[Y2]
  have H:∀k,a<=k->¬At x b x.length k:=λk hk h=>by
   have e:=AO A h;have e2:(x.cps.toList.drop a)[k-a]?=Z c:=by rw[Y9,show a+(k-a)=k by omega];exact e
   rw[o]at e2;exact y p on (S_ e2)
  cases d with|nil=>
   show[(strSub x a x.length).cps.toList]=[p];rw[strSub_toList,o];show[p.take (x.length-a)]=[p];have:p.length=x.length-a:=by have:=congrArg YE o;rw[Yx,i]at this;exact this.symm
   rw[Yi (by omega)]|cons k B=>exact absurd u.2.1 (H k u.1)
 |q::r,p,a,d,f,y,o,ha,u,E=>by
  have i:x.cps.toList.length=x.length:=by simp[Y2]
  have j:b.cps.toList.length=b.length:=by simp[Y2]
  have n:x.cps.toList.drop a=p++(b.cps.toList++J b.cps.toList q r):=o;have m:x.cps.toList.drop (a+p.length)=b.cps.toList++J b.cps.toList q r:=by rw[<-List.drop_drop,n,List.drop_left]
  have P:=congrArg YE m;rw[Yx,i,Uw,j]at P;have b':0<b.length:=by rw[<-j,A];simp
  have v:At x b x.length (a+p.length):=ş.mpr ⟨by omega,by rw[m,<-j,List.take_left]⟩;have a':∀k,a<=k->k<a+p.length->¬At x b x.length k:=λk h1 h2=>IG A n (y p on) h1 h2;cases d with|nil=>exact absurd v (E _ (by have:f=a:=u;omega))|cons k B=>
   obtain⟨g1,g2,g3,g4⟩:=u;have ek:k=a+p.length:=by
    rcases Zl k (a+p.length)with h|h|h;·exact absurd g2 (a' k g1 h)
    ·exact h
    ·exact absurd v (g3 _ (by omega) h)
   subst ek;show(strSub x a (a+p.length)).cps.toList::(partsFrom x b.length (a+p.length+b.length) B).map (λs=>s.cps.toList)=p::q::r;rw[vW A r q (a+p.length+b.length) B f (λz hz=>y z (r_ _ hz)) (by rw[<-List.drop_drop,m,<-j,List.drop_left]) (by omega) g4 E,strSub_toList,n,show a+p.length-a=p.length by omega,List.take_left]
def AQ(h:c.cps.toList=m.cps.toList):c=m:=by obtain⟨⟨c⟩⟩:=c;obtain⟨⟨m⟩⟩:=m;simp at h;rw[h]
def jT:∀{l m:List Str},l.map (λs=>s.cps.toList)=m.map (λs=>s.cps.toList)->l=m|[],[],_=>rfl|a::l,b::m,h=>by simp only[F_,aal]at h;rw[AQ h.1,jT h.2]|[],_::_,h=>by simp at h|_::_,[],h=>by simp at h
def uM{g:List Nat}(v:m.cps.toList=b::g)(H:VY m=1){p:Str}{a:List Str}(o:∀q∈p::a,b∉q.cps.toList)(j:c.cps.toList=J m.cps.toList p.cps.toList (a.map λs=>s.cps.toList)):Wh c m=p::a:=by
 have e:m.cps.toList.length=m.length:=by simp[Y2]
 have i:c.cps.toList.length=c.length:=by simp[Y2]
 obtain⟨f,A,y⟩:=occ_tight c m (by rw[<-e,v];simp);have d:=vW v (a.map λs=>s.cps.toList) p.cps.toList 0 _ f (by
  intro q k;rcases v_.mp k with rfl|k;·exact o p on
  ·obtain⟨s,w,rfl⟩:=G_.mp k;exact o s (r_ _ w)) (by rw[aaR];exact j) (TN _) A y;have E:1<=VY c:=by unfold VY;split;omega;split<;>omega
 unfold Wh;split
 · rename_i u;rw[Bool.or_eq_true,decide_eq_true_eq,decide_eq_true_eq]at u;rcases u with h|h;·cases a with|nil=>rw[AQ (c:=c) (m:=p) j]|cons q r=>have:=congrArg YE j;rw[i]at this;simp only[F_,J,Uw,e]at this;omega
   ·omega
 · split;·rename_i z;have B:occurrences c m 0 c.length (c.length+1)=[]:=List.isEmpty_iff.mp z;rw[B]at d;have n:[(strSub c 0 c.length).cps.toList]=p.cps.toList::(a.map λs=>s.cps.toList):=d;rw[sub_whole]at n;exact jT (l:=[c]) (m:=p::a) n
   ·rw[partsBetween_eq];exact jT (by rw[d];rfl)
open L2
def vX{c:Ò}{d:Ev}{e:Type}(g:e->N)(f:e->N):∀{l:List e},(∀a∈l,c (d.set 0 (Z (g a)))=Z (.ok (f a)))->yx U c d (l.map g)=Z (l.map f)|[],_=>rfl|a::l,h=>by have i:=vX (c:=c) (d:=d) g f (l:=l) λb j=>h b (r_ _ j);rw[F_,F_];unfold yx;dsimp only;rw[h a on,i]
def sJ{d:å}{e:Ò}{c:Ev}{g:Type}(i:g->N)(p:g->Bool)(f:g->N):∀{l:List g},(∀a∈l,d (c.set 0 (Z (i a)))=Z (.ok (p a))/\e (c.set 0 (Z (i a)))=Z (.ok (f a)))->yx (Z d) e c (l.map i)=Z ((l.filter p).map f)|[],_=>rfl|a::l,h=>by have j:=sJ (d:=d) (e:=e) (c:=c) i p f (l:=l) λb k=>h b (r_ _ k);obtain⟨n,m⟩:=h a on;rw[F_];unfold yx;dsimp only;rw[n,j];cases q:p a with|true=>dsimp only;rw[m,WP q];rfl|false=>dsimp only;rw[VS (by rw[q];decide)]
def vY{c:Ò}{d:Ev}{g:Type}(e:g->N)(f:g->N):∀{l:List g},(∀a∈l,c (d.set 0 (Z (e a)))=Z (.ok (f a)))->kL (gN 0) U c d (l.map e)=Z (l.map f)|[],_=>rfl|a::l,h=>by have i:=vY (c:=c) (d:=d) e f (l:=l) λb j=>h b (r_ _ j);rw[F_,F_];unfold kL;show(match c (d.set 0 (Z (e a)))with|some (.ok y)=>_|_=>_)=_;rw[h a on,i]
def sK{d:å}{e:Ò}{c:Ev}{i:Type}(g:i->N)(p:i->Bool)(f:i->N):∀{l:List i},(∀a∈l,d (c.set 0 (Z (g a)))=Z (.ok (p a))/\e (c.set 0 (Z (g a)))=Z (.ok (f a)))->kL (gN 0) (Z d) e c (l.map g)=Z ((l.filter p).map f)|[],_=>rfl|a::l,h=>by have j:=sK (d:=d) (e:=e) (c:=c) g p f (l:=l) λb k=>h b (r_ _ k);obtain⟨n,m⟩:=h a on;rw[F_];unfold kL;show(match d (c.set 0 (Z (g a)))with|some (.ok L)=>_|some (.ok D)=>_|_=>_)=_;rw[n,j];cases q:p a with|true=>dsimp only;rw[m,WP q];rfl|false=>dsimp only;rw[VS (by rw[q];decide)]
def il{c:List (Str×Nat)}(b f:P->N){l:List P}(e:ξ ζ=Z (.ok (l.map b)))(d:l.length<=100000)(h:∀a∈l,B ((JJ c ζ).set 0 (Z (b a)))=Z (.ok (f a))):cf c ξ U B ζ=Z (.ok (.lst (l.map f))):=by unfold cf;rw[e];show(match yx U B (JJ c ζ) (l.map b)with|some g=>_|none=>_)=_;rw[vX b f h];dsimp only;rw[if_pos ⟨by simpa using d,by simpa using d⟩]
def gW{c:List (Str×Nat)}(b:P->N)(p:P->Bool)(f:P->N){l:List P}(d:ξ ζ=Z (.ok (l.map b)))(e:l.length<=100000)(h:∀a∈l,Ο ((JJ c ζ).set 0 (Z (b a)))=Z (.ok (p a))/\B ((JJ c ζ).set 0 (Z (b a)))=Z (.ok (f a))):cf c ξ (Z Ο) B ζ=Z (.ok (.lst ((l.filter p).map f))):=by unfold cf;rw[d];show(match yx (Z Ο) B (JJ c ζ) (l.map b)with|some g=>_|none=>_)=_;rw[sJ b p f h];dsimp only;have:=Vj p l;rw[if_pos ⟨by simp;omega,by simpa using e⟩]
def sL{c:List (Str×Nat)}(b f:P->N){l:List P}(e:ξ ζ=Z (.ok (l.map b)))(d:l.length<=100000)(h:∀a∈l,B ((iD 1 c ζ).set 0 (Z (b a)))=Z (.ok (f a))):cu 1 c ξ (gN 0) U B ζ=Z (.ok (.lst (l.map f))):=by unfold cu;rw[e];show(match kL (gN 0) U B (iD 1 c ζ) (l.map b)with|some g=>_|none=>_)=_;rw[vY b f h];dsimp only;rw[if_pos ⟨by simpa using d,by simpa using d⟩]
def oU{c:List (Str×Nat)}(b:P->N)(p:P->Bool)(f:P->N){l:List P}(d:ξ ζ=Z (.ok (l.map b)))(e:l.length<=100000)(h:∀a∈l,Ο ((iD 1 c ζ).set 0 (Z (b a)))=Z (.ok (p a))/\B ((iD 1 c ζ).set 0 (Z (b a)))=Z (.ok (f a))):cu 1 c ξ (gN 0) (Z Ο) B ζ=Z (.ok (.lst ((l.filter p).map f))):=by unfold cu;rw[d];show(match kL (gN 0) (Z Ο) B (iD 1 c ζ) (l.map b)with|some g=>_|none=>_)=_;rw[sK b p f h];dsimp only;have:=Vj p l;rw[if_pos ⟨by simp;omega,by simpa using e⟩]
def IH(h:-(2^62)<=p/\p<2^62/\-(2^62)<=Ε/\Ε<2^62):BH [.int p,.int Ε]=Z (.ok (rng p (Ε-p).toNat)):=by rw[BH,if_pos h]
def II(h:b<=1000):-(2^62)<=(1:Int)/\(1:Int)<2^62/\-(2^62)<=(b:Int)/\(b:Int)<2^62:=by omega
def Nq(h:b<=1000):BH [.int 1,.int (b:Int)]=Z (.ok (rng 1 ((b:Int)-1).toNat)):=IH (II h)
def nu{b:Type}(p:b->Bool):∀l:List b,j6 (l.map λa=>N.bl (p a))=Z (l.map p)|[]=>rfl|a::l=>by show(match j6 (l.map λa=>N.bl (p a))with|some bs=>Z (p a::bs)|none=>U)=_;rw[nu p l];rfl
mutual
def Ś:N->Bool|.exn _=>D|.obj _ _=>D|.tup a=>İ a|.lst a=>İ a|_=>L
def İ:List N->Bool|[]=>L|d::a=>Ś d&&İ a
end
mutual
theorem vZ:∀d:N,Ś d=L->UC (du d) (du d)=L
 |.non,_=>by simp[du,UC]|.bl b,_=>by simp[du,UC]|.int b,_=>by simp[du,UC]|.str b,_=>by simp[du,UC]|.tup a,h=>by simp only[du,UC];exact ę a (by simpa[Ś]using h)|.lst a,h=>by simp only[du,UC];exact ę a (by simpa[Ś]using h)|.scr c,_=>by simp only[du,UC];induction c with|nil=>simp[V5]|cons n c f=>simp[V5,UC];exact f rfl
 |.exn _,h=>by simp[Ś]at h|.obj _ _,h=>by simp[Ś]at h
theorem ę:∀a:List N,İ a=L->V5 (ä a) (ä a)=L
 |[],_=>by simp[ä,V5]|d::a,h=>by
  have e:Ś d=L/\İ a=L:=by simpa[İ]using h
  simp only[ä,V5,pi];exact⟨vZ d e.1,ę a e.2⟩end
def lC(a b:Str):Ş (.str a) (.str b)=Z (seq a b):=rfl
def v4(a:Str):Ş (.str a) .non=Z D:=rfl
def v7(a b:Int):Ş (.int a) (.int b)=Z (a==b):=rfl
def DK:∀d:N,Ş d d=Z L\/Ş d d=U|.non=>.inl rfl|.bl b=>.inl (by cases b<;>rfl)|.int i=>.inl (congrArg Z (by simp))|.str x=>.inl (congrArg Z (by unfold seq;simp))|.tup _=>.inr rfl|.lst _=>.inr rfl|.scr _=>.inr rfl|.exn _=>.inr rfl|.obj _ _=>.inr rfl
def AR(b:okP i=L)(a:Ś i=L):ď i i=Z (.ok (.bl D)):=by
 unfold ď;rcases DK i with e|e<;>rw[e];·rfl
 ·show(if(okP i&&okP i)=L then Z (Rs.ok (N.bl (!UC (du i) (du i))))else U)=_;rw[b,vZ i a];rfl
structure Ĝ(k:Nat)(d:N):Prop where
 c:Uh (du d)=L
 dp:(du d).depth<=k
 p:Ś d=L
def DM{k:Nat}:∀{ds:List N},(∀d∈ds,Ĝ k d)->Vz (ä ds)=L/\XC (ä ds)<=k/\İ ds=L|[],_=>by simp[ä,Vz,XC,İ]|d::ds,h=>by obtain⟨e,g,c⟩:=DM (ds:=ds) λf b=>h f (r_ _ b);have a:=h d on;simp only[ä,Vz,XC,İ,pi];exact⟨⟨a.c,e⟩,by have:=a.dp;omega,a.p,c⟩
def AS(h:∀d∈r,Ĝ b d):Ĝ (b+1) (.tup r):=by obtain⟨e,c,a⟩:=DM h;exact⟨by simpa[du,Uh]using e,by simp[du,X8];exact c,by simpa[Ś]using a⟩
def AT(h:∀d∈r,Ĝ b d):Ĝ (b+1) (.lst r):=by obtain⟨e,c,a⟩:=DM h;exact⟨by simpa[du,Uh]using e,by simp[du,X8];exact c,by simpa[Ś]using a⟩
def Ĝ.okP(h:Ĝ b i)(a:b<=64):okP i=L:=by unfold FD.okP SeqAt.shaped;rw[h.c];have:=h.dp;simp;omega
def Ĝ.le(h:Ĝ b i)(a:b<=o):Ĝ o i:=⟨h.c,TX h.dp a,h.p⟩
def kx(h:Uh (.str c)=L):Ĝ 0 (.str c):=⟨h,by simp[du,X8],rfl⟩
def v8:Ĝ 0 (.int p):=⟨rfl,by simp[du,X8],rfl⟩
def Nr:Ĝ 0 (.bl H):=⟨rfl,by simp[du,X8],rfl⟩
def Nt:Ĝ 0 .non:=⟨rfl,by simp[du,X8],rfl⟩
def sM{b:Type}(f:b->N):∀l:List b,ä (l.map f)=l.map λa=>du (f a)|[]=>rfl|a::l=>by simp[ä,sM f l]
def QZ{c:P->N}{l:List P}{p:P->Bool}(f:Ĝ 5 i)(u:kK i=D)(j:∀a∈l,Ĝ 5 (c a))(h:∀a∈l,UC (du (c a)) (du i)=p a):inX i (.lst (l.map c))=Z (.ok (.bl (l.any p)))/\lA i (.lst (l.map c))=Z (.ok (.bl (!l.any p)))/\inX i (.tup (l.map c))=Z (.ok (.bl (l.any p)))/\lA i (.tup (l.map c))=Z (.ok (.bl (!l.any p))):=by
 have e:Ź i (l.map c)=Z (l.any p):=by
  unfold Ź;have n:=f.okP (by omega);have m:=(DM (k:=5) (ds:=l.map c) (by intro d v;obtain⟨a,y,rfl⟩:=G_.mp v;exact j a y)).1;have k:uk ((du i).depth<=63)=L:=by have:=f.dp;simp;omega
  rw[n,m,k];simp only[Bool.and_self,if_true];rw[sM];congr 1;clear n m k j f;induction l with|nil=>rfl|cons a l s=>simp only[F_,Vw];rw[h a on,s λb w=>h b (r_ _ w)]
 have o:∀g,Ũ i g=U:=λg=>by unfold Ũ;rw[u];rfl
 have r:JK i (.lst (l.map c))=U:=by cases i<;>first|exact o _|rfl
 have q:JK i (.tup (l.map c))=U:=by cases i<;>first|exact o _|rfl
 refine⟨?_,?_,?_,?_⟩<;>simp[inX,lA,OT,r,q,e]
end FD
namespace G
open L2 FD
def lK(h:Υ (r.map Z++Ud (b-r.length) U)=Z (.rt i)):aS b Υ r=Z (.ok i):=by unfold aS;rw[h]
def Q0(h:Υ (r.map Z++Ud (b-r.length) U)=Z (.nx ζ)):aS b Υ r=Z (.ok .non):=by unfold aS;rw[h]
def cE(F:Ó){n:Nat}{g:Þ}{b:Ev}{a:List N}{d:N}(h:g b=Z (.ok a))(c:a.length=n)(e:F a=Z (.ok d)):ae F n g b=Z (.ok d):=by unfold ae;rw[h];show(if a.length=n then _ else _)=_;rw[if_pos c,e]
def IJ(a:List Int)(s:a.length<=63)(k:Int):∃c,db [.scr a,.int k]=Z (.ok (.int c)):=by cases a with|nil=>exact⟨7*k,by lk⟩|cons n r=>
 have v:0<(n::r).length:=by simp
 have b:(0:Int)<((n::r).length:Int):=by omega
 have p:((n::r).length:Int)<1073741824:=by omega
 have o:0<=k%((n::r).length:Int):=Wl _ (by omega);have u:k%((n::r).length:Int)<((n::r).length:Int):=VG _ b;have m:(k%((n::r).length:Int)).toNat<(n::r).length:=by omega
 refine⟨(n::r)[(k%((n::r).length:Int)).toNat]+6553*(k/((n::r).length:Int)),?_⟩;have f:Ă (n::r) (k%((n::r).length:Int))=Z (n::r)[(k%((n::r).length:Int)).toNat]:=by unfold Ă;rw[if_pos o,t_ m]
 have g:jW (.int k) (.int ((n::r).length:Int))=Z (.ok (.int (k%((n::r).length:Int)))):=by show(if 0<((n::r).length:Int)then _ else _)=_;rw[if_pos b]
 have j:jZ (.int k) (.int ((n::r).length:Int))=Z (.ok (.int (k/((n::r).length:Int)))):=by show(if 0<((n::r).length:Int)/\((n::r).length:Int)<1073741824 then _ else _)=_;rw[if_pos ⟨b,p⟩]
 have h:Ì (.scr (n::r)) (.int (k%((n::r).length:Int)))=Z (.ok (.int (n::r)[(k%((n::r).length:Int)).toNat])):=by show(match Ă (n::r) (k%((n::r).length:Int))with|some d=>_|none=>_)=_;rw[f]
 show(match fY [Z (.scr (n::r)),Z (.int k)]with|some (.nx _)=>_|some (.rt d)=>_|_=>_)=_;have e:fY [Z (.scr (n::r)),Z (.int k)]=cH (Ö (Ö (jW (.int k) (.int ((n::r).length:Int))) λi=>Ì (.scr (n::r)) i) λx=>Ö (Ö (jZ (.int k) (.int ((n::r).length:Int))) λq=>mD (.int 6553) q) λy=>cY x y) λd=>Z (.rt d):=by lk
 rw[e,g,j];show(match cH (Ö (Ì (.scr (n::r)) (.int (k%((n::r).length:Int)))) λx=>_) _ with|some (.nx _)=>_|some (.rt d)=>_|_=>_)=_;rw[h];lk
def N'(c k:Int):Int:=(c%2147483563*69069+104723*(k+1))%2147483563
def dr2(c:Int):Int:=(c*c+c/3)%2147483399
def dr3(c m:Int):Int:=(c*c+c/7)%2147483647/11%m
def wa(h:(-18446744073709551616<p/\p<18446744073709551616)\/(-18446744073709551616<Ε/\Ε<18446744073709551616)):mD (.int p) (.int Ε)=Z (.ok (.int (p*Ε))):=by show(if _ then _ else _)=_;rw[if_pos h]
def sN(h:0<Ε):jW (.int p) (.int Ε)=Z (.ok (.int (p%Ε))):=by show(if _ then _ else _)=_;rw[if_pos h]
def bC(a:List Int)(j:a.length<=63)(k m:Int)(g:0<m):∃d:Int,0<=d/\d<m/\ah [.scr a,.int k,.int m]=Z (.ok (.int d)):=by
 obtain⟨c,n⟩:=IJ a j k;refine⟨dr3 (dr2 (N' c k)) m,Wl _ (by omega),VG _ g,?_⟩;have v:0<=N' c k/\N' c k<2147483563:=⟨Wl _ (by omega),VG _ (by omega)⟩;have u:0<=dr2 (N' c k)/\dr2 (N' c k)<2147483399:=⟨Wl _ (by omega),VG _ (by omega)⟩;have w:0<=c%2147483563/\c%2147483563<2147483563:=⟨Wl _ (by omega),VG _ (by omega)⟩;show aS 4 dq [.scr a,.int k,.int m]=_;have i:(ae db 2 (bJ (Y 0) (Y 1))) [Z (.scr a),Z (.int k),Z (.int m),U]=Z (.ok (.int c)):=by show(match db [.scr a,.int k]with|some (.ok d)=>(Z (.ok d):Option (Rs N))|_=>U)=_;rw[n]
 have q:(ce 3 (I jW (I cY (I mD (I jW (ae db 2 (bJ (Y 0) (Y 1))) (X 2147483563)) (X 69069)) (I mD (X 104723) (I cY (Y 1) (X 1)))) (X 2147483563))) [Z (.scr a),Z (.int k),Z (.int m),U]=Z (.nx [Z (.scr a),Z (.int k),Z (.int m),Z (.int (N' c k))]):=by show cH (Ö (Ö (Ö (Ö ((ae db 2 (bJ (Y 0) (Y 1))) [Z (.scr a),Z (.int k),Z (.int m),U]) λx=>jW x (.int 2147483563)) λx=>mD x (.int 69069)) λx=>Ö (mD (.int 104723) (.int (k+1))) λy=>cY x y) λx=>jW x (.int 2147483563)) (λd=>Z (.nx [Z (.scr a),Z (.int k),Z (.int m),Z d]))=_;rw[i];show cH (Ö (Ö (Ö (jW (.int c) (.int 2147483563)) λx=>mD x (.int 69069)) λx=>Ö (mD (.int 104723) (.int (k+1))) λy=>cY x y) λx=>jW x (.int 2147483563)) _=_;rw[sN (by omega),wa (p:=104723) (.inl (by omega))];show cH (Ö (Ö (mD (.int (c%2147483563)) (.int 69069)) λx=>cY x (.int (104723*(k+1)))) λx=>jW x (.int 2147483563)) _=_;rw[wa (.inl (by omega))];show cH (jW (.int (c%2147483563*69069+104723*(k+1))) (.int 2147483563)) _=_;rw[sN (by omega)];rfl
 generalize s:N' c k=f at*;have p:(ce 3 (I jW (I cY (I mD (Y 3) (Y 3)) (I jZ (Y 3) (X 3))) (X 2147483399))) [Z (.scr a),Z (.int k),Z (.int m),Z (.int f)]=Z (.nx [Z (.scr a),Z (.int k),Z (.int m),Z (.int (dr2 f))]):=by show cH (Ö (Ö (mD (.int f) (.int f)) λx=>cY x (.int (f/3))) λx=>jW x (.int 2147483399)) (λd=>Z (.nx [Z (.scr a),Z (.int k),Z (.int m),Z d]))=_;rw[wa (.inl (by omega))];show cH (jW (.int (f*f+f/3)) (.int 2147483399)) _=_;rw[sN (by omega)];rfl
 generalize r:dr2 f=b at*;have o:(aI (I jW (I jZ (I jW (I cY (I mD (Y 3) (Y 3)) (I jZ (Y 3) (X 7))) (X 2147483647)) (X 11)) (Y 2))) [Z (.scr a),Z (.int k),Z (.int m),Z (.int b)]=Z (.rt (.int (dr3 b m))):=by show cH (Ö (Ö (Ö (Ö (mD (.int b) (.int b)) λx=>cY x (.int (b/7))) λx=>jW x (.int 2147483647)) λx=>jZ x (.int 11)) λx=>jW x (.int m)) (λd=>Z (.rt d))=_;rw[wa (.inl (by omega))];show cH (Ö (Ö (jW (.int (b*b+b/7)) (.int 2147483647)) λx=>jZ x (.int 11)) λx=>jW x (.int m)) _=_;rw[sN (by omega)];show cH (jW (.int ((b*b+b/7)%2147483647/11)) (.int m)) _=_;rw[sN g];rfl
 show(match dq [Z (.scr a),Z (.int k),Z (.int m),U]with|some (.nx _)=>_|some (.rt d)=>_|_=>_)=_;have e:dq [Z (.scr a),Z (.int k),Z (.int m),U]=Z (.rt (.int (dr3 b m))):=by show sq ((ce 3 _) _) (λh=>sq ((ce 3 _) h) _)=_;rw[q];show sq ((ce 3 _) [Z (.scr a),Z (.int k),Z (.int m),Z (.int f)]) _=_;rw[p];exact o
 rw[e]
def Ę:List Str:=[b_ "a.b",b_ "b",b_ "x.a.b",b_ "y.x.a.b",b_ "c.uk",b_ "uk",b_ "d.c.uk",b_ "e.d.c.uk",b_ "w.ck",b_ "v.w.ck",b_ "ck",b_ "g-1.a.b",b_ "7.b",b_ "p.q"]
def è:List N:=[.str "!w.ck",.str "*.ck",.str "*.uk",.str "a.b",.str "b",.str "c.uk",.str "q",.str "uk"]
def kz:List N->List (List N)|[]=>[[]]|x::r=>(kz r).map (x::·)++kz r
def okO(o:Option (Rs N)):Option (Rs N):=match o with|some (.ok d)=>Z (.ok d)|_=>U
def lD(b:0<=p)(c:p<r.length):∃x∈r,Ì (.lst r) (.int p)=Z (.ok x):=by
 have a:p.toNat<r.length:=by omega
 refine⟨r[p.toNat],Xo a,?_⟩;show(match Ă r p with|some p=>_|none=>_)=_;unfold Ă;rw[if_pos b,t_ a]
def drL(o:Option (Rs N))(l:List Str):Option (Rs N):=match cH (Ö (match o with|some (.ok d)=>(Z (.ok d):Option (Rs N))|_=>U) λi=>Ì (.lst (l.map N.str)) i) λd=>Z (.rt d)with|some (.nx _)=>Z (.ok .non)|some (.rt d)=>Z (.ok d)|_=>U
def Fj{o:Option (Rs N)}(g:0<=p)(f:p<u.length)(d:o=Z (.ok (.int p))):∃a∈u,drL o u=Z (.ok (.str a)):=by obtain⟨x,b,e⟩:=lD (r:=u.map N.str) g (by rw[N_];exact f);obtain⟨a,c,rfl⟩:=G_.1 b;subst d;refine⟨a,c,?_⟩;unfold drL Ö;dsimp only;rw[e];rfl
def qj(a:List Int)(b:a.length<=63)(k:Int):∃p∈Ę,aX [.scr a,.int k]=Z (.ok (.str p)):=by obtain⟨d,f,e,c⟩:=bC a b k 14 (by omega);rw[show aX [.scr a,.int k]=drL (ah [.scr a,.int k,.int 14]) Ę by lk];exact Fj f e c
def IK:å:=fB (I à (ae ah 3 (dU (Y 2) (I cY (Y 3) (Y 0)) (X 2))) (X 0))
def Fk(a:List Int)(f:a.length<=63)(z:Int):∀(l:List N)(k:Nat),∃t∈kz l,kL (gP 0 1) (Z IK) (Y 1) [U,U,Z (.scr a),Z (.int z)] (kN k l)=Z t
 |[],k=>⟨[],by simp[kz],rfl⟩|x::r,k=>by
  obtain⟨t,c,e⟩:=Fk a f z r (k+1);obtain⟨d,n,m,i⟩:=bC a f (z+k) 2 (by omega);have b:IK [Z (.int k),Z x,Z (.scr a),Z (.int z)]=Ö (Ö (okO (ah [.scr a,.int (z+k),.int 2])) λx=>à x (.int 0)) ā:=by lk
  have h:kL (gP 0 1) (Z IK) (Y 1) [U,U,Z (.scr a),Z (.int z)] (kN k (x::r))=(match IK [Z (.int k),Z x,Z (.scr a),Z (.int z)]with|some (.ok L)=>(match kL (gP 0 1) (Z IK) (Y 1) [U,U,Z (.scr a),Z (.int z)] (kN (k+1) r)with|some g=>Z (x::g)|none=>U)|some (.ok D)=>kL (gP 0 1) (Z IK) (Y 1) [U,U,Z (.scr a),Z (.int z)] (kN (k+1) r)|_=>U):=by lk
  rw[h,b,i,e];have j:d=0\/d=1:=by omega
  rcases j with rfl|rfl;·exact⟨x::t,by simp[kz,c],by lk⟩
  ·exact⟨t,by simp[kz,c],by lk⟩
def qk:∀{l t:List N},t∈kz l->t.length<=l.length
 |[],t,h=>by simp[kz]at h;simp[h]|x::r,t,h=>by
  simp only[kz,Ue,G_]at h;rcases h with⟨u,a,rfl⟩|h;·have:=qk a;simp;omega
  ·have:=qk h;simp;omega
def DN(a:List Int)(h:a.length<=63):∃t∈kz è,eW [.scr a,.int 0]=Z (.ok (.tup t)):=by
 obtain⟨t,f,e⟩:=Fk a h 0 è 0;refine⟨t,f,?_⟩;have c:t.length<=100000:=by have:=qk f;have:è.length=8:=rfl;omega
 have g:eW [.scr a,.int 0]=(match cH (Ö (Ö (match kL (gP 0 1) (Z IK) (Y 1) [U,U,Z (.scr a),Z (.int 0)] (kN 0 è)with|some b=>if b.length<=100000/\(kN 0 è).length<=100000 then(Z (.ok (.lst b)):Option (Rs N))else U|none=>U) λx=>Ö (Z (.ok [])) λb=>Z (.ok (x::b))) iw) λd=>Z (.rt d)with|some (.nx _)=>Z (.ok .non)|some (.rt d)=>Z (.ok d)|_=>U):=by lk
 rw[g,e];dsimp only;rw[if_pos ⟨c,by decide⟩];rfl
def ë:List Str:=[b_ "/",b_ "/x",b_ "/x/",b_ "/x/y",b_ "/xy",b_ "/x/y/z.q",b_ "//",b_ "/-_.9",b_ "/x/y/"]
def AU(a:List Int)(b:a.length<=63)(k:Int):∃p∈ë,dc [.scr a,.int k]=Z (.ok (.str p)):=by obtain⟨d,f,e,c⟩:=bC a b k 9 (by omega);rw[show dc [.scr a,.int k]=drL (ah [.scr a,.int k,.int 9]) ë by lk];exact Fj f e c
def ql(F:Ó){f g k:Ò}{e:Ev}{a b c d:N}(h:f e=Z (.ok a))(m:g e=Z (.ok b))(i:k e=Z (.ok c))(j:F [a,b,c]=Z (.ok d)):ae F 3 (dU f g k) e=Z (.ok d):=pE (ag h (ag m (ag i aq))) rfl j
def DO(a:List Int)(b:a.length<=63)(z:Int):∃s h p O,h∈Ę/\p∈ë/\(O=N.non\/∃o∈Ę,O=.str o)/\jq [.scr a,.int z]=Z (.ok (.tup [.bl s,.str h,.str p,O])):=by
 obtain⟨d,B,A,k⟩:=bC a b (z+2) 3 (by omega);obtain⟨o,n,c⟩:=qj a b (z+3);obtain⟨v,y,w,m⟩:=bC a b z 2 (by omega);obtain⟨h,r,i⟩:=qj a b (z+1);obtain⟨p,q,g⟩:=AU a b (z+4);have f:∃O,(O=N.non\/∃o∈Ę,O=.str o)/\Ì (.lst [.non,.str o,.str o]) (.int d)=Z (.ok O):=by
  have u:d=0\/d=1\/d=2:=by omega
  rcases u with rfl|rfl|rfl;·exact⟨.non,.inl rfl,rfl⟩
  ·exact⟨.str o,.inr ⟨o,n,rfl⟩,rfl⟩
  ·exact⟨.str o,.inr ⟨o,n,rfl⟩,rfl⟩
 obtain⟨O,f,j⟩:=f;refine⟨(v==0),h,p,O,r,q,f,fI ?_⟩;show gV [Z (.scr a),Z (.int z),U]=_;unfold gV;have e:I Ì (ju (dU (fC .non) (ae aX 2 (bJ (Y 0) (I cY (Y 1) (X 3)))) (ae aX 2 (bJ (Y 0) (I cY (Y 1) (X 3)))))) (ae ah 3 (dU (Y 0) (I cY (Y 1) (X 2)) (X 3))) [Z (.scr a),Z (.int z),U]=Z (.ok O):=by rw[bK (yJ (ag rfl (ag (dP aX rfl rfl c) (ag (dP aX rfl rfl c) aq))) (by show 3<=100000;decide)) (ql ah rfl rfl rfl k)];exact j
 rw[aw (a:=[Z (.scr a),Z (.int z),Z O]) (bA e rfl)];refine cA (tW (ag ?_ (ag (dP aX rfl rfl i) (ag (dP dc rfl rfl g) (ag rfl aq)))) (by show 4<=100000;decide));rw[bK (ql ah rfl rfl rfl m) rfl];rfl
abbrev bo(k:Bool):Option (Rs N):=Z (.ok (.bl k))
def En:List Str:=Ę++[b_ "q"]
def io(h:seq c m=L):c=m:=by unfold seq at h;obtain⟨⟨a⟩⟩:=c;obtain⟨⟨b⟩⟩:=m;simp at h;rw[h]
def cU{l:List P}{p:P->Bool}(n:Nat)(b:(l.take n).all p=L)(a:(l.drop n).all p=L):l.all p=L:=by rw[<-List.take_append_drop n l,List.all_append,b,a];rfl
def Q1(t:List N)(n:Str):Bool:=match cF [.tup t,.str n],bU [.tup t,.str n]with|some (.ok (.str _)),Z (.ok .non)=>L|some (.ok (.str _)),Z (.ok (.str z))=>Uh (.str z)|_,_=>D
def iG(t:List N):Bool:=En.all λn=>Q1 t n
def cO:Nat->List (List N)|0=>kz è|k+1=>(cO k).drop 16
def S7:((cO 0).take 16).all iG=L:=by lk
def S8:((cO 1).take 16).all iG=L:=by lk
def S9:((cO 2).take 16).all iG=L:=by lk
def Ta:((cO 3).take 16).all iG=L:=by lk
def Tc:((cO 4).take 16).all iG=L:=by lk
def Td:((cO 5).take 16).all iG=L:=by lk
def Te:((cO 6).take 16).all iG=L:=by lk
def Tf:((cO 7).take 16).all iG=L:=by lk
def Tg:((cO 8).take 16).all iG=L:=by lk
def Th:((cO 9).take 16).all iG=L:=by lk
def Q2:((cO 10).take 16).all iG=L:=by lk
def Q3:((cO 11).take 16).all iG=L:=by lk
def Q4:((cO 12).take 16).all iG=L:=by lk
def Q5:((cO 13).take 16).all iG=L:=by lk
def Q6:((cO 14).take 16).all iG=L:=by lk
def Q7:((cO 15).take 16).all iG=L:=by lk
def Nu:(kz è).all iG=L:=(cU (l:=cO 0) 16 S7 (cU (l:=cO 1) 16 S8 (cU (l:=cO 2) 16 S9 (cU (l:=cO 3) 16 Ta (cU (l:=cO 4) 16 Tc (cU (l:=cO 5) 16 Td (cU (l:=cO 6) 16 Te (cU (l:=cO 7) 16 Tf (cU (l:=cO 8) 16 Tg (cU (l:=cO 9) 16 Th (cU (l:=cO 10) 16 Q2 (cU (l:=cO 11) 16 Q3 (cU (l:=cO 12) 16 Q4 (cU (l:=cO 13) 16 Q5 (cU (l:=cO 14) 16 Q6 (cU (l:=cO 15) 16 Q7 (show(cO 16).all iG=L by lk)))))))))))))))))
def DP(c:r∈kz è){n:Str}(d:n∈En):∃m o,cF [.tup r,.str n]=Z (.ok (.str m))/\(o=N.non\/∃z,o=.str z)/\bU [.tup r,.str n]=Z (.ok o):=by
 have h:=aU (show(En.all λn=>Q1 r n)=L from aU Nu c) d;unfold Q1 at h;split at h;·rename_i m b a;exact⟨m,_,b,.inl rfl,a⟩
 ·rename_i m z b a;exact⟨m,_,b,.inr ⟨z,rfl⟩,a⟩
 ·cases h
def Ī:Option (Rs N)->Bool|some (.ok (.bl L))=>L|_=>D
def nv{o:Option (Rs N)}(h:Ī o=L):o=Z (.ok (.bl L)):=by
 unfold Ī at h;split at h;·rfl
 ·cases h
def Ř:Option (Rs N)->Bool|some (.ok (.bl _))=>L|_=>D
def AV{o:Option (Rs N)}(h:Ř o=L):∃k,o=bo k:=by
 unfold Ř at h;split at h;·exact⟨_,rfl⟩
 ·cases h
def okF:Option (Rs N)->Bool|some (.ok (.bl D))=>L|_=>D
def AW:((kz è).all λt=>Ī (bL [.tup t]))=L:=by lk
def jd(a:r∈kz è):bL [.tup r]=bo L:=nv (aU (p:=λr=>Ī (bL [.tup r])) AW a)
def Ĳ:List Str:=[b_ "n",b_ "safe-a",b_ "own-b",b_ "N_2",b_ "m-1",b_ "safe-",b_ "own"]
def Ĺ:List Str:=[b_ "5",b_ "",b_ "a!b~",b_ "x/y?z",b_ "123456789012",b_ "1"]
def Nv:(Ĳ.all λn=>Ī (aM [.str n]))=L:=by lk
def Nw:(Ĳ.all λn=>!(Ug n (b_ "safe-")&&Ug n (b_ "own-")))=L:=by lk
def Nx:(Ĺ.all λn=>Ī (bG [.str n]))=L:=by lk
def Ny:(En.all λn=>Ī (bw [.str n]))=L:=by lk
def Nz:(ë.all λn=>Ī (cC [.str n]))=L:=by lk
def NA:(En.all λp=>En.all λq=>Ř (aD [.str p,.str q]))=L:=by lk
def Q8(p:Str):Bool:=match lY [.str p]with|some (.ok (.str f))=>ë.any (λq=>seq q f)|_=>D
def NB:(ë.all Q8)=L:=by lk
def Se(h:c∈Ĳ):aM [.str c]=bo L:=nv (aU (p:=λc=>Ī (aM [.str c])) Nv h)
def Ti(h:c∈Ĳ):Ug c (b_ "safe-")=D\/Ug c (b_ "own-")=D:=by have:=aU (p:=λc=>!(Ug c (b_ "safe-")&&Ug c (b_ "own-"))) Nw h;simpa using this
def Sf(h:c∈Ĺ):bG [.str c]=bo L:=nv (aU (p:=λc=>Ī (bG [.str c])) Nx h)
def NC(h:c∈En):bw [.str c]=bo L:=nv (aU (p:=λc=>Ī (bw [.str c])) Ny h)
def Q9(h:c∈ë):cC [.str c]=bo L:=nv (aU (p:=λc=>Ī (cC [.str c])) Nz h)
def Sg(h:c∈En)(a:m∈En):∃k,aD [.str c,.str m]=bo k:=AV (aU (p:=λm=>Ř (aD [.str c,.str m])) (aU (p:=λc=>En.all λm=>Ř (aD [.str c,.str m])) NA h) a)
def Tj(h:c∈ë):∃f∈ë,lY [.str c]=Z (.ok (.str f)):=by
 have q:=aU (p:=Q8) NB h;unfold Q8 at q;split at q;·rename_i f b;obtain⟨y,a,d⟩:=WQ.mp q;have e:=io d;subst e;exact⟨y,a,b⟩
 ·cases q
def Ra(h:bL [i]=bo L):aT [i]=Z (.ok .non):=by simp[aT,aS,eJ,bg,cH,Ö,cx,fB,ā,ae,aR,eZ,Y,h]
def Rb(h:ie [i]=bo L):dh [i]=Z (.ok .non):=by simp[dh,aS,jn,bg,cH,Ö,cx,fB,ā,ae,aR,eZ,Y,h]
def Sh(h:gK [i]=bo L):di [i]=Z (.ok .non):=by simp[di,aS,gl,bg,cH,Ö,cx,fB,ā,ae,aR,eZ,Y,h]
def IL(h:ba [i]=bo L):bP [i]=Z (.ok .non):=by simp[bP,aS,fw,bg,cH,Ö,cx,fB,ā,ae,aR,eZ,Y,h]
def sO(b:0<=p)(a:p<=9999):ba [.int p]=bo L:=by
 have e:aL [.int p,.int 0,.int 9999]=bo L:=by simp[aL,aS,aY,aJ,sq,bg,aI,cH,Ö,Ċ,cx,fB,ā,Y,f1,I,kG,jX,fH,rn,į,b,a]
 simp[ba,aS,dX,aI,cH,Ö,ae,aR,eZ,Y,fC,e]
def Mo(u:N):Prop:=u=.non\/∃i:Int,0<=i/\i<=9999/\u=.int i
def AX(h:Mo i):az [i]=bo L:=by
 rcases h with rfl|⟨a,c,b,rfl⟩;·simp[az,aS,bh,aI,cH,Ö,ā,Y,fC,I,Ĩ,ċ]
 ·simp[az,aS,bh,aI,cH,Ö,ā,ae,aR,eZ,Y,fC,I,Ĩ,ċ,sO c b]
structure Ak(h p:Str)(O:N):Prop where
 h:h∈En
 p:p∈ë
 o:O=.non\/∃o∈Ę,O=.str o
def me(q:c∈Ę):c∈En:=TH _ q
abbrev ø(s:Bool)(h p:Str)(O:N):N:=.tup [.bl s,.str h,.str p,O]
def DQ(a:Ak c m i):ie [ø H c m i]=bo L:=by
 have e:bO [.tup [.bl H,.str c,.str m,i],.int 4]=bo L:=by lk
 have d:=NC (a.h);have b:=Q9 a.p;rcases a.o with rfl|⟨o,f,rfl⟩;·simp[ie,aS,ko,aJ,sq,bg,aI,cH,Ö,cx,fB,ā,ae,aR,eZ,Y,fC,f1,I,Ì,Ă,Ĩ,ju,Ý,ċ,jX,fH,e,d,b,pB,j6]
 ·have g:=NC (me f);simp[ie,aS,ko,aJ,sq,bg,aI,cH,Ö,cx,fB,ā,ae,aR,eZ,Y,fC,f1,I,Ì,Ă,Ĩ,ju,Ý,ċ,jX,fH,e,d,b,g,pB,j6]
def ND(c:r∈kz è){h p:Str}{O:N}(a:Ak h p O):∃k,∀s,aQ [.tup r,ø s h p O]=bo k:=by
 rcases a.o with rfl|⟨o,g,rfl⟩;·exact⟨L,λs=>by simp[aQ,aS,aZ,aJ,sq,bg,aI,ce,cH,Ö,Ċ,fB,ā,Y,fC,I,Ì,Ă,ċ]⟩
 ·obtain⟨v,n,_,j,b⟩:=DP c (a.h);obtain⟨u,m,_,i,d⟩:=DP c (me g);cases q:seq o h with|true=>exact⟨L,λs=>by simp[aQ,aS,aZ,aJ,sq,bg,aI,ce,cH,Ö,Ċ,fB,ā,Y,fC,I,Ì,Ă,ċ,à,lC,v4,q]⟩|false=>
 rcases j with rfl|⟨f,rfl⟩;·exact⟨D,λs=>by simp[aQ,aS,aZ,aJ,sq,bg,aI,ce,cH,Ö,Ċ,fB,ā,ae,aR,eZ,Y,fC,I,Ì,Ă,kG,ċ,nI,à,lC,v4,q,b]⟩
 · rcases i with rfl|⟨e,rfl⟩;·exact⟨D,λs=>by simp[aQ,aS,aZ,aJ,sq,bg,aI,ce,cH,Ö,Ċ,fB,ā,ae,aR,eZ,Y,fC,I,Ì,Ă,kG,ċ,nI,à,lC,v4,q,b,d]⟩
   ·exact⟨seq f e,λs=>by simp[aQ,aS,aZ,aJ,sq,bg,aI,ce,cH,Ö,Ċ,fB,ā,ae,aR,eZ,Y,fC,I,Ì,Ă,kG,ċ,nI,à,lC,v4,q,b,d]⟩
structure Gv(nm w:Str)(H P u l:N)(S:Bool)(R:Str):Prop where
 nm:nm∈Ĳ
 w:w∈Ĺ
 hh:H=.non\/∃n∈En,H=.str n
 pp:P=.non\/∃p∈ë,P=.str p
 u:u=.non\/∃i:Int,0<=i/\i<60/\u=.int i
 l:l=.non\/∃i:Int,0<=i/\i<30/\l=.int i
 r:R=b_ "any"\/R=b_ "near"
abbrev ć(a w:Str)(H P u l:N)(S:Bool)(R:Str):N:=.tup [.str a,.str w,H,P,u,l,.bl S,.str R]
def JX:Option (Rs N)->Bool|some (.ok (.str z))=>En.any λq=>seq q z|_=>D
def AY{o:Option (Rs N)}(h:JX o=L):∃n∈En,o=Z (.ok (.str n)):=by
 unfold JX at h;split at h;·rename_i z;obtain⟨y,a,b⟩:=WQ.mp h;have e:=io b;subst e;exact⟨y,a,rfl⟩
 ·cases h
def DR:Ò:=(I Ì (fM (iu) (Y 2) (ao (Ï "."))) (f1 Lc (X 1)))
def DS:Ò:=(ķ (fB (I ŏ (Ï ".") (Y 2))) (xB (Y 2) (dr (I cY (fM LI (Y 2) (ao (Ï "."))) (X 1))) gp) (Y 2))
def DT:(Ę.all λh=>JX (DR [U,U,Z (.str h)]))=L:=by lk
def DU:(Ę.all λh=>JX (DS [U,U,Z (.str h)]))=L:=by lk
def NE(q:c∈Ę){a b:Option N}{r:Ev}:∃n∈En,DR (a::b::Z (.str c)::r)=Z (.ok (.str n)):=AY (aU (p:=λc=>JX (DR [U,U,Z (.str c)])) DT q)
def NF(q:c∈Ę){a b:Option N}{r:Ev}:∃n∈En,DS (a::b::Z (.str c)::r)=Z (.ok (.str n)):=AY (aU (p:=λc=>JX (DS [U,U,Z (.str c)])) DU q)
def DV(b:List Int)(c:b.length<=63)(z:Int){h:Str}(p:h∈Ę):∃d w H P u l S R,Gv d w H P u l S R/\eV [.scr b,.int z,.str h]=Z (.ok (ć d w H P u l S R)):=by
 obtain⟨d0,a0,b0,e0⟩:=bC b c z 7 (by omega);obtain⟨d1,a1,b1,e1⟩:=bC b c (z+1) 5 (by omega);obtain⟨d2,a2,b2,e2⟩:=bC b c (z+2) 6 (by omega);obtain⟨d4,a4,b4,e4⟩:=bC b c (z+4) 3 (by omega);obtain⟨d6,a6,b6,e6⟩:=bC b c (z+6) 3 (by omega);obtain⟨d7,a7,b7,e7⟩:=bC b c (z+7) 60 (by omega);obtain⟨d8,a8,b8,e8⟩:=bC b c (z+8) 3 (by omega);obtain⟨d9,a9,b9,e9⟩:=bC b c (z+9) 30 (by omega);obtain⟨a',f',e',E⟩:=bC b c (z+10) 2 (by omega);obtain⟨d',c',b',B⟩:=bC b c (z+11) 2 (by omega);obtain⟨n3,y,e3⟩:=qj b c (z+3);obtain⟨p5,s,e5⟩:=AU b c (z+5);obtain⟨o,m0,i0⟩:=lD (r:=[.str "n",.str "safe-a",.str "own-b",.str "N_2",.str "m-1",.str "safe-",.str "n"]) a0 b0;obtain⟨m,m1,i1⟩:=lD (r:=[.str "5",.str "",.str "a!b~",.str "x/y?z",.str "123456789012"]) a1 b1;obtain⟨a,hL,eL⟩:=NE p (a:=Z (.scr b)) (b:=Z (.int z)) (r:=[Z o,Z m,U,U,U,U,U,U]);obtain⟨TL,hT,eT⟩:=NF p (a:=Z (.scr b)) (b:=Z (.int z)) (r:=[Z o,Z m,U,U,U,U,U,U]);obtain⟨k,m2,i2⟩:=lD (r:=[.non,.non,.str h,.str a,.str n3,.str TL]) a2 b2;obtain⟨j,m4,i4⟩:=lD (r:=[.non,.str "/",.str p5]) a4 b4;obtain⟨g,m6,i6⟩:=lD (r:=[.non,.non,.int d7]) a6 b6;obtain⟨f,m8,i8⟩:=lD (r:=[.non,.non,.int d9]) a8 b8;obtain⟨q,e,r⟩:=lD (r:=[.str "any",.str "near"]) c' b';have g0:∃d∈Ĳ,o=.str d:=by simp only[v_,TD,or_false]at m0;rcases m0 with rfl|rfl|rfl|rfl|rfl|rfl|rfl<;>exact⟨_,by simp[Ĳ],rfl⟩
 have g1:∃d∈Ĺ,m=.str d:=by simp only[v_,TD,or_false]at m1;rcases m1 with rfl|rfl|rfl|rfl|rfl<;>exact⟨_,by simp[Ĺ],rfl⟩
 have g2:k=.non\/∃n∈En,k=.str n:=by
  simp only[v_,TD,or_false]at m2;rcases m2 with rfl|rfl|rfl|rfl|rfl|rfl;·exact .inl rfl
  ·exact .inl rfl
  ·exact .inr ⟨_,me p,rfl⟩
  ·exact .inr ⟨_,hL,rfl⟩
  ·exact .inr ⟨_,me y,rfl⟩
  ·exact .inr ⟨_,hT,rfl⟩
 have g4:j=.non\/∃n∈ë,j=.str n:=by
  simp only[v_,TD,or_false]at m4;rcases m4 with rfl|rfl|rfl;·exact .inl rfl
  ·exact .inr ⟨_,by simp[ë],rfl⟩
  ·exact .inr ⟨_,s,rfl⟩
 have g6:g=.non\/∃i:Int,0<=i/\i<60/\g=.int i:=by
  simp only[v_,TD,or_false]at m6;rcases m6 with rfl|rfl|rfl;·exact .inl rfl
  ·exact .inl rfl
  ·exact .inr ⟨_,a7,b7,rfl⟩
 have g8:f=.non\/∃i:Int,0<=i/\i<30/\f=.int i:=by
  simp only[v_,TD,or_false]at m8;rcases m8 with rfl|rfl|rfl;·exact .inl rfl
  ·exact .inl rfl
  ·exact .inr ⟨_,a9,b9,rfl⟩
 have A:∃R,(R=b_ "any"\/R=b_ "near")/\q=.str R:=by
  simp only[v_,TD,or_false]at e;rcases e with rfl|rfl;·exact⟨_,.inl rfl,rfl⟩
  ·exact⟨_,.inr rfl,rfl⟩
 obtain⟨d,v,rfl⟩:=g0;obtain⟨w,hw,rfl⟩:=g1;obtain⟨R,hR,rfl⟩:=A;refine⟨d,w,k,j,g,f,a'==0,R,⟨v,hw,g2,g4,g6,g8,hR⟩,?_⟩;have eB:gm=(aJ (ce 3 (I Ì (ju (aR (Ï "n") (wL (Ï "safe-a") (Ï "own-b") (Ï "N_2") (Ï "m-1") (Ï "safe-") (Ï "n")))) (ae ah 3 (dU (Y 0) (Y 1) (X 7))))) (aJ (ce 4 (I Ì (ju (qG (Ï "5") (Ï "") (Ï "a!b~") (Ï "x/y?z") (Ï "123456789012"))) (ae ah 3 (dU (Y 0) (I cY (Y 1) (X 1)) (X 5))))) (EN 5 (qG (fC .non) (fC .non) (Y 2) DR (ae aX 2 (bJ (Y 0) (I cY (Y 1) (X 3))))) (pF (JL DS) (pF (qI 6 (I Ì (ju (dU (fC .non) (Ï "/") (ae dc 2 (bJ (Y 0) (I cY (Y 1) (X 5)))))) (ae ah 3 (dU (Y 0) (I cY (Y 1) (X 4)) (X 3))))) (pF (qI 7 (I Ì (ju (dU (fC .non) (fC .non) (ae ah 3 (dU (Y 0) (I cY (Y 1) (X 7)) (X 60))))) (ae ah 3 (dU (Y 0) (I cY (Y 1) (X 6)) (X 3))))) (pF (qI 8 (I Ì (ju (dU (fC .non) (fC .non) (ae ah 3 (dU (Y 0) (I cY (Y 1) (X 9)) (X 30))))) (ae ah 3 (dU (Y 0) (I cY (Y 1) (X 8)) (X 3))))) (pF (qI 9 (I Ì (ju (bJ (Ï "any") (Ï "near"))) (ae ah 3 (dU (Y 0) (I cY (Y 1) (X 11)) (X 2))))) (pF (qI 10 (I à (ae ah 3 (dU (Y 0) (I cY (Y 1) (X 10)) (X 2))) (X 0))) (Ha 5 (iC (aR (Y 3) (aR (Y 4) (wL (I Ì (Y 5) (ae ah 3 (dU (Y 0) (I cY (Y 1) (X 2)) (X 6)))) (Y 6) (Y 7) (Y 8) (Y 10) (Y 9))))))))))))))):=rfl;unfold eV aS;rw[eB];simp[aJ,sq,ce,cH,Ö,ae,aR,eZ,Y,fC,I,iC,ju,EN,pF,JL,qI,Ha,yN,cY,e0,e1,e2,e3,e4,e5,e6,e7,e8,e9,E,B,i0,i1,i2,i4,i6,i8,r,eL,eT,à,lC,v7]
def qm(h:c=b_ "any"\/c=b_ "near"):dZ [.str c]=bo L/\∃r,à (.str c) (.str "near")=bo (!r):=by
 rcases h with rfl|rfl;·exact⟨by lk,L,by lk⟩
 ·exact⟨by lk,D,by lk⟩
variable{Κ:N}{μ:Str}
def Gv.mu(g:Gv c m i η χ Κ H μ):Mo χ:=by
 rcases g.u with h|⟨a,d,e,b⟩;·exact .inl h
 ·exact .inr ⟨a,d,by omega,b⟩
def Gv.ml(g:Gv c m i η χ Κ H μ):Mo Κ:=by
 rcases g.l with h|⟨a,d,e,b⟩;·exact .inl h
 ·exact .inr ⟨a,d,by omega,b⟩
def qo{b:å}(a:Ο ζ=Z (.ok H))(c:b ζ=Z (.ok À)):mB Ο b ζ=Z (.ok (H&&À)):=by
 cases H;·exact yI a
 ·rw[yH a,c];rfl
def xo(a:Ο ζ=Z (.ok H)):aJ (bg Ο (aI (fC i)) é) Υ ζ=if H=L then Z (.rt i)else Υ ζ:=by
 cases H;·rw[aw (cJ a)];rfl
 ·exact mE (by rw[Ar a];rfl)
def IM(e:r.map Z++Ud (b-r.length) U=ζ)(h:Υ ζ=Z (.rt i)):aS b Υ r=Z (.ok i):=by unfold aS;rw[e,h]
def AZ(F:Ó){f:Ò}{b:Ev}{a d:N}(h:f b=Z (.ok a))(c:F [a]=Z (.ok d)):ae F 1 (ao f) b=Z (.ok d):=cE F (ag h aq) rfl c
def IN(e:r.map Z++Ud (b-r.length) U=ζ)(h:Υ ζ=Z (.rt i)):aS b Υ r=Z (.ok i):=by unfold aS;rw[e,h]
def NG(h:B ζ=Z (.ok i)):aI B ζ=Z (.rt i):=by unfold aI;rw[h];rfl
def DW(x:Str){k:Bool}(o:aM [.str x]=bo k)(g:Gv c m i η χ Κ H μ):gK [ć x m i η χ Κ H μ]=bo k:=by
 have p:bO [ć x m i η χ Κ H μ,.int 8]=bo L:=by lk
 have j:=Sf g.w;have h:=AX g.mu;have f:=AX g.ml;have e:=(qm g.r).1;have d:Ĩ (I ċ (I Ì (Y 0) (X 2)) (fC .non)) (ae bw 1 (ao (I Ì (Y 0) (X 2)))) [Z (ć x m i η χ Κ H μ)]=bo L:=by
  rcases g.hh with rfl|⟨n,a,rfl⟩;·exact LC rfl
  ·exact(LB rfl).trans (eD bw rfl (NC a))
 have b:Ĩ (I ċ (I Ì (Y 0) (X 3)) (fC .non)) (ae cC 1 (ao (I Ì (Y 0) (X 3)))) [Z (ć x m i η χ Κ H μ)]=bo L:=by
  rcases g.pp with rfl|⟨n,a,rfl⟩;·exact LC rfl
  ·exact(LB rfl).trans (eD cC rfl (Q9 a))
 refine IN (ζ:=[Z (ć x m i η χ Κ H μ)]) rfl ?_;unfold jo;refine(xo (H:=D) (kO (bq (dP bO (b:=.int 8) rfl rfl p)))).trans ?_;refine NG ((cj (ag (yJ (ag (eD aM rfl o) (ag (eD bG rfl j) (ag d (ag b (ag (eD az rfl h) (ag (eD az rfl f) (ag (i:=.bl L) rfl (ag (eD dZ rfl e) aq)))))))) (by show 8<=100000;decide)) aq)).trans ?_);cases k<;>rfl
def A0(g:Gv c m i η χ Κ H μ):gK [ć c m i η χ Κ H μ]=bo L:=DW c (Se g.nm) g
def Š(e b a c d:Bool):N:=if e then .str "foreign"else if b then .str "open"else if a then .str "unsafe"else if c then .str "marked"else if d then .str "far"else .non
def ņ{h p:Str}{O:N}(y:r∈kz è)(a:Ak h p O)(g:Gv c m i η χ Κ H μ){e d j f b:Bool}{s:Bool}(B:bd [.tup r,ø s h p O,ć c m i η χ Κ H μ]=bo j)(A:aQ [.tup r,ø s h p O]=bo f)(z:à (.str μ) (.str "near")=bo (!b))(o:(i=.non/\e=D/\d=D)\/∃n q k,i=.str n/\aD [.str h,.str n]=bo (!e)/\ď (.str n) (.str h)=bo q/\fU [.tup r,.str n]=bo k/\d=(q&&k)):bB [.tup r,ø s h p O,ć c m i η χ Κ H μ]=Z (.ok (Š e d (H&&!s) (!j) (!b&&!f))):=by
 have e1:=Ra (jd y);have E:=Sh (A0 g);have P:=Rb (DQ (H:=s) a);refine IM (ζ:=[Z (.tup r),Z (ø s h p O),Z (ć c m i η χ Κ H μ),U]) rfl ?_;unfold fz;rw[aw (lO (AZ aT (a:=.tup r) rfl e1)),aw (lO (AZ dh (a:=ø s h p O) rfl P)),aw (lO (AZ di (a:=ć c m i η χ Κ H μ) rfl E)),aw (bA (i:=i) (a:=[Z (.tup r),Z (ø s h p O),Z (ć c m i η χ Κ H μ),Z i]) rfl rfl)];refine(xo (H:=e) ?_).trans ?_
 · rcases o with⟨rfl,rfl,rfl⟩|⟨n,q,k,rfl,w,v,u,rfl⟩;·exact yI (bq rfl)
   ·rw[yH (bq rfl)];exact(kO (bq (dP aD rfl rfl w))).trans (by rw[aaa])
 unfold Š;cases e;rotate_left;·rfl
 refine(xo (H:=d) ?_).trans ?_
 · rcases o with⟨rfl,_,rfl⟩|⟨n,q,k,rfl,w,v,u,rfl⟩;·exact yI (bq rfl)
   ·rw[yH (bq rfl)];exact qo (bq ((bK rfl rfl).trans v)) (bq (dP fU rfl rfl u))
 cases d;rotate_left;·rfl
 refine(xo (H:=H&&!s) (qo (bq rfl) (kO (bq rfl)))).trans ?_;cases H&&!s;rotate_left;·rfl
 refine(xo (kO (bq (ql bd rfl rfl rfl B)))).trans ?_;cases !j;rotate_left;·rfl
 refine(xo (qo (bq ((bK rfl rfl).trans z)) (kO (bq (dP aQ rfl rfl A))))).trans ?_;cases !b&&!f<;>rfl
def O0(b a S d c:Bool):Bool:=(b&&!S)||(a&&!(S&&(d&&c)))
def Ba{h p:Str}{O:N}{d:Bool}{s:Bool}(e:c∈Ĳ)(j:à η (.str "/")=bo À)(g:cK [.tup r,ø s h p O,ć c m i η χ Κ H μ]=bo d):bd [.tup r,ø s h p O,ć c m i η χ Κ H μ]=bo (!O0 (Ug c (b_ "safe-")) (Ug c (b_ "own-")) H d À):=by have f:=Ti e;cases b:Ug c (b_ "safe-")with
 |true=>
 rw[b]at f;have a:Ug c (b_ "own-")=D:=by simpa using f
 rw[a];cases H<;>simp[bd,aS,bM,aJ,sq,bg,aI,ce,cH,Ö,fB,ā,aR,eZ,Y,fC,I,Ì,Ă,fM,qH,b,O0]|false=>cases a:Ug c (b_ "own-")with|true=>cases H<;>cases d<;>cases À<;>simp[bd,aS,bM,aJ,sq,bg,aI,ce,cH,Ö,fB,ā,ae,aR,eZ,Y,fC,I,Ì,Ă,kG,fM,qH,b,a,g,j,O0]|false=>simp[bd,aS,bM,aJ,sq,bg,aI,ce,cH,Ö,fB,ā,aR,eZ,Y,fC,I,Ì,Ă,fM,qH,b,a,O0]
structure Wt(t:List N)(h p:Str)(O:N)(nm w:Str)(H P u l:N)(S:Bool)(R:Str)(s:Bool)(house path:Str)(ex:Bool)(wd:N):Prop where
 hs:house∈En
 ph:path∈ë
 win:wd=.non\/∃x∈["foreign","open","unsafe","marked","far"],wd=.str (b_ x)why:bB [.tup t,ø s h p O,ć nm w H P u l S R]=Z (.ok wd)hf:fR [ø s h p O,ć nm w H P u l S R]=Z (.ok (.str house))hl:(H=.non/\house=h)\/H=.str house
 ix:cK [.tup t,ø s h p O,ć nm w H P u l S R]=bo ex
 pf:fD [ø s h p O,ć nm w H P u l S R]=Z (.ok (.str path))un:wd=.non->s=D->S=D
def Bb(e b a c d:Bool):Š e b a c d=.non\/∃x∈["foreign","open","unsafe","marked","far"],Š e b a c d=.str (b_ x):=by cases e<;>cases b<;>cases a<;>cases c<;>cases d<;>first|exact .inl rfl|exact .inr ⟨"foreign",by simp,rfl⟩|exact .inr ⟨"open",by simp,rfl⟩|exact .inr ⟨"unsafe",by simp,rfl⟩|exact .inr ⟨"marked",by simp,rfl⟩|exact .inr ⟨"far",by simp,rfl⟩
def Bc{a c S s:Bool}(h:Š H À (S&&!s) a c=.non)(b:s=D):S=D:=by
 subst b;cases S;·rfl
 ·cases H<;>cases À<;>cases h
def Rc{h p:Str}{O:N}(A:r∈kz è)(a:Ak h p O)(g:Gv c m i η χ Κ H μ)(s:Bool):∃k e ex wd,Wt r h p O c m i η χ Κ H μ s k e ex wd:=by
 obtain⟨nr,hN⟩:=ND A a;obtain⟨_,d,r2⟩:=qm g.r;have B:∃pe,à η (.str "/")=bo pe:=by
  rcases g.pp with rfl|⟨q,_,rfl⟩;·exact⟨D,rfl⟩
  ·exact⟨_,rfl⟩
 obtain⟨pe,B⟩:=B;have j:∃e∈ë,fD [ø s h p O,ć c m i η χ Κ H μ]=Z (.ok (.str e)):=by
  rcases g.pp with rfl|⟨q,hq,rfl⟩;·obtain⟨f,hf,k2⟩:=Tj a.p;exact⟨f,hf,by simp[fD,aS,gL,aJ,sq,bg,aI,cH,Ö,fB,ā,ae,aR,eZ,Y,fC,I,Ì,Ă,ċ,k2]⟩
  ·exact⟨q,hq,by simp[fD,aS,gL,aJ,sq,bg,aI,cH,Ö,fB,ā,Y,fC,I,Ì,Ă,ċ]⟩
 obtain⟨e,w,y⟩:=j;rcases g.hh with rfl|⟨n,E,rfl⟩
 · have v:cK [.tup r,ø s h p O,ć c m .non η χ Κ H μ]=bo L:=by simp[cK,aS,gJ,aJ,sq,bg,aI,ce,cH,Ö,fB,ā,Y,fC,I,Ì,Ă,ċ]
   have u:=ņ (e:=D) (d:=D) A a g (Ba g.nm B v) (hN s) r2 (.inl ⟨rfl,rfl,rfl⟩);rw[aaa]at u;exact⟨h,e,L,_,a.h,w,Bb _ _ _ _ _,u,by simp[fR,aS,fQ,aJ,sq,bg,aI,cH,Ö,fB,ā,Y,fC,I,Ì,Ă,ċ],.inl ⟨rfl,rfl⟩,v,y,Bc⟩
 · obtain⟨b,o,hm,_,_⟩:=DP A E;obtain⟨wi,P⟩:=Sg (a.h) E;have z:fU [.tup r,.str n]=bo (seq b n):=by simp[fU,aS,kq,aI,cH,Ö,ae,aR,eZ,Y,I,hm,à,lC,v7]
   have v:cK [.tup r,ø s h p O,ć c m (.str n) η χ Κ H μ]=bo (seq n h&&seq b n):=by simp[cK,aS,gJ,aJ,sq,bg,aI,ce,cH,Ö,fB,ā,ae,aR,eZ,Y,fC,I,Ì,Ă,kG,ċ,z,à,lC,v7];cases seq n h<;>simp[aJ]
   have u:=ņ (e:=!wi) (d:=!seq n h&&seq b n) A a g (Ba g.nm B v) (hN s) r2 (.inr ⟨n,!seq n h,seq b n,rfl,by rw[P,aaa],by simp[ď,lC,v7],z,rfl⟩);rw[aaa]at u;exact⟨n,e,_,_,E,w,Bb _ _ _ _ _,u,by simp[fR,aS,fQ,aJ,sq,bg,aI,cH,Ö,fB,ā,Y,fC,I,Ì,Ă,ċ],.inr rfl,v,y,Bc⟩
def ip(a b:Str):(a++b).length=a.length+b.length:=Zo
def qp(a b c:Str):a++b++c=a++(b++c):=by show Str.mk (a.cps++b.cps++c.cps)=Str.mk (a.cps++(b.cps++c.cps));rw[abo]
def NH(a:Str):a++b_ ""=a:=by show Str.mk (a.cps++#[])=a;rw[Array.append_empty]
def step(t:Str)(o:Option Str):Str:=match o with|none=>t|some y=>t++b_ "; "++y
def kA(t:Str)(o:Option Str)(B:Nat)(h:∀y,o=Z y->y.length<=B):(step t o).length<=t.length+2+B:=by cases o with|none=>show t.length<=_;omega|some y=>
 have:=h y rfl;show(t++b_ "; "++y).length<=_;rw[ip,ip];have e:(b_ "; ").length=2:=by decide
 omega
def nA(a:Str):∀(l:List Str)(x:Str),Xe a (x::l)=l.foldl (λt y=>t++a++y) x|[],x=>rfl|y::l,x=>nA a l (x++a++y)
def jt(t:Str)(o:Option Str)(l:List Str):(o.toList++l).foldl (λt y=>t++b_ "; "++y) t=l.foldl (λt y=>t++b_ "; "++y) (step t o):=by cases o<;>rfl
def eS:Option Str->N|none=>.non|some x=>.str x
def eO:Option Int->N|none=>.non|some x=>.int x
def is(i:Int):Str:=b_ (toString i)
def Fm(b:0<=p)(a:p<=9999):(is p).length<=10001:=by have:=PyProof.Rows.len_str_of_int p;unfold is;omega
def Re(b:0<=p)(a:p<=9999):Qd [.int p]=Z (.ok (.str (is p))):=by
 show(if p.natAbs.log2<1920 then _ else U)=_;rw[if_pos];·rfl
 · have e:p.natAbs<2^1920:=TB (show p.natAbs<2^14 by omega) (Nat.pow_le_pow_right (by decide) (by decide));by_cases z:p.natAbs=0;·rw[z];decide
   ·exact(Nat.log2_lt z).mpr e
structure Vv(nm w:Str)(h p:Option Str)(u l:Option Int)(R:Str):Prop where nm:nm.length<=50w:w.length<=50h:∀x,h=Z x->x.length<=50p:∀x,p=Z x->x.length<=50u:∀i,u=Z i->0<=i/\i<=9999l:∀i,l=Z i->0<=i/\i<=9999
abbrev gv(a w:Str)(h p:Option Str)(u l:Option Int)(S:Bool)(R:Str):N:=.tup [.str a,.str w,eS h,eS p,eO u,eO l,.bl S,.str R]
def oS(a:String)(h:Option Str):Option Str:=h.map λx=>b_ a++x
def oI(a:String)(h:Option Int):Option Str:=h.map λx=>b_ a++is x
def oB(x:String)(b:Bool):Option Str:=if b then Z (b_ x)else U
def ą(a w:Str):Str:=a++b_ "="++w
def li(R:Str):Bool:=seq R (b_ "near")
def T(a w:Str)(h p:Option Str)(u l:Option Int)(S:Bool)(R:Str):Str:=step (step (step (step (step (step (ą a w) (oS "for " h)) (oS "under " p)) (oI "until " u)) (oI "lasts " l)) (oB "safe" S)) (oB "near" (li R))
def Rf(h:c.length+m.length<=100000):cY (.str c) (.str m)=Z (.ok (.str (c++m))):=by show(if c.length+m.length<=100000 then _ else U)=_;rw[if_pos h]
def lE(h:c.length+m.length<=100000):iy (.str c) (.str m)=Z (.ok (.str (c++m))):=Rf h
def oV(o:Option Str):o.toList.length<=1:=by cases o<;>simp
variable{Ξ:Option Str}
def Si{a:String}(d:(b_ a).length<=10)(c:∀x,Ξ=Z x->x.length<=50):∀y,oS a Ξ=Z y->y.length<=60:=by intro y b;cases Ξ with|none=>cases b|some x=>cases b;rw[ip];have:=c x rfl;omega
def Sj{a:String}(d:(b_ a).length<=10)(c:∀x,Δ=Z x->0<=x/\x<=9999):∀y,oI a Δ=Z y->y.length<=10020:=by intro y b;cases Δ with|none=>cases b|some x=>cases b;rw[ip];have:=Fm (c x rfl).1 (c x rfl).2;omega
def Tk{x:String}(b:(b_ x).length<=10):∀y,oB x H=Z y->y.length<=60:=by intro y a;cases H with|false=>cases a|true=>cases a;omega
def NI(h:B ζ=Z (.ok i)):aI B ζ=Z (.rt i):=by unfold aI;rw[h];rfl
def EL(c w:Str)(h p:Option Str)(u l:Option Int)(S:Bool)(R:Str)(t:Str)(a b:Option N):Ev:=[Z (gv c w h p u l S R),Z (.str c),Z (.str w),Z (eS h),Z (eS p),Z (eO u),Z (eO l),Z (.bl S),Z (.str R),Z (.str t),a,b]
def sP{p:Option Str}{t d:Str}{a b:Option N}:jv (gP 10 11) [11,10] aK (.tup [.str d,.non]::r) (EL c m Ξ p Δ Ι H μ t a b)=jv (gP 10 11) [11,10] aK r (EL c m Ξ p Δ Ι H μ t (Z (.str d)) (Z .non)):=rfl
def oW{p:Option Str}{t e y:Str}{a b:Option N}(h:nI i .non=bo L)(g:JQ [i]=Z (.ok (.str y)))(k:t.length+2+e.length+1+y.length<=100000):jv (gP 10 11) [11,10] aK (.tup [.str e,i]::r) (EL c m Ξ p Δ Ι H μ t a b)=jv (gP 10 11) [11,10] aK r (EL c m Ξ p Δ Ι H μ (t++b_ "; "++e++b_ " "++y) (Z (.str e)) (Z i)):=by
 have n:(b_ "; ").length=2:=by decide
 have q:(b_ " ").length=1:=by decide
 have j:aK (EL c m Ξ p Δ Ι H μ t (Z (.str e)) (Z i))=Z (.nx (EL c m Ξ p Δ Ι H μ (t++b_ "; "++e++b_ " "++y) (Z (.str e)) (Z i))):=by
  have d:fB (I nI (Y 11) (fC .non)) (EL c m Ξ p Δ Ι H μ t (Z (.str e)) (Z i))=Z (.ok L):=bq h;have z:I iy (I iy (I iy (I iy (Y 9) (Ï "; ")) (Y 10)) (Ï " ")) (Ý JQ (ao (Y 11))) (EL c m Ξ p Δ Ι H μ t (Z (.str e)) (Z i))=Z (.ok (.str (t++b_ "; "++e++b_ " "++y))):=by refine(bK ((bK ((bK ((bK (i:=.str t) (η:=.str "; ") rfl rfl).trans (lE (by omega))) (η:=.str e) rfl).trans (lE (by rw[ip];omega))) (η:=.str " ") rfl).trans (lE (by rw[ip,ip];omega))) ((cj (ag (i:=i) rfl aq)).trans g)).trans ?_;exact lE (by rw[ip,ip,ip];omega)
  unfold aK bg;rw[d];exact bA z rfl
 show(match aK (EL c m Ξ p Δ Ι H μ t (Z (.str e)) (Z i))with|some (.nx f)=>jv (gP 10 11) [11,10] aK r f|o=>o)=_;rw[j]
def Fp(t b a y:Str)(c:b++b_ " "=a):t++b_ "; "++b++b_ " "++y=t++b_ "; "++(a++y):=by rw[qp (t++b_ "; ") b,c,qp (t++b_ "; ") a]
def NJ{p:Option Str}{t e d:Str}{o:Option Str}{a b:Option N}(f:e++b_ " "=d)(g:∀x,o=Z x->x.length<=50)(k:t.length<=80000)(j:e.length<=10):∃i h,jv (gP 10 11) [11,10] aK (.tup [.str e,eS o]::r) (EL c m Ξ p Δ Ι H μ t a b)=jv (gP 10 11) [11,10] aK r (EL c m Ξ p Δ Ι H μ (step t (o.map λx=>d++x)) i h):=by cases o with|none=>exact⟨_,_,sP⟩|some x=>have:=g x rfl;refine⟨Z (.str e),Z (.str x),(oW (i:=.str x) (y:=x) rfl rfl (by omega)).trans ?_⟩;rw[Fp t e d x f];rfl
def NK{p:Option Str}{t f d:Str}{o:Option Int}{a b:Option N}(h:f++b_ " "=d)(g:∀x,o=Z x->0<=x/\x<=9999)(n:t.length<=80000)(k:f.length<=10):∃j i,jv (gP 10 11) [11,10] aK (.tup [.str f,eO o]::r) (EL c m Ξ p Δ Ι H μ t a b)=jv (gP 10 11) [11,10] aK r (EL c m Ξ p Δ Ι H μ (step t (o.map λx=>d++is x)) j i):=by cases o with|none=>exact⟨_,_,sP⟩|some x=>have:=g x rfl;have:=Fm this.1 this.2;have e:JQ [.int x]=Z (.ok (.str (is x))):=Re (g x rfl).1 (g x rfl).2;refine⟨Z (.str f),Z (.int x),(oW (i:=.int x) (y:=is x) rfl e (by omega)).trans ?_⟩;rw[Fp t f d (is x) h];rfl
def IP{p:Option Str}(v:Vv c m Ξ p Δ Ι μ):gc [gv c m Ξ p Δ Ι H μ]=Z (.ok (.str (T c m Ξ p Δ Ι H μ))):=by
 have l1:=v.nm;have l2:=v.w;have lq:(b_ "=").length=1:=by decide
 have b0:(ą c m).length<=200:=by unfold ą;rw[ip,ip];omega
 have b1:=kA (ą c m) (oS "for " Ξ) 60 (Si (by decide) v.h);have b2:=kA (step (ą c m) (oS "for " Ξ)) (oS "under " p) 60 (Si (by decide) v.p);have b3:=kA (step (step (ą c m) (oS "for " Ξ)) (oS "under " p)) (oI "until " Δ) 10020 (Sj (by decide) v.u);have b4:=kA (step (step (step (ą c m) (oS "for " Ξ)) (oS "under " p)) (oI "until " Δ)) (oI "lasts " Ι) 10020 (Sj (by decide) v.l);obtain⟨E,z,u⟩:=NJ (c:=c) (m:=m) (Ξ:=Ξ) (p:=p) (Δ:=Δ) (Ι:=Ι) (H:=H) (μ:=μ) (t:=ą c m) (e:=b_ "for") (d:=b_ "for ") (o:=Ξ) (a:=U) (b:=U) (r:=[.tup [.str "under",eS p],.tup [.str "until",eO Δ],.tup [.str "lasts",eO Ι]]) (by lk) v.h (by omega) (by decide);obtain⟨B,y,s⟩:=NJ (c:=c) (m:=m) (Ξ:=Ξ) (p:=p) (Δ:=Δ) (Ι:=Ι) (H:=H) (μ:=μ) (t:=step (ą c m) (oS "for " Ξ)) (e:=b_ "under") (d:=b_ "under ") (o:=p) (a:=E) (b:=z) (r:=[.tup [.str "until",eO Δ],.tup [.str "lasts",eO Ι]]) (by lk) v.p (by omega) (by decide);obtain⟨A,w,r⟩:=NK (c:=c) (m:=m) (Ξ:=Ξ) (p:=p) (Δ:=Δ) (Ι:=Ι) (H:=H) (μ:=μ) (t:=step (step (ą c m) (oS "for " Ξ)) (oS "under " p)) (f:=b_ "until") (d:=b_ "until ") (o:=Δ) (a:=B) (b:=y) (r:=[.tup [.str "lasts",eO Ι]]) (by lk) v.u (by omega) (by decide);obtain⟨a4,c4,q⟩:=NK (c:=c) (m:=m) (Ξ:=Ξ) (p:=p) (Δ:=Δ) (Ι:=Ι) (H:=H) (μ:=μ) (t:=step (step (step (ą c m) (oS "for " Ξ)) (oS "under " p)) (oI "until " Δ)) (f:=b_ "lasts") (d:=b_ "lasts ") (o:=Ι) (a:=A) (b:=w) (r:=[]) (by lk) v.l (by omega) (by decide);let b:Str:=step (step (step (step (ą c m) (oS "for " Ξ)) (oS "under " p)) (oI "until " Δ)) (oI "lasts " Ι);have P:b.length<=90000:=by show(step (step (step (step (ą c m) (oS "for " Ξ)) (oS "under " p)) (oI "until " Δ)) (oI "lasts " Ι)).length<=_;omega
 have d:jv (gP 10 11) [11,10] aK [.tup [.str "for",eS Ξ],.tup [.str "under",eS p],.tup [.str "until",eO Δ],.tup [.str "lasts",eO Ι]] (EL c m Ξ p Δ Ι H μ (ą c m) U U)=Z (.nx (EL c m Ξ p Δ Ι H μ b U U)):=u.trans (s.trans (r.trans (q.trans rfl)));have e:(λg=>Ö ((bJ (iC (qU (Ï "for") (Ï "under") (Ï "until") (Ï "lasts"))) (j7 (Y 0) (dr (X 2)) (dr (X 6)))) g) JP) (EL c m Ξ p Δ Ι H μ (ą c m) U U)=Z (.ok [.tup [.str "for",eS Ξ],.tup [.str "under",eS p],.tup [.str "until",eO Δ],.tup [.str "lasts",eO Ι]]):=by lk
 have k:I iy (I iy (Y 1) (Ï "=")) (Y 2) [Z (gv c m Ξ p Δ Ι H μ),Z (.str c),Z (.str m),Z (eS Ξ),Z (eS p),Z (eO Δ),Z (eO Ι),Z (.bl H),Z (.str μ),U,U,U]=Z (.ok (.str (ą c m))):=(bK ((bK (i:=.str c) (η:=.str "=") rfl rfl).trans (lE (by omega))) (η:=.str m) rfl).trans (lE (by rw[ip];omega));have f1:ķ (fB (Y 7)) (Ï "; safe") (Ï "") (EL c m Ξ p Δ Ι H μ b U U)=Z (.ok (.str (if H then b_ "; safe"else b_ ""))):=by cases H<;>rfl
 have o:b++(if H then b_ "; safe"else b_ "")=step b (oB "safe" H):=by
  cases H;·exact NH b
  ·show b++b_ "; safe"=b++b_ "; "++b_ "safe";rw[qp];rfl
 have b5:=kA b (oB "safe" H) 60 (Tk (by decide));have j:I iy (Y 9) (ķ (fB (Y 7)) (Ï "; safe") (Ï "")) (EL c m Ξ p Δ Ι H μ b U U)=Z (.ok (.str (step b (oB "safe" H)))):=by
  rw[<-o];refine(bK (i:=.str b) rfl f1).trans (lE ?_);have:(if H then b_ "; safe"else b_ "").length<=10:=by cases H<;>decide
  omega
 have h:ķ (fB (I à (Y 8) (Ï "near"))) (Ï "; near") (Ï "") (EL c m Ξ p Δ Ι H μ b U U)=Z (.ok (.str (if li μ then b_ "; near"else b_ ""))):=by have a:fB (I à (Y 8) (Ï "near")) (EL c m Ξ p Δ Ι H μ b U U)=Z (.ok (li μ)):=rfl;unfold ķ;rw[a];cases li μ<;>rfl
 have n:∀t:Str,t++(if li μ then b_ "; near"else b_ "")=step t (oB "near" (li μ)):=by
  intro t;cases li μ;·exact NH t
  ·show t++b_ "; near"=t++b_ "; "++b_ "near";rw[qp];rfl
 have i:(I iy (I iy (Y 9) (ķ (fB (Y 7)) (Ï "; safe") (Ï ""))) (ķ (fB (I à (Y 8) (Ï "near"))) (Ï "; near") (Ï ""))) (EL c m Ξ p Δ Ι H μ b U U)=Z (.ok (.str (T c m Ξ p Δ Ι H μ))):=by
  refine(bK j h).trans ((lE ?_).trans ?_)
  · have:(if li μ then b_ "; near"else b_ "").length<=10:=by cases li μ<;>decide
    omega
  ·rw[n];rfl
 refine fI ?_;show fZ [Z (gv c m Ξ p Δ Ι H μ),U,U,U,U,U,U,U,U,U,U,U]=_;unfold fZ;rw[aw (show Lz [1,2,3,4] (j7 (Y 0) gp (dr (X 4))) [Z (gv c m Ξ p Δ Ι H μ),U,U,U,U,U,U,U,U,U,U,U]=Z (.nx [Z (gv c m Ξ p Δ Ι H μ),Z (.str c),Z (.str m),Z (eS Ξ),Z (eS p),U,U,U,U,U,U,U])by lk)];rw[aw (show Lz [5,6,7,8] (j7 (Y 0) (dr (X 4)) gp) [Z (gv c m Ξ p Δ Ι H μ),Z (.str c),Z (.str m),Z (eS Ξ),Z (eS p),U,U,U,U,U,U,U]=Z (.nx [Z (gv c m Ξ p Δ Ι H μ),Z (.str c),Z (.str m),Z (eS Ξ),Z (eS p),Z (eO Δ),Z (eO Ι),Z (.bl H),Z (.str μ),U,U,U])by lk)];rw[aw (bA (a:=EL c m Ξ p Δ Ι H μ (ą c m) U U) k rfl)];have f:wS (gP 10 11) [11,10] (λg=>Ö ((bJ (iC (qU (Ï "for") (Ï "under") (Ï "until") (Ï "lasts"))) (j7 (Y 0) (dr (X 2)) (dr (X 6)))) g) JP) aK (EL c m Ξ p Δ Ι H μ (ą c m) U U)=Z (.nx (EL c m Ξ p Δ Ι H μ b U U)):=by unfold wS;rw[e];exact d
 rw[aw f];exact NI i
def qr(p:Str):Option (Nat×N):=match bE [.str p]with|some (.ok (.tup [.int k,d]))=>Z (k.toNat,d)|_=>U
def eT:Option (Nat×N)->N|none=>.non|some (k,d)=>.tup [.int k,d]
def Ÿ(p:Str):Bool:=match bE [.str p]with|some (.ok .non)=>L|some (.ok (.tup [.int k,_]))=>uk (2<=k)&&uk (k<8)|_=>D
def IQ(h:Ÿ c=L):bE [.str c]=Z (.ok (eT (qr c)))/\∀k d,qr c=Z (k,d)->2<=k/\k<8:=by
 unfold Ÿ at h;unfold qr;split at h;·rename_i e;rw[e];exact⟨rfl,λk d z=>by cases z⟩
 · rename_i k d e;rw[e];rw[pi,decide_eq_true_eq,decide_eq_true_eq]at h;refine⟨?_,λa b z=>?_⟩;·show _=Z (Rs.ok (N.tup [.int (k.toNat:Int),d]));rw[Int.toNat_of_nonneg (by omega)]
   ·cases z;omega
 ·cases h
def ŝ:Str:=b_ " "
def ŧ:Str:=b_ "  "
def gX(b p a:Str):Bool:=seq (VP (b++p++a) ŝ) p&&!((b++p++a).cps.toList.contains 59)
def ė:Str:=b_ ""
def okS(p:Str):Bool:=gX ė p ė&&(gX ŝ p ė&&(gX ŧ p ŧ&&(gX ė p ŧ&&(gX ŧ p ė&&uk (p.length<=200)))))
def Sk(p:Str):Bool:=Ÿ p&&okS p
def Tl:List Str:=[b_ "x=y",b_ "until",b_ "for A",b_ "under b",b_ "lasts 99999",b_ "SAFE",b_ "",b_ "safe near",b_ "until  7"]
def NL:List Str:=[b_ "until 17",b_ "under /q",b_ "lasts 4",b_ "for q.r"]
def sQ(n:Nat):List Int:=(rl n).map λi:Nat=>(i:Int)
def ś:List Str:=En.map (λh=>b_ "for "++h)++(ë.map (λh=>b_ "under "++h)++((sQ 60).map (λi=>b_ "until "++is i)++((sQ 30).map (λi=>b_ "lasts "++is i)++([b_ "safe",b_ "near"]++(Tl++NL)))))
def IR:ś.all Sk=L:=by lk
def tS(p:Str)(k:Nat)(s:Str):Bool:=match qr p with|some (j,.str z)=>j==k&&seq z s|_=>D
def tI(p:Str)(k:Nat)(i:Int):Bool:=match qr p with|some (j,.int z)=>j==k&&z==i|_=>D
def NM(h:tS c b m=L):qr c=Z (b,.str m):=by
 unfold tS at h;generalize qr c=o at h⊢;rcases o with _|⟨j,d⟩;·cases h
 ·cases d with|str z=>have a:(j==b&&seq z m)=L:=h;rw[pi]at a;rw[io a.2,X0 a.1]|_=>cases h
def NN(h:tI c b p=L):qr c=Z (b,.int p):=by
 unfold tI at h;generalize qr c=o at h⊢;rcases o with _|⟨j,d⟩;·cases h
 ·cases d with|int z=>have a:(j==b&&z==p)=L:=h;rw[pi]at a;rw[X0 a.2,X0 a.1]|_=>cases h
def NO:(En.all λh=>tS (b_ "for "++h) 2 h)=L:=by lk
def NP:(ë.all λh=>tS (b_ "under "++h) 3 h)=L:=by lk
def NQ:((sQ 60).all λi=>tI (b_ "until "++is i) 4 i)=L:=by lk
def NR:((sQ 30).all λi=>tI (b_ "lasts "++is i) 5 i)=L:=by lk
def Rg(q:c∈En):qr (b_ "for "++c)=Z (2,.str c):=NM (aU (p:=λc=>tS (b_ "for "++c) 2 c) NO q)
def Rh(q:c∈ë):qr (b_ "under "++c)=Z (3,.str c):=NM (aU (p:=λc=>tS (b_ "under "++c) 3 c) NP q)
def Ri(q:p∈sQ 60):qr (b_ "until "++is p)=Z (4,.int p):=NN (aU (p:=λp=>tI (b_ "until "++is p) 4 p) NQ q)
def Rj(q:p∈sQ 30):qr (b_ "lasts "++is p)=Z (5,.int p):=NN (aU (p:=λp=>tI (b_ "lasts "++is p) 5 p) NR q)
def NS:qr (b_ "safe")=Z (6,.bl L):=by lk
def NT:qr (b_ "near")=Z (7,.str "near"):=by lk
def put(a:List N)(p:Str):List N:=match qr p with|none=>a|some (k,d)=>a.set k d
def IS(a:List N)(p:Str):(put a p).length=a.length:=by unfold put;split<;>simp
def sS:∀l:List Str,ß (l.map N.str)=L|[]=>rfl|x::l=>by show(ĝ (.str x)&&ß (l.map N.str))=L;rw[sS l];rfl
def ER(x:Str)(c d:N)(a b:Option N):Ev:=[Z (.str x),Z c,Z d,U,a,b]
def IT{b:Option N}(h:Ÿ m=L)(q:r.length=8):∃p,bi (ER c i η (Z (.str m)) b) r=Z (.nx (ER c i η (Z (.str m)) p) (put r m)):=by
 obtain⟨e,j⟩:=IQ h;refine⟨Z (eT (qr m)),?_⟩;have n:qI 5 (ae bE 1 (ao (Y 4))) (ER c i η (Z (.str m)) b) r=Z (.nx (ER c i η (Z (.str m)) (Z (eT (qr m)))) r):=by unfold qI;rw[eD bE (f:=Y 4) (b:=ER c i η (Z (.str m)) b) (a:=.str m) rfl e];rfl
 unfold bi;show(match qI 5 (ae bE 1 (ao (Y 4))) (ER c i η (Z (.str m)) b) r with|some (.nx a f)=>(oIf (fB (I nI (Y 5) (fC .non))) (vm (I Ì (Y 5) (X 0)) (I Ì (Y 5) (X 1))) Qb) a f|o=>o)=_;rw[n];unfold put;match g:qr m with|none=>rfl|some (k,d)=>have:=j k d g;show(if 0<=(k:Int)/\(k:Int)<r.length then Z (Fo.nx (ER c i η (Z (.str m)) (Z (.tup [.int k,d]))) (r.set (k:Int).toNat d))else U)=_;rw[if_pos ⟨by omega,by omega⟩];rfl
def Bd{x:Str}{c g:N}:∀(f:List Str)(d:List N)(a b:Option N),(∀p∈f,Ÿ p=L)->d.length=8->rm 4 [4,5] bi (f.map N.str) (ER x c g a b) d=Z (.nx (ER x c g U U) (f.foldl put d))|[],d,a,b,_,_=>rfl|p::f,d,a,b,h,k=>by obtain⟨n,e⟩:=IT (c:=x) (i:=c) (η:=g) (b:=U) (r:=d) (h p on) k;show(match bi (ER x c g (Z (.str p)) U) d with|some (.nx i j)=>rm 4 [4,5] bi (f.map N.str) i j|o=>o)=_;rw[e];exact Bd f (put d p) (Z (.str p)) n (λq m=>h q (r_ _ m)) (by rw[IS];exact k)
def IU(d w:Str):Bool:=okS (ą d w)&&(match pD (ą d w) [.str "="]with|some (.ok (.tup [.str a,.str b,.str c]))=>seq a d&&(seq b (b_ "=")&&seq c w)|_=>D)&&(Ī (aM [.str d])&&Ī (bG [.str w]))
def wb:(Ĳ.all λn=>Ĺ.all λw=>IU n w)=L:=by lk
def Ő(a w:Str):List N:=[.str a,.str w,.non,.non,.non,.non,.bl D,.str "any"]
def IV{h:List Str}(hx:c.length<=100000)(w:m∈Ĳ)(hw:μ∈Ĺ)(A:Wh c (b_ ";")=u)(hq:u.length<=100)(ht:u.map (λq=>VP q ŝ)=ą m μ::h)(hl:∀q∈u,q.length<=1000)(hp:∀p∈h,Ÿ p=L):aN [.str c]=Z (.ok (.tup (h.foldl put (Ő m μ)))):=by
 have r:=aU (p:=λμ=>IU m μ) (aU (p:=λn=>Ĺ.all λμ=>IU n μ) wb w) hw;unfold IU at r;simp only[pi]at r;obtain⟨⟨_,j⟩,h3,h4⟩:=r;have e3:=nv h3;have e4:=nv h4;have e2:pD (ą m μ) [.str "="]=Z (.ok (.tup [.str m,.str "=",.str μ])):=by
  split at j;·rename_i a b g e;simp only[pi]at j;rw[e,io j.1,io j.2.1,io j.2.2]
  ·cases j
 have v1:cu 1 [] (dO (fM (iu) (Y 0) (ao (Ï ";")))) (gN 0) U (fM (mF) (Y 0) (ao (Ï " "))) [Z (.str c),U,U,U,U,U]=Z (.ok (.lst ((ą m μ::h).map N.str))):=by
  have k:dO (fM (iu) (Y 0) (ao (Ï ";"))) [Z (.str c),U,U,U,U,U]=Z (.ok (u.map N.str)):=by
   have z:fM (iu) (Y 0) (ao (Ï ";")) [Z (.str c),U,U,U,U,U]=Z (.ok (.lst (u.map N.str))):=by show iu c [.str ";"]=_;show(if(b_ ";").length≠0/\c.length<=100000/\(Wh c (b_ ";")).length<=100000 then _ else U)=_;rw[if_pos ⟨by decide,hx,by rw[A];omega⟩,A]
   unfold dO;rw[z];rfl
  have e:=sL (c:=[]) (B:=fM (mF) (Y 0) (ao (Ï " "))) N.str (λq=>N.str (VP q ŝ)) k (by omega) λq v=>by show mF q [.str " "]=_;show(if q.length<=100000 then _ else U)=_;rw[if_pos (by have:=hl q v;omega)];rfl
  rw[e,<-ht,Uq];rfl
 let f:N:=.lst ((ą m μ::h).map N.str);let T3:N:=.tup [.str m,.str "=",.str μ];have P:fM (pD) (I Ì (Y 1) (X 0)) (ao (Ï "=")) [Z (.str c),Z f,U,U,U,U]=Z (.ok T3):=e2;have c1:(Ċ (fB (I à (I Ì (Y 2) (X 1)) (Ï ""))) (Ċ (cx (fB (ae aM 1 (ao (I Ì (Y 2) (X 0)))))) (cx (fB (ae bG 1 (ao (I Ì (Y 2) (X 2)))))))) (ER c f T3 U U)=Z (.ok D):=by
  have E:ae aM 1 (ao (I Ì (Y 2) (X 0))) (ER c f T3 U U)=bo L:=eD aM rfl e3;have B:ae bG 1 (ao (I Ì (Y 2) (X 2))) (ER c f T3 U U)=bo L:=eD bG rfl e4;have H:fB (I à (I Ì (Y 2) (X 1)) (Ï "")) (ER c f T3 U U)=Z (.ok D):=by lk
  unfold Ċ;rw[H];show(Ċ (cx (fB (ae aM 1 (ao (I Ì (Y 2) (X 0)))))) (cx (fB (ae bG 1 (ao (I Ì (Y 2) (X 2))))))) (ER c f T3 U U)=_;unfold Ċ cx;rw[bq E,bq B];rfl
 have i:dO (xB (Y 1) (dr (X 1)) gp) (ER c f T3 U U)=Z (.ok (h.map N.str)):=by
  have z:xB (Y 1) (dr (X 1)) gp (ER c f T3 U U)=Z (.ok (.lst (h.map N.str))):=by show Z (Rs.ok (N.lst (B9 ((ą m μ::h).map N.str) (Z 1) U)))=_;congr 3;show(((ą m μ::h).map N.str).drop (min 1 ((ą m μ::h).map N.str).length)).take (((ą m μ::h).map N.str).length-min 1 ((ą m μ::h).map N.str).length)=_;rw[Nat.min_eq_left (by simp)];rw[F_,List.drop_succ_cons,aaR,Yi (by simp)]
  unfold dO;rw[z];rfl
 have o:He 4 [4,5] (dO (xB (Y 1) (dr (X 1)) gp)) bi (ER c f T3 U U) (Ő m μ)=Z (.nx (ER c f T3 U U) (h.foldl put (Ő m μ))):=by unfold He;rw[i];show(if ß (h.map N.str)=L then _ else U)=_;rw[if_pos (sS h)];exact Bd h (Ő m μ) U U hp rfl
 refine lK ?_;show eQ [Z (.str c),U,U,U,U,U]=_;unfold eQ;rw[aw (cJ (show cx (fB (f1 (jX qY) (Y 0))) [Z (.str c),U,U,U,U,U]=Z (.ok D)from rfl))];rw[aw (bA (a:=[Z (.str c),Z f,U,U,U,U]) v1 rfl)];rw[aw (bA (a:=ER c f T3 U U) P rfl)];rw[aw (cJ c1)];unfold EN;rw[show(aR (I Ì (Y 2) (X 0)) (aR (I Ì (Y 2) (X 2)) (wL (fC .non) (fC .non) (fC .non) (fC .non) (fC (.bl D)) (Ï "any")))) (ER c f T3 U U)=Z (.ok (Ő m μ))from rfl];show(match(pF (He 4 [4,5] (dO (xB (Y 1) (dr (X 1)) gp)) bi) (Ha 3 (Ý iw (ao (Y 3))))) (ER c f T3 U U) (Ő m μ)with|some (.nx s y)=>Z (Fl.nx (s.set 3 (Z (.lst y))))|some (.rt d)=>Z (.rt d)|none=>U)=_;unfold pF;rw[o];rfl
def je(a b:Str):(a++b).cps.toList=a.cps.toList++b.cps.toList:=Array.toList_append
def nY(b a:Str):Str->Str->List Str->List Str|pre,x,[]=>[pre++x++ė]|pre,x,y::l=>(pre++x++b)::nY b a a y l
def wc(b a:Str):∀(l:List Str)(pre x:Str),∃q r,nY b a pre x l=q::r|[],_,_=>⟨_,_,rfl⟩|_::_,_,_=>⟨_,_,rfl⟩
def JS:List Str->List Nat|[]=>[]|q::r=>J [59] q.cps.toList (r.map λs=>s.cps.toList)
def Be(a x y:Str)(l:List Str):Xe a (x::y::l)=x++a++Xe a (y::l):=by show abG a (x::y::l)=x++a++abG a (y::l);rw[aaq,aaq];rfl
def NU{c b a:Str}(f:c.cps.toList=b.cps.toList++59::a.cps.toList):∀(l:List Str)(pre x:Str),pre.cps.toList++(Xe c (x::l)).cps.toList=JS (nY b a pre x l)|[],pre,x=>by show pre.cps.toList++x.cps.toList=(pre++x++ė).cps.toList;rw[je,je];show _=_++[];simp|y::l,pre,x=>by have d:=NU f l a y;obtain⟨q,r,e⟩:=wc b a l a y;rw[Be,je,je,f];show _=JS ((pre++x++b)::nY b a a y l);rw[e]at d⊢;show _=(pre++x++b).cps.toList++([59]++J [59] q.cps.toList (r.map λs=>s.cps.toList));rw[show J [59] q.cps.toList (r.map λs=>s.cps.toList)=JS (q::r)from rfl,<-d,je,je];simp
def Ŏ(b a p:Str):Bool:=gX ė p b&&(gX ė p ė&&(gX a p b&&gX a p ė))
def nB(h:gX c m μ=L):VP (c++m++μ) ŝ=m/\59∉(c++m++μ).cps.toList:=by unfold gX at h;rw[pi]at h;exact⟨io h.1,by simpa using h.2⟩
def Bf{b a:Str}:∀(l:List Str)(pre x:Str),(gX pre x b=L/\gX pre x ė=L)->(∀p∈l,Ŏ b a p=L)->(nY b a pre x l).map (λq=>VP q ŝ)=x::l/\∀q∈nY b a pre x l,59∉q.cps.toList
 |[],pre,x,e,_=>by obtain⟨g,f⟩:=nB e.2;exact⟨by show[VP (pre++x++ė) ŝ]=[x];rw[g],λq c=>by rw[Ua.mp c];exact f⟩|y::l,pre,x,e,h=>by
  obtain⟨g,f⟩:=nB e.1;have d:=h y on;unfold Ŏ at d;simp only[pi]at d;obtain⟨k,j⟩:=Bf l a y ⟨d.2.2.1,d.2.2.2⟩ λp i=>h p (r_ _ i);refine⟨by show VP (pre++x++b) ŝ::(nY b a a y l).map _=_;rw[g,k],λq c=>?_⟩;rcases v_.mp c with rfl|c;·exact f
  ·exact j q c
def we{c a:Str}(h:c.length<=2)(f:a.length<=2):∀(l:List Str)(pre x:Str),pre.length<=2->x.length<=200->(∀p∈l,p.length<=200)->(nY c a pre x l).length=l.length+1/\∀q∈nY c a pre x l,q.length<=300
 |[],pre,x,d,g,_=>⟨rfl,λq b=>by
  rw[Ua.mp b,ip,ip];have:ė.length=0:=by decide
  omega⟩|y::l,pre,x,d,g,e=>by
  obtain⟨j,i⟩:=we h f l a y f (e y on) λp d=>e p (r_ _ d);refine⟨by show(nY c a a y l).length+1=_;rw[j];rfl,λq b=>?_⟩;rcases v_.mp b with rfl|b;·rw[ip,ip];omega
  ·exact i q b
def wf(a:Str)(c:a.length<=10):∀(l:List Str)(x:Str),(∀p∈l,p.length<=200)->(l.foldl (λt y=>t++a++y) x).length<=x.length+l.length*210|[],x,_=>by simp|y::l,x,h=>by have b:=wf a c l (x++a++y) λp d=>h p (r_ _ d);have e:=h y on;rw[ip,ip]at b;show(l.foldl _ (x++a++y)).length<=_;rw[TW];omega
def nE{a w:Str}(B:c.cps.toList=m.cps.toList++59::μ.cps.toList)(f:c.length<=10)(h1:m.length<=2)(P:μ.length<=2)(h:a∈Ĳ)(A:w∈Ĺ)(b:Ŏ m μ (ą a w)=L)(i:(ą a w).length<=200)(H:∀p∈u,Ŏ m μ p=L)(n:∀p∈u,p.length<=200)(hn:u.length<=50)(E:∀p∈u,Ÿ p=L):aN [.str (Xe c (ą a w::u))]=Z (.ok (.tup (u.foldl put (Ő a w)))):=by
 obtain⟨q,r,e⟩:=wc m μ u ė (ą a w);unfold Ŏ at b;simp only[pi]at b;obtain⟨v,o⟩:=Bf (b:=m) (a:=μ) u ė (ą a w) ⟨b.1,b.2.1⟩ H;obtain⟨k,j⟩:=we h1 P u ė (ą a w) (by decide) i n;have d:=NU B u ė (ą a w);rw[e]at d v o k j;have y:(Xe c (ą a w::u)).cps.toList=J (b_ ";").cps.toList q.cps.toList (r.map λs=>s.cps.toList):=by
  have z:ė.cps.toList=[]:=by lk
  rw[z]at d;exact d
 refine IV (u:=q::r) ?_ h A (uM (b:=59) (g:=[]) (by lk) (by lk) o y) (by rw[k];omega) v (λs g=>by have:=j s g;omega) E;rw[nA];have:=wf c f u (ą a w) n;omega
structure Gw(nm w:Str)(h p:Option Str)(u l:Option Int)(S:Bool)(R:Str):Prop where
 nm:nm∈Ĳ
 w:w∈Ĺ
 h:∀x,h=Z x->x∈En
 p:∀x,p=Z x->x∈ë
 u:∀i,u=Z i->0<=i/\i<60l:∀i,l=Z i->0<=i/\i<30r:R=b_ "any"\/R=b_ "near"
def Rk(g:Gv c m i η χ Κ H μ):∃h p f j,Gw c m h p f j H μ/\ć c m i η χ Κ H μ=gv c m h p f j H μ:=by
 have w:∃h,i=eS h/\∀x,h=Z x->x∈En:=by
  rcases g.hh with rfl|⟨n,a,rfl⟩;·exact⟨U,rfl,λx e=>by cases e⟩
  ·exact⟨Z n,rfl,λx e=>by cases e;exact a⟩
 have v:∃h,η=eS h/\∀x,h=Z x->x∈ë:=by
  rcases g.pp with rfl|⟨n,a,rfl⟩;·exact⟨U,rfl,λx e=>by cases e⟩
  ·exact⟨Z n,rfl,λx e=>by cases e;exact a⟩
 have u:∃h,χ=eO h/\∀x,h=Z x->0<=x/\x<60:=by
  rcases g.u with rfl|⟨n,d,b,rfl⟩;·exact⟨U,rfl,λx e=>by cases e⟩
  ·exact⟨Z n,rfl,λx e=>by cases e;exact⟨d,b⟩⟩
 have s:∃h,Κ=eO h/\∀x,h=Z x->0<=x/\x<30:=by
  rcases g.l with rfl|⟨n,d,b,rfl⟩;·exact⟨U,rfl,λx e=>by cases e⟩
  ·exact⟨Z n,rfl,λx e=>by cases e;exact⟨d,b⟩⟩
 obtain⟨h,rfl,r⟩:=w;obtain⟨p,rfl,q⟩:=v;obtain⟨χ,rfl,o⟩:=u;obtain⟨Κ,rfl,k⟩:=s;exact⟨h,p,χ,Κ,⟨g.nm,g.w,r,q,o,k,g.r⟩,rfl⟩
def qt:(Ĳ.all λx=>uk (x.length<=50))=L/\(Ĺ.all λx=>uk (x.length<=50))=L/\(En.all λx=>uk (x.length<=50))=L/\(ë.all λx=>uk (x.length<=50))=L:=⟨by lk,by lk,by lk,by lk⟩
def Bg:(Ĳ.all λx=>Uh (.str x))=L/\(Ĺ.all λx=>Uh (.str x))=L/\(En.all λx=>Uh (.str x))=L/\(ë.all λx=>Uh (.str x))=L:=⟨by lk,by lk,by lk,by lk⟩
def Rl{p:Option Str}(g:Gw c m Ξ p Δ Ι H μ):Vv c m Ξ p Δ Ι μ:=⟨by simpa using aU (p:=λx:Str=>uk (x.length<=50)) qt.1 g.nm,by simpa using aU (p:=λx:Str=>uk (x.length<=50)) qt.2.1 g.w,λx e=>by simpa using aU (p:=λx:Str=>uk (x.length<=50)) qt.2.2.1 (g.h x e),λx e=>by simpa using aU (p:=λx:Str=>uk (x.length<=50)) qt.2.2.2 (g.p x e),λi e=>by have:=g.u i e;omega,λi e=>by have:=g.l i e;omega⟩
def Rm(o:Option Int):Ĝ 0 (eO o):=by cases o;exact Nt;exact v8
def NV(a b:Option Int):UC (du (eO a)) (du (eO b))=uk (a=b):=by cases a<;>cases b<;>simp[eO,du,UC];rw[U4];simp
def PL(h p:Option Str)(u l:Option Int)(S:Bool)(R:Str):List Str:=(oS "for " h).toList++((oS "under " p).toList++((oI "until " u).toList++((oI "lasts " l).toList++((oB "safe" S).toList++((oB "near" (li R)).toList++[])))))
def NW{p:Option Str}:Xe (b_ "; ") (ą c m::PL Ξ p Δ Ι H μ)=T c m Ξ p Δ Ι H μ:=by rw[nA];unfold PL;rw[jt,jt,jt,jt,jt,jt];rfl
def lZ(c:0<=p)(a:p<b):p∈sQ b:=by unfold sQ;exact G_.mpr ⟨p.toNat,Ux.mpr (by omega),by omega⟩
def NY{p:Option Str}(g:Gw c m Ξ p Δ Ι H μ):∀x∈PL Ξ p Δ Ι H μ,x∈ś:=by
 intro x a;simp only[PL,Ue,Option.mem_toList,TD,or_false]at a;unfold ś;rcases a with e|e|e|e|e|e;·refine TH _ ?_;cases Ξ with|none=>cases e|some y=>cases e;exact G_.mpr ⟨y,g.h y rfl,rfl⟩
 ·refine p_ _ (TH _ ?_);cases p with|none=>cases e|some y=>cases e;exact G_.mpr ⟨y,g.p y rfl,rfl⟩
 ·refine p_ _ (p_ _ (TH _ ?_));cases Δ with|none=>cases e|some y=>cases e;exact G_.mpr ⟨y,lZ (g.u y rfl).1 (g.u y rfl).2,rfl⟩
 ·refine p_ _ (p_ _ (p_ _ (TH _ ?_)));cases Ι with|none=>cases e|some y=>cases e;exact G_.mpr ⟨y,lZ (g.l y rfl).1 (g.l y rfl).2,rfl⟩
 · refine p_ _ (p_ _ (p_ _ (p_ _ (TH _ ?_))));unfold oB at e;split at e;·cases e;simp
   ·cases e
 · refine p_ _ (p_ _ (p_ _ (p_ _ (TH _ ?_))));unfold oB at e;split at e;·cases e;simp
   ·cases e
structure Ptk(x:Str):Prop where
 t:Ÿ x=L
 q1:Ŏ ė ŝ x=L
 q2:Ŏ ė ė x=L
 q3:Ŏ ŧ ŧ x=L
 l:x.length<=200n:59∉x.cps.toList
def NZ(h:okS c=L):Ŏ ė ŝ c=L/\Ŏ ė ė c=L/\Ŏ ŧ ŧ c=L/\c.length<=200/\59∉c.cps.toList:=by unfold okS at h;simp only[pi,decide_eq_true_eq]at h;obtain⟨a,b,i,g,f,e⟩:=h;unfold Ŏ;simp only[pi];refine⟨⟨a,a,b,b⟩,⟨a,a,a,a⟩,⟨g,a,i,f⟩,e,?_⟩;have:=(nB a).2;rw[je,je]at this;intro d;exact this (TH _ (p_ _ d))
def Ű(a:c∈ś):Ptk c:=by have h:=aU IR a;unfold Sk at h;rw[pi]at h;obtain⟨g,f,e,d,b⟩:=NZ h.2;exact⟨h.1,g,f,e,d,b⟩
def IW(b:c∈Ĳ)(d:m∈Ĺ):okS (ą c m)=L:=by have a:=aU (p:=λm=>IU c m) (aU (p:=λn=>Ĺ.all λm=>IU n m) wb b) d;unfold IU at a;simp only[pi]at a;exact a.1.1
def IX(d:c∈Ĳ)(e:m∈Ĺ)(b:∀x∈u,x∈ś)(f:u.length<=50):aN [.str (Xe (b_ "; ") (ą c m::u))]=Z (.ok (.tup (u.foldl put (Ő c m))))/\aN [.str (Xe (b_ ";") (ą c m::u))]=Z (.ok (.tup (u.foldl put (Ő c m))))/\aN [.str (Xe (b_ "  ;  ") (ą c m::u))]=Z (.ok (.tup (u.foldl put (Ő c m)))):=by obtain⟨f1,I,h,g,i⟩:=NZ (IW d e);exact⟨nE (m:=ė) (μ:=ŝ) (by lk) (by decide) (by decide) (by decide) d e f1 g (λx a=>(Ű (b x a)).q1) (λx a=>(Ű (b x a)).l) f λx a=>(Ű (b x a)).t,nE (m:=ė) (μ:=ė) (by lk) (by decide) (by decide) (by decide) d e I g (λx a=>(Ű (b x a)).q2) (λx a=>(Ű (b x a)).l) f λx a=>(Ű (b x a)).t,nE (m:=ŧ) (μ:=ŧ) (by lk) (by decide) (by decide) (by decide) d e h g (λx a=>(Ű (b x a)).q3) (λx a=>(Ű (b x a)).l) f λx a=>(Ű (b x a)).t⟩
def N0{p:Option Str}:(PL Ξ p Δ Ι H c).length<=6:=by have f1:=oV (oS "for " Ξ);have a:=oV (oS "under " p);have f:=oV (oI "until " Δ);have e:=oV (oI "lasts " Ι);have d:=oV (oB "safe" H);have b:=oV (oB "near" (li c));simp[PL];omega
def gs(o:Option Str)(c:N):N:=match o with|none=>c|some x=>.str x
def gi(o:Option Int)(c:N):N:=match o with|none=>c|some x=>.int x
def gb(o:Bool)(c d:N):N:=if o then d else c
def To(j:∀x,Ξ=Z x->x∈En)(h:List Str)(a b c d e f g i:N):((oS "for " Ξ).toList++h).foldl put [a,b,c,d,e,f,g,i]=h.foldl put [a,b,gs Ξ c,d,e,f,g,i]:=by cases Ξ with|none=>rfl|some x=>show h.foldl put (put _ (b_ "for "++x))=_;unfold put;rw[Rg (j x rfl)];rfl
def Tp(j:∀x,Ξ=Z x->x∈ë)(h:List Str)(a b c d e f g i:N):((oS "under " Ξ).toList++h).foldl put [a,b,c,d,e,f,g,i]=h.foldl put [a,b,c,gs Ξ d,e,f,g,i]:=by cases Ξ with|none=>rfl|some x=>show h.foldl put (put _ (b_ "under "++x))=_;unfold put;rw[Rh (j x rfl)];rfl
def Tq(j:∀x,Δ=Z x->0<=x/\x<60)(h:List Str)(a b c d e f g i:N):((oI "until " Δ).toList++h).foldl put [a,b,c,d,e,f,g,i]=h.foldl put [a,b,c,d,gi Δ e,f,g,i]:=by cases Δ with|none=>rfl|some x=>show h.foldl put (put _ (b_ "until "++is x))=_;unfold put;rw[Ri (lZ (j x rfl).1 (j x rfl).2)];rfl
def Tr(j:∀x,Δ=Z x->0<=x/\x<30)(h:List Str)(a b c d e f g i:N):((oI "lasts " Δ).toList++h).foldl put [a,b,c,d,e,f,g,i]=h.foldl put [a,b,c,d,e,gi Δ f,g,i]:=by cases Δ with|none=>rfl|some x=>show h.foldl put (put _ (b_ "lasts "++is x))=_;unfold put;rw[Rj (lZ (j x rfl).1 (j x rfl).2)];rfl
def Ts(h:List Str)(a b c d e f g i:N):((oB "safe" H).toList++h).foldl put [a,b,c,d,e,f,g,i]=h.foldl put [a,b,c,d,e,f,gb H g (.bl L),i]:=by cases H with|false=>rfl|true=>show h.foldl put (put _ (b_ "safe"))=_;unfold put;rw[NS];rfl
def Tt(k:Bool)(h:List Str)(a b c d e f g i:N):((oB "near" k).toList++h).foldl put [a,b,c,d,e,f,g,i]=h.foldl put [a,b,c,d,e,f,g,gb k i (.str "near")]:=by cases k with|false=>rfl|true=>show h.foldl put (put _ (b_ "near"))=_;unfold put;rw[NT];rfl
def N1{p:Option Str}(g:Gw c m Ξ p Δ Ι H μ)(a b h d e f k i:N):(PL Ξ p Δ Ι H μ).foldl put [a,b,h,d,e,f,k,i]=[a,b,gs Ξ h,gs p d,gi Δ e,gi Ι f,gb H k (.bl L),gb (li μ) i (.str "near")]:=by unfold PL;rw[To g.h,Tp g.p,Tq g.u,Tr g.l,Ts,Tt];rfl
def N2{p:Option Str}(g:Gw c m Ξ p Δ Ι H μ):gb (li μ) (.str "any") (.str "near")=.str μ:=by rcases g.r with e|e<;>rw[e]<;>rfl
def Fq(o:Option Str):gs o .non=eS o:=by cases o<;>rfl
def Ft(o:Option Int):gi o .non=eO o:=by cases o<;>rfl
def Tu(S:Bool):gb S (.bl D) (.bl L)=.bl S:=by cases S<;>rfl
def Rn{p:Option Str}(g:Gw c m Ξ p Δ Ι H μ):N.tup ((PL Ξ p Δ Ι H μ).foldl put (Ő c m))=gv c m Ξ p Δ Ι H μ:=by unfold Ő;rw[N1 g,N2 g,Fq,Fq,Ft,Ft,Tu]
def N3(i:Int):az [.int i]=bo (uk (0<=i)&&uk (i<=9999)):=by
 have e:aL [.int i,.int 0,.int 9999]=bo (uk (0<=i)&&uk (i<=9999)):=by
  by_cases a:0<=i;·simp[aL,aS,aY,aJ,sq,bg,aI,cH,Ö,Ċ,cx,fB,ā,Y,f1,I,kG,jX,fH,rn,į,a]
  ·simp[aL,aS,aY,aJ,sq,bg,aI,cH,Ö,Ċ,cx,fB,ā,Y,f1,I,kG,jX,fH,rn,į,a]
 have b:ba [.int i]=bo (uk (0<=i)&&uk (i<=9999)):=by simp[ba,aS,dX,aI,cH,Ö,ae,aR,eZ,Y,fC,e]
 simp[az,aS,bh,aI,cH,Ö,ā,ae,aR,eZ,Y,fC,I,Ĩ,ċ,b]
def N4{p:Option Str}(g:Gw c m Ξ p Δ Ι H μ):aN [.str (T c m Ξ p Δ Ι H μ)]=Z (.ok (gv c m Ξ p Δ Ι H μ)):=by have:=(IX (c:=c) (m:=m) g.nm g.w (NY g) (TX N0 (by omega))).1;rw[NW,Rn g]at this;exact this
abbrev ntn(e w a:Str)(f:Bool)(c:Str)(d:N)(S:Bool)(R:Str)(b:Int):N:=.tup [.str e,.str w,.str a,.bl f,.str c,d,.bl S,.str R,.int b,.int b]
def Bh{k:Nat}(h:Ĝ k i)(a:k<=64):ď i i=Z (.ok (.bl D)):=AR (h.okP a) h.p
def Fu(u l:N)(a:Int):N:=match l with|.int i=>.int (if 9999<a+i then 9999 else a+i)|_=>u
def N5(g:Gv c m i η χ Κ H μ):iV [ć c m i η χ Κ H μ,.int p]=Z (.ok (Fu χ Κ p)):=by
 rcases g.l with rfl|⟨a,i0,b,rfl⟩;·simp[iV,aS,iU,aJ,sq,bg,aI,cH,Ö,fB,ā,Y,fC,I,Ì,Ă,ċ,Fu]
 ·simp[iV,aS,iU,aJ,sq,bg,aI,cH,Ö,fB,ā,aR,eZ,Y,fC,I,Ì,Ă,Ý,ċ,cY,OW,Fu]
def N6(g:Gv c m i η χ Κ H μ)(b:0<=p):Mo (Fu χ Κ p):=by
 rcases g.l with rfl|⟨a,i0,d,rfl⟩;·exact g.mu
 ·refine .inr ⟨_,?_,?_,rfl⟩<;>split<;>omega
def Fv{h b:Str}{O:N}{d e:Str}{f:Bool}(v:r∈kz è)(a:Ak h b O)(g:Gv c m i η χ Κ H μ)(n:0<=p)(k:p<=9999)(W:Wt r h b O c m i η χ Κ H μ À d e f .non):fV [.tup r,ø À h b O,ć c m i η χ Κ H μ,.int p]=Z (.ok (ntn c m d f e (Fu χ Κ p) H μ p)):=by have A:=Ra (jd v);have z:=Rb (DQ (H:=À) a);have y:=Sh (A0 g);have w:=IL (sO n k);have j:=W.why;have u:=W.hf;have s:=W.ix;have q:=W.pf;have o:=N5 (p:=p) g;simp[fV,aS,vP,aJ,sq,bg,aI,ff,cH,Ö,fB,ā,ae,ae,aR,eZ,Y,fC,I,Ì,Ă,iC,nI,A,z,y,w,j,u,s,q,o]
namespace J
def Bi{b:å}(c:Ο ζ=Z (.ok H))(a:b ζ=Z (.ok À)):Ċ Ο b ζ=Z (.ok (H||À)):=by
 unfold Ċ;rw[c];cases H;·exact a
 ·rfl
def N3(i:Int):ba [.int i]=bo (uk (0<=i)&&uk (i<=9999)):=by
 have e:aL [.int i,.int 0,.int 9999]=bo (uk (0<=i)&&uk (i<=9999)):=by
  by_cases a:0<=i;·simp[aL,aS,aY,aJ,sq,bg,aI,cH,Ö,Ċ,cx,fB,ā,Y,f1,I,kG,jX,fH,rn,į,a]
  ·simp[aL,aS,aY,aJ,sq,bg,aI,cH,Ö,Ċ,cx,fB,ā,Y,f1,I,kG,jX,fH,rn,į,a]
 simp[ba,aS,dX,aI,cH,Ö,ae,aR,eZ,Y,fC,e]
def sO(b:0<=p)(a:p<=9999):ba [.int p]=bo L:=by rw[N3];simp[b,a]
def qm(h:c=b_ "any"\/c=b_ "near"):dZ [.str c]=bo L/\∃r,à (.str c) (.str "any")=bo r/\à (.str c) (.str "near")=bo (!r):=by
 rcases h with rfl|rfl;·exact⟨by lk,L,by lk,by lk⟩
 ·exact⟨by lk,D,by lk,by lk⟩
structure ak where
 nm:Str
 w:Str
 house:Str
 ex:Bool
 path:Str
 ends:Option Int
 S:Bool
 R:Str
 md:Int
 us:Int
deriving DecidableEq
def Ñ(n:ak):N:=.tup [.str n.nm,.str n.w,.str n.house,.bl n.ex,.str n.path,eO n.ends,.bl n.S,.str n.R,.int n.md,.int n.us]
def ek(n:ak):N:=.tup [.str n.nm,.str n.house,.str n.path]
def key(n:ak):List Str:=[n.nm,n.house,n.path]
structure æ(n:ak):Prop where
 nm:n.nm∈Ĳ
 w:n.w∈Ĺ
 house:n.house∈En
 path:n.path∈ë
 R:n.R=b_ "any"\/n.R=b_ "near"ends:∀i,n.ends=Z i->0<=i/\i<=9999mk0:0<=n.md
 mu:n.md<=n.us
 us:n.us<=200
variable{ο:ak}
def Ro(g:æ ο):Mo (eO ο.ends):=by cases h:ο.ends with|none=>exact .inl rfl|some i=>exact .inr ⟨i,(g.ends i h).1,by have:=(g.ends i h).2;omega,rfl⟩
def N7(g:æ ο):fL [Ñ ο]=bo L:=by
 have a:bO [Ñ ο,.int 10]=bo L:=by lk
 have d:=sO g.mk0 (by have:=g.mu;have:=g.us;omega);have c:=sO (Int.le_trans g.mk0 g.mu) (by have:=g.us;omega);have b:az [eO ο.ends]=bo L:=AX (Ro g);unfold Ñ at a⊢;simp[fL,aS,kl,aJ,sq,bg,aI,cH,Ö,Ċ,cx,fB,ā,ae,aR,eZ,Y,fC,f1,I,Ì,Ă,ju,Ý,jX,fH,a,d,c,Se g.nm,Sf g.w,NC g.house,Q9 g.path,b,(qm g.R).1,pB,j6,į,g.mu]
def ÿ:List Str:=Ĳ++(Ĺ++(En++(ë++[b_ "any",b_ "near"])))
def Bg:(ÿ.all λx=>Uh (.str x))=L:=by lk
def sU(h:c∈ÿ):Uh (.str c)=L:=aU (p:=λc=>Uh (.str c)) Bg h
def sRx(g:æ ο):ο.R∈ÿ:=by unfold ÿ;rcases g.R with h|h<;>rw[h]<;>simp
def wg(g:æ ο):Ĝ 1 (Ñ ο):=by
 refine AS (b:=0) λd a=>?_;simp only[v_,TD,or_false]at a;rcases a with rfl|rfl|rfl|rfl|rfl|rfl|rfl|rfl|rfl|rfl;·exact kx (sU (by simp[ÿ,g.nm]))
 ·exact kx (sU (by simp[ÿ,g.w]))
 ·exact kx (sU (by simp[ÿ,g.house]))
 ·exact Nr
 ·exact kx (sU (by simp[ÿ,g.path]))
 ·exact Rm _
 ·exact Nr
 ·exact kx (sU (sRx g))
 ·exact v8
 ·exact v8
def IY(g:æ ο):Ĝ 1 (ek ο):=by
 refine AS (b:=0) λd a=>?_;simp only[v_,TD,or_false]at a;rcases a with rfl|rfl|rfl;·exact kx (sU (by simp[ÿ,g.nm]))
 ·exact kx (sU (by simp[ÿ,g.house]))
 ·exact kx (sU (by simp[ÿ,g.path]))
def N8(a b:ak):UC (du (ek a)) (du (ek b))=uk (key a=key b):=by rw[U4];simp[ek,key,du,ä,UC,V5]
def IZ(a b:ak):UC (du (Ñ a)) (du (Ñ b))=uk (a=b):=by rw[U4];have e:=NV a.ends b.ends;cases a;cases b;simp[Ñ,du,ä,UC,V5,e]
def N9{b:ak}(g:æ ο)(f:æ b):à (ek ο) (ek b)=bo (uk (key ο=key b))/\ď (ek ο) (ek b)=bo (!uk (key ο=key b)):=by
 have d:=(IY g).okP (by omega);have c:=(IY f).okP (by omega);have a:=N8 ο b;have e:Ş (ek ο) (ek b)=U:=rfl;constructor;·unfold à;rw[e,d,c,a];rfl
 ·unfold ď;rw[e,d,c,a];rfl
def í(n:ak)(a:Int):Bool:=match n.ends with|none=>D|some i=>uk (i<=a)
def ej(a:List ak):N:=.tup (a.map Ñ)
structure ŉ(js:List ak):Prop where
 g:∀n∈js,æ n
 s:∀i(h:i+1<js.length),js[i].md<=js[i+1].md
 k:(js.map key).Nodup
 l:js.length<=20
def Oa{a:Type}{o:Option (Rs P)}{k:P->Option (Rs a)}(h:o=Z (.ok È)):Ö o k=k È:=by rw[h];rfl
def Bj:∀(n:Nat)(lo:Int),rng lo n=(rl n).map λi:Nat=>N.int (lo+(i:Int))
 |0,lo=>rfl|n+1,lo=>by
  rw[Z9];show N.int lo::rng (lo+1) n=_;rw[Bj n (lo+1)];simp only[F_,Uq];congr 1;·simp
  ·congr 1;funext i;simp only[Xz];congr 1;omega
variable{h:List ak}
def iB(a:ζ[b]?=Z (Z (ej h))):dO (Y b) ζ=Z (.ok (h.map Ñ)):=by unfold dO Y;rw[a];rfl
def I0(b:∀o∈h,æ o):Ĝ 2 (.lst (h.map Ñ)):=AT λd c=>by obtain⟨x,a,rfl⟩:=G_.mp c;exact wg (b x a)
def Rp(b:∀o∈h,æ o):Ĝ 2 (ej h):=AS λd c=>by obtain⟨x,a,rfl⟩:=G_.mp c;exact wg (b x a)
def nil_eq(b:∀o∈h,æ o):à (.lst (h.map Ñ)) (.lst [])=bo h.isEmpty:=by cases h with|nil=>lk|cons o rest=>
 have i2:=(I0 b).okP (by omega);have a:okP (.lst [])=L:=by lk
 unfold à;rw[show Ş (.lst ((o::rest).map Ñ)) (.lst [])=U from rfl,i2,a];simp[du,ä,UC,V5]
def iz(n:ak):cy [Ñ n]=Z (.ok (ek n)):=by simp[cy,aS,DG,aI,cH,Ö,aR,eZ,Y,fC,I,Ì,Ă,iC,Ñ,ek]
def sV:∀a:List ak,keysOf (a.map ek)=Z (a.map key)|[]=>rfl|n::a=>by show(match bD [.str n.nm,.str n.house,.str n.path],keysOf (a.map ek)with|some k,Z b=>Z (k::b)|_,_=>U)=_;rw[sV a];rfl
def DX(J:ŉ h):cw [ej h]=bo L:=by
 have e:=J.l;have c:cu 1 [] (dO (Y 0)) (gN 0) U (ae cy 1 (ao (Y 0))) [Z (ej h),U]=Z (.ok (.lst (h.map ek))):=sL Ñ ek (iB rfl) (by omega) λn d=>eD cy rfl (iz n);have b:mG [.lst (h.map ek)]=Z (.ok (.int (h.length:Int))):=by show(match keysOf (h.map ek)with|some a=>if a.Nodup/\a.length<=20 then(Z (.ok (.int (a.length:Nat))):Option (Rs N))else U|none=>U)=_;rw[sV];dsimp only;rw[if_pos ⟨J.k,by simp;omega⟩,N_]
 refine fI ?_;show bN [Z (ej h),U]=_;unfold bN;rw[aw (bA (a:=[Z (ej h),Z (.lst (h.map ek))]) c rfl)];refine cA ((bK ((cj (ag (i:=.lst (h.map ek)) rfl aq)).trans b) (η:=.int h.length) (by show Z (Rs.ok (N.int ((h.map ek).length:Int)))=_;rw[N_])).trans ?_);show Z (Rs.ok (N.bl ((h.length:Int)==(h.length:Int))))=_;simp
def all_map(p:P->Bool)(l:List P):pB [.lst (l.map λa=>N.bl (p a))]=bo (l.all p):=by unfold pB;dsimp only;rw[nu p l];dsimp only;rw[List.all_map];rfl
def wj(l:List P):pB [.lst (l.map λ_=>N.bl L)]=bo L:=by rw[all_map (λ_=>L) l];simp
def Ob(a:b<h.length):Ì (ej h) (.int b)=Z (.ok (Ñ h[b])):=by show(match Ă (h.map Ñ) (b:Int)with|some d=>_|none=>_)=_;unfold Ă;rw[if_pos (by omega)];simp[a]
def Oc(n:ak):Ì (Ñ n) (.int 8)=Z (.ok (.int n.md)):=rfl
def Oe(a:List ak)(c:a.length<=20):(λb=>Ö ((bJ (X 1) (Ý fA (ao (Y 0)))) b) BH) [Z (ej a)]=Z (.ok ((rl (a.length-1)).map λi:Nat=>N.int (1+(i:Int)))):=by
 have h:(bJ (X 1) (Ý fA (ao (Y 0)))) [Z (ej a)]=Z (.ok [.int 1,.int a.length]):=by simp[Ö,aR,eZ,Ý,fC,Y,ej,fA]
 refine(Oa (k:=BH) h).trans ?_;rw[Nq (by omega),Bj,show((a.length:Int)-1).toNat=a.length-1 by omega]
def Sl:Ò:=(I į (I Ì (I Ì (Y 1) (I wO (Y 0) (X 1))) (X 8)) (I Ì (I Ì (Y 1) (Y 0)) (X 8)))
def Ja(J:ŉ h){i:Nat}(a:i+1<h.length):Sl [Z (.int (1+(i:Int))),Z (ej h)]=Z (.ok (.bl L)):=by
 have b:=J.s i a;have e:I Ì (Y 1) (I wO (Y 0) (X 1)) [Z (.int (1+(i:Int))),Z (ej h)]=Z (.ok (Ñ h[i])):=by have q:=Ob (h:=h) (b:=i) (by omega);rw[show(i:Int)=1+(i:Int)-1 by omega]at q;exact q
 have d:I Ì (Y 1) (Y 0) [Z (.int (1+(i:Int))),Z (ej h)]=Z (.ok (Ñ h[i+1])):=by have q:=Ob (h:=h) (b:=i+1) a;rw[show((i+1:Nat):Int)=1+(i:Int)by omega]at q;exact q
 have c:į (.int h[i].md) (.int h[i+1].md)=Z (.ok (.bl L)):=by simp[į,b]
 exact(bK ((bK e rfl).trans (Oc _)) ((bK d rfl).trans (Oc _))).trans c
def Rq(J:ŉ h):cf [("notes",0)] (λa=>Ö ((bJ (X 1) (Ý fA (ao (Y 0)))) a) BH) U Sl [Z (ej h)]=Z (.ok (.lst ((rl (h.length-1)).map λ_=>N.bl L))):=il (λi:Nat=>N.int (1+(i:Int))) (λ_=>N.bl L) (Oe h J.l) (by have:=J.l;rw[Xb];omega) λi b=>Ja J (by have:=Ux.mp b;omega)
def Jb(J:ŉ h):gk [ej h]=bo L:=fI (i:=.bl L) (cA ((cj (ag (Rq J) aq)).trans (wj _)))
def t_a(J:ŉ h):cf [] (dO (Y 0)) U (ae fL 1 (ao (Y 0))) [Z (ej h)]=Z (.ok (.lst (h.map λ_=>N.bl L))):=il Ñ (λ_=>N.bl L) (iB rfl) (by have:=J.l;omega) λn a=>eD fL rfl (N7 (J.g n a))
def t_b(J:ŉ h):(Ċ (cx (fB (f1 (jX tQ) (Y 0)))) (fB (I ť (Ý fA (ao (Y 0))) (X 20)))) [Z (ej h)]=Z (.ok D):=by
 have a:¬(20<(h.length:Int)):=by have:=J.l;omega
 simp[Ċ,cx,fB,f1,I,jX,tQ,Y,Ö,ā,Ý,aR,eZ,fC,ej,fA,PJ,a]
def t_c(J:ŉ h):Ý pB (ao (cf [] (dO (Y 0)) U (ae fL 1 (ao (Y 0))))) [Z (ej h)]=bo L:=(cj (ag (t_a J) aq)).trans (wj h)
def t_d(J:ŉ h):kn [Z (ej h)]=Z (.rt (.bl L)):=by unfold kn;rw[aw (cJ (t_b J))];rw[aw (cJ (kO (H:=L) (bq (t_c J))))];refine cA ?_;rw[LD (eD gk rfl (Jb J))];exact eD cw rfl (DX J)
def uN(J:ŉ h):ib [ej h]=bo L:=fI (i:=.bl L) (t_d J)
abbrev zz1:Þ:=(qG (Y 0) (Y 1) (Y 2) (Y 3) (Y 4))
abbrev zz2:Þ:=(qU (Y 0) (Y 2) (Y 3) (Y 4))
def qu(n:ak)(k:Int):br [Ñ n,.int k]=bo (í n k):=by cases h:n.ends<;>simp[br,aS,ig,sq,aI,Py,cH,Ö,ā,Y,fC,I,Ì,Ă,kG,nI,Ñ,eO,í,h,į]
def Jc:(ë.all λp=>ë.all λq=>Ř (bQ [.str p,.str q]))=L:=by lk
def Rr(h:c∈ë)(a:m∈ë):∃k,bQ [.str c,.str m]=bo k:=AV (aU (p:=λm=>Ř (bQ [.str c,.str m])) (aU (p:=λc=>ë.all λm=>Ř (bQ [.str c,.str m])) Jc h) a)
def ĵ(p q:Str):Bool:=Ī (aD [.str p,.str q])
def unB(p q:Str):Bool:=Ī (bQ [.str p,.str q])
def Je(h:c∈En)(a:m∈En):aD [.str c,.str m]=bo (ĵ c m):=by obtain⟨k,e⟩:=Sg h a;unfold ĵ;rw[e];cases k<;>rfl
def Rt(h:c∈ë)(a:m∈ë):bQ [.str c,.str m]=bo (unB c m):=by obtain⟨k,e⟩:=Rr h a;unfold unB;rw[e];cases k<;>rfl
def Jf(o N:ak)(a:Int):Bool:=o.S&&(!í o a&&(seq o.nm N.nm&&((ĵ N.house o.house||ĵ o.house N.house)&&unB N.path o.path)))
def i0(n:ak):Ì (Ñ n) (.int 0)=Z (.ok (.str n.nm)):=rfl
def i2(n:ak):Ì (Ñ n) (.int 2)=Z (.ok (.str n.house)):=rfl
def i4(n:ak):Ì (Ñ n) (.int 4)=Z (.ok (.str n.path)):=rfl
def i6(n:ak):Ì (Ñ n) (.int 6)=Z (.ok (.bl n.S)):=rfl
def Fw(a:Ο ζ=Z (.ok H)):aJ (bg Ο (aI (fC (.bl D))) é) Υ ζ=if H=L then Z (.rt (.bl D))else Υ ζ:=by unfold aJ bg;rw[a];cases H<;>rfl
def Fx{b:å}(c:Ο ζ=Z (.ok H))(a:b ζ=Z (.ok À)):mB Ο b ζ=Z (.ok (H&&À)):=by
 unfold mB;rw[c];cases H;·rfl
 ·exact a
def nF(a:Ο ζ=Z (.ok H)):cx Ο ζ=Z (.ok (!H)):=by unfold cx;rw[a];rfl
def xq{N:ak}(b:æ ο)(c:æ N)(a:Int):iZ [Ñ ο,Ñ N,.int a]=bo (Jf ο N a):=by have e:=Je c.house b.house;have d:=Je b.house c.house;have f:=Rt c.path b.path;have h:(Ċ (cx (fB (I Ì (Y 0) (X 6)))) (Ċ (fB (ae br 2 (bJ (Y 0) (Y 2)))) (fB (I ď (I Ì (Y 0) (X 0)) (I Ì (Y 1) (X 0)))))) [Z (Ñ ο),Z (Ñ N),Z (.int a)]=Z (.ok (!ο.S||(í ο a||!seq ο.nm N.nm))):=Bi (nF (bq (H:=ο.S) ((bK (i:=Ñ ο) (η:=.int 6) rfl rfl).trans (i6 ο)))) (Bi (bq (dP br rfl rfl (qu ο a))) (bq ((bK (i:=.str ο.nm) (η:=.str N.nm) rfl rfl).trans rfl)));have g:(mB (cx (fB (ae aD 2 (bJ (I Ì (Y 1) (X 2)) (I Ì (Y 0) (X 2)))))) (cx (fB (ae aD 2 (bJ (I Ì (Y 0) (X 2)) (I Ì (Y 1) (X 2))))))) [Z (Ñ ο),Z (Ñ N),Z (.int a)]=Z (.ok (!ĵ N.house ο.house&&!ĵ ο.house N.house)):=Fx (nF (bq (dP aD rfl rfl e))) (nF (bq (dP aD rfl rfl d)));refine fI ?_;show iY [Z (Ñ ο),Z (Ñ N),Z (.int a)]=_;unfold iY;rw[Fw h,Fw g,NI (dP bQ rfl rfl f)];unfold Jf;cases ο.S<;>cases í ο a<;>cases seq ο.nm N.nm<;>cases ĵ N.house ο.house<;>cases ĵ ο.house N.house<;>rfl
def any_map(p:P->Bool)(l:List P):Ht [.lst (l.map λa=>N.bl (p a))]=bo (l.any p):=by show(match j6 (l.map λa=>N.bl (p a))with|some bs=>Z (Rs.ok (N.bl (bs.any id)))|none=>U)=_;rw[nu];simp
def wv(c:N)(s:Bool)(e:List ak)(a:ak)(b:Int):N:=match c with|.non=>if(!s&&e.any λo=>Jf o a b)=L then .str "shadowed"else if í a b=L then .str "gone"else .str "kept"|d=>d
def Fy(a:Ο ζ=Z (.ok H)):aJ (bg Ο (aI (fC i)) é) Υ ζ=if H=L then Z (.rt i)else Υ ζ:=by unfold aJ bg;rw[a];cases H<;>rfl
def Of{w:Str}{l:N}{R:Str}{a b:Str}{k:Bool}{d:N}(W:Wt r c m i μ w η χ Κ l H R À a b k d)(j:d≠.non):bI [.tup r,ej h,ø À c m i,ć μ w η χ Κ l H R,.int p]=Z (.ok d):=by
 obtain⟨x,g⟩:∃x,d=.str x:=by
  rcases W.win with e|⟨x,_,e⟩;·exact absurd e j
  ·exact⟨_,e⟩
 subst g;refine lK ?_;show fW [Z (.tup r),Z (ej h),Z (ø À c m i),Z (ć μ w η χ Κ l H R),Z (.int p),U,U]=_;unfold fW;have f:ae bB 3 (dU (Y 0) (Y 2) (Y 3)) [Z (.tup r),Z (ej h),Z (ø À c m i),Z (ć μ w η χ Κ l H R),Z (.int p),U,U]=Z (.ok (.str x)):=cE bB (ag rfl (ag rfl (ag rfl aq))) rfl W.why;rw[aw (bA f rfl)];simp only[Wc,Wb];rfl
def Og{w:Str}{l:N}{R:Str}{b d:Str}{e:Bool}(u:r∈kz è)(a:Ak c m i)(g:Gv μ w η χ Κ l H R)(s:0<=p)(q:p<=9999)(W:Wt r c m i μ w η χ Κ l H R À b d e .non)(y:Ñ ο=ntn μ w b e d (Fu Κ l p) H R p)(A:æ ο)(z:∀n∈h,æ n)(P:h.length<=20):bI [.tup r,ej h,ø À c m i,ć μ w η χ Κ l H R,.int p]=Z (.ok (wv .non À h ο p)):=by
 have f:=Fv u a g s q W;rw[<-y]at f;refine lK ?_;show fW [Z (.tup r),Z (ej h),Z (ø À c m i),Z (ć μ w η χ Κ l H R),Z (.int p),U,U]=_;unfold fW;have k:ae bB 3 (dU (Y 0) (Y 2) (Y 3)) [Z (.tup r),Z (ej h),Z (ø À c m i),Z (ć μ w η χ Κ l H R),Z (.int p),U,U]=Z (.ok .non):=cE bB (ag rfl (ag rfl (ag rfl aq))) rfl W.why;rw[aw (bA k rfl)];simp only[Wc,Wb];rw[aw (cJ (show fB (I nI (Y 5) (fC .non)) [Z (.tup r),Z (ej h),Z (ø À c m i),Z (ć μ w η χ Κ l H R),Z (.int p),Z .non,U]=Z (.ok D)from rfl))];have j:ae fV 4 (qU (Y 0) (Y 2) (Y 3) (Y 4)) [Z (.tup r),Z (ej h),Z (ø À c m i),Z (ć μ w η χ Κ l H R),Z (.int p),Z .non,U]=Z (.ok (Ñ ο)):=cE fV (ag rfl (ag rfl (ag rfl (ag rfl aq)))) rfl f;rw[aw (bA j rfl)];simp only[Wc,Wb];have E:(mB (cx (fB (I Ì (Y 2) (X 0)))) (fB (Ý Ht (ao (cf [("now",4),("note",6)] (dO (Y 1)) U (ae iZ 3 (dU (Y 0) (Y 2) (Y 1)))))))) [Z (.tup r),Z (ej h),Z (ø À c m i),Z (ć μ w η χ Κ l H R),Z (.int p),Z .non,Z (Ñ ο)]=Z (.ok (!À&&h.any λo=>Jf o ο p)):=by refine Fx (nF (bq (H:=À) rfl)) (bq ((cj (ag (i:=.lst (h.map λo=>N.bl (Jf o ο p))) ?_ aq)).trans (any_map _ _)));exact il Ñ (λo=>N.bl (Jf o ο p)) (iB rfl) (by omega) λo v=>ql iZ rfl rfl rfl (xq (z o v) A p)
 rw[Fy E];have B:fB (ae br 2 (bJ (Y 6) (Y 4))) [Z (.tup r),Z (ej h),Z (ø À c m i),Z (ć μ w η χ Κ l H R),Z (.int p),Z .non,Z (Ñ ο)]=Z (.ok (í ο p)):=bq (dP br rfl rfl (qu ο p));rw[Fy B];show _=Z (Fl.rt (if(!À&&h.any λo=>Jf o ο p)=L then .str "shadowed"else if í ο p=L then .str "gone"else .str "kept"));split;·rfl
 ·split<;>rfl
def JZ(a:List ak)(n:ak):List ak:=match a.filter (λo=>uk (key o=key n))with|[]=>a++[n]|o::_=>a.map λx=>if key x=key n then{n with md:=o.md}else x
def Oh(m:∀o∈h,æ o)(s:æ ο)(v:h.length<=20):DH [ej h,Ñ ο]=Z (.ok (ej (JZ h ο))):=by have k:∀o∈h,∀(r:Ev),(fB (I à (ae cy 1 (ao (Y 0))) (ae cy 1 (ao (Y 1))))) (Z (Ñ o)::Z (Ñ ο)::r)=Z (.ok (uk (key o=key ο))):=λo b r=>bq ((bK (eD cy rfl (iz o)) (eD cy rfl (iz ο))).trans (N9 (m o b) s).1);have f:=oU (c:=[("note",1)]) (ξ:=dO (Y 0)) (Ο:=(fB (I à (ae cy 1 (ao (Y 0))) (ae cy 1 (ao (Y 1)))))) (B:=Y 0) (ζ:=[Z (ej h),Z (Ñ ο),U,U]) Ñ (λo=>uk (key o=key ο)) Ñ (iB rfl) (by omega) λo b=>⟨k o b [],rfl⟩;unfold JZ;cases e:h.filter (λo=>uk (key o=key ο))with
 |nil=>
 rw[e]at f;refine fI (i:=ej (h++[ο])) ?_;show uA [Z (ej h),Z (Ñ ο),U,U]=_;unfold uA;rw[aw (bA f rfl)];simp only[Wc,Wb];refine mE ?_;rw[Ar (by lk)];refine cA ?_;have j:h.length+1<=100000:=by omega
 simp[Ö,aR,eZ,Y,I,iC,ej,iy,j]|cons o rest=>
 rw[e]at f;have b:o∈h:=(TY.mp (e▸on:o∈h.filter _)).1;refine fI (i:=ej (h.map λx=>if key x=key ο then{ο with md:=o.md}else x)) ?_;show uA [Z (ej h),Z (Ñ ο),U,U]=_;unfold uA;rw[aw (bA f rfl)];simp only[Wc,Wb];have i:(fB (I à (Y 2) (ju eZ))) [Z (ej h),Z (Ñ ο),Z (.lst ((o::rest).map Ñ)),U]=Z (.ok D):=by
  have p:Ĝ 2 (.lst ((o::rest).map Ñ)):=AT λd q=>by
   obtain⟨x,g,rfl⟩:=G_.mp q;have:x∈h.filter (λo=>uk (key o=key ο)):=by rw[e];exact g
   exact wg (m x (TY.mp this).1)
  have i2:=p.okP (by omega);have n:okP (.lst [])=L:=by lk
  have i4:à (.lst ((o::rest).map Ñ)) (.lst [])=bo D:=by unfold à;rw[show Ş (.lst ((o::rest).map Ñ)) (.lst [])=U from rfl,i2,n];simp[du,ä,UC,V5]
  exact bq i4
 rw[aw (cJ i)];have a:(I iy (I iy (j7 (Y 1) gp (dr (X 8))) (iC (ao (I Ì (I Ì (Y 2) (X 0)) (X 8))))) (j7 (Y 1) (dr (I iy (X 8) (X 1))) gp)) [Z (ej h),Z (Ñ ο),Z (.lst ((o::rest).map Ñ)),U]=Z (.ok (Ñ {ο with md:=o.md})):=by lk
 rw[aw (bA a rfl)];simp only[Wc,Wb];refine cA ?_;have u:=il (c:=[("note",1),("newer",3)]) (ξ:=dO (Y 0)) (B:=(ķ (fB (I à (ae cy 1 (ao (Y 0))) (ae cy 1 (ao (Y 1))))) (Y 2) (Y 0))) (ζ:=[Z (ej h),Z (Ñ ο),Z (.lst ((o::rest).map Ñ)),Z (Ñ {ο with md:=o.md})]) Ñ (λx=>Ñ (if key x=key ο then{ο with md:=o.md}else x)) (iB rfl) (by omega) λx g=>by
  have t:=k x g [Z (Ñ {ο with md:=o.md})];by_cases c:key x=key ο;·rw[if_pos c];rw[decide_eq_true c]at t;exact(PY t).trans rfl
  ·rw[if_neg c];rw[decide_eq_false c]at t;exact(PZ t).trans rfl
 rw[cj (ag u aq)];show Z (Rs.ok (N.tup _))=_;simp[ej]
def Ć(b:List ak)(a:Int):List ak:=b.filter λn=>!í n a
def oX(b:h.length<=20):bm [ej h,.int p]=Z (.ok (ej (Ć h p))):=by refine fI ?_;show cG [Z (ej h),Z (.int p)]=_;unfold cG;refine cA ?_;have e:(cf [("now",1)] (dO (Y 0)) (Z (cx (fB (ae br 2 (bJ (Y 0) (Y 1)))))) (Y 0)) [Z (ej h),Z (.int p)]=Z (.ok (.lst ((Ć h p).map Ñ))):=gW Ñ _ Ñ (iB rfl) (by omega) λn a=>⟨nF (bq (dP br rfl rfl (qu n p))),rfl⟩;exact(cj (ag e aq)).trans rfl
def E8(T:N)(e:List ak)(A f:N)(a:Int)(d c b:Option N):Ev:=[Z T,Z (ej e),Z A,Z f,Z (.int a),d,c,b]
def qv(e:h.length<=20)(d:bI [i,ej h,η,χ,.int p]=Z (.ok Κ)){f:Õ}{r:Option Fl}(a:f (E8 i h η χ p (Z Κ) (Z (ej (Ć h p))) U)=r):aJ (ce 5 (ae bI 5 zz1)) (aJ (ce 6 (ae bm 2 (bJ (Y 1) (Y 4)))) f) (E8 i h η χ p U U U)=r:=by have c:ce 5 (ae bI 5 zz1) (E8 i h η χ p U U U)=Z (.nx (E8 i h η χ p (Z Κ) U U)):=bA (cE bI (ag rfl (ag rfl (ag rfl (ag rfl (ag rfl aq))))) rfl d) rfl;have b:ce 6 (ae bm 2 (bJ (Y 1) (Y 4))) (E8 i h η χ p (Z Κ) U U)=Z (.nx (E8 i h η χ p (Z Κ) (Z (ej (Ć h p))) U)):=bA (dP bm rfl rfl (oX e)) rfl;rw[aw c,aw b];exact a
def sW:(Ć h p).length<=h.length:=Vj _ _
def oY(b:h.length<=20)(a:bI [i,ej h,η,χ,.int p]=Z (.ok Κ))(c:à Κ (.str "kept")=bo D)(d:à Κ (.str "gone")=bo D):bZ [i,ej h,η,χ,.int p]=Z (.ok (ej (Ć h p))):=by refine lK ?_;show dF (E8 i h η χ p U U U)=_;unfold dF;refine qv b a ?_;have f:fB (I à (Y 5) (Ï "kept")) (E8 i h η χ p (Z Κ) (Z (ej (Ć h p))) U)=Z (.ok D):=bq ((bK (i:=Κ) (η:=.str "kept") rfl rfl).trans c);have e:fB (I à (Y 5) (Ï "gone")) (E8 i h η χ p (Z Κ) (Z (ej (Ć h p))) U)=Z (.ok D):=bq ((bK (i:=Κ) (η:=.str "gone") rfl rfl).trans d);rw[aw (cJ f),aw (cJ e)];rfl
def Bk(a:h.length<=20)(d:∀n∈h,æ n)(e:æ ο)(b:bI [i,ej h,η,χ,.int p]=Z (.ok (.str "kept")))(f:fV [i,η,χ,.int p]=Z (.ok (Ñ ο))):bZ [i,ej h,η,χ,.int p]=Z (.ok (ej (JZ (Ć h p) ο))):=by refine lK ?_;show dF (E8 i h η χ p U U U)=_;unfold dF;refine qv a b ?_;have g:fB (I à (Y 5) (Ï "kept")) (E8 i h η χ p (Z (.str "kept")) (Z (ej (Ć h p))) U)=Z (.ok L):=bq ((bK (i:=.str "kept") (η:=.str "kept") rfl rfl).trans (by lk));refine mE ?_;rw[Ar g];have v:ae fV 4 zz2 (E8 i h η χ p (Z (.str "kept")) (Z (ej (Ć h p))) U)=Z (.ok (Ñ ο)):=cE fV (ag rfl (ag rfl (ag rfl (ag rfl aq)))) rfl f;exact cA (dP DH rfl v (Oh (λo c=>d o (TY.mp c).1) e (TX sW a)))
def Rv{o:ak}(a:æ o)(b:æ ο):ď (ek o) (ek ο)=bo (!uk (key o=key ο)):=(N9 a b).2
def Bl(a:h.length<=20)(f:∀n∈h,æ n)(g:æ ο)(c:bI [i,ej h,η,χ,.int p]=Z (.ok (.str "gone")))(j:fV [i,η,χ,.int p]=Z (.ok (Ñ ο))):bZ [i,ej h,η,χ,.int p]=Z (.ok (ej ((Ć h p).filter λo=>!uk (key o=key ο)))):=by have q:(Ć h p).length<=20:=TX sW a;refine lK ?_;show dF (E8 i h η χ p U U U)=_;unfold dF;refine qv a c ?_;have m:fB (I à (Y 5) (Ï "kept")) (E8 i h η χ p (Z (.str "gone")) (Z (ej (Ć h p))) U)=Z (.ok D):=bq ((bK (i:=.str "gone") (η:=.str "kept") rfl rfl).trans (by lk));have k:fB (I à (Y 5) (Ï "gone")) (E8 i h η χ p (Z (.str "gone")) (Z (ej (Ć h p))) U)=Z (.ok L):=bq ((bK (i:=.str "gone") (η:=.str "gone") rfl rfl).trans (by lk));rw[aw (cJ m)];refine mE ?_;rw[Ar k];have v:ae fV 4 zz2 (E8 i h η χ p (Z (.str "gone")) (Z (ej (Ć h p))) U)=Z (.ok (Ñ ο)):=cE fV (ag rfl (ag rfl (ag rfl (ag rfl aq)))) rfl j;have b:ce 7 (ae cy 1 (ao (ae fV 4 zz2))) (E8 i h η χ p (Z (.str "gone")) (Z (ej (Ć h p))) U)=Z (.nx (E8 i h η χ p (Z (.str "gone")) (Z (ej (Ć h p))) (Z (ek ο)))):=bA (eD cy v (iz ο)) rfl;rw[aw b];refine cA ?_;have e:(cf [("ended",7)] (dO (Y 6)) (Z (fB (I ď (ae cy 1 (ao (Y 0))) (Y 1)))) (Y 0)) (E8 i h η χ p (Z (.str "gone")) (Z (ej (Ć h p))) (Z (ek ο)))=Z (.ok (.lst (((Ć h p).filter λo=>!uk (key o=key ο)).map Ñ))):=gW Ñ (λo=>!uk (key o=key ο)) Ñ (iB rfl) (by omega) λo d=>⟨bq ((bK (i:=ek o) (η:=ek ο) (eD cy rfl (iz o)) rfl).trans (Rv (f o (TY.mp d).1) g)),rfl⟩;exact(cj (ag e aq)).trans rfl
def Oi(h:ib [i]=bo L):bH [i]=Z (.ok .non):=by simp[bH,aS,jm,bg,cH,Ö,cx,fB,ā,ae,aR,eZ,Y,h]
def dY(F:Ó){a:N}{f:Ò}{b:Ev}(c:f b=Z (.ok a))(h:F [a]=Z (.ok .non)):ff (ae F 1 (ao f)) b=Z (.nx b):=lO (cE F (ag c aq) rfl h)
def E6(T b A X a:N)(x:Option N):Ev:=[Z T,Z b,Z A,Z X,Z a,x]
def rwy{a:N}(g:bL [i]=bo L)(f:ib [Κ]=bo L)(e:ie [η]=bo L){b:N}(d:aN [χ]=Z (.ok b))(h:ba [a]=bo L):aG [i,Κ,η,χ,a]=Z (.ok b):=lK (by show bz (E6 i Κ η χ a U)=_;unfold bz;rw[aw (dY aT rfl (Ra g)),aw (dY bH rfl (Oi f)),aw (dY dh rfl (Rb e))];have c:ce 5 (ae aN 1 (ao (Y 3))) (E6 i Κ η χ a U)=Z (.nx (E6 i Κ η χ a (Z b))):=bA (cE aN (ag rfl aq) rfl d) rfl;rw[aw c,aw (dY bP rfl (IL h))];rfl)
def E7(T:N)(d:List ak)(A X:N)(a:Int)(c b:Option N):Ev:=[Z T,Z (ej d),Z A,Z X,Z (.int a),c,b]
def Jg{b a:_}(f:b.length<=20){d c:Option N}:fB (Ý Ht (ao (cf [("now",4)] (dO (Y 1)) U (I ť (I Ì (Y 0) (X 9)) (Y 1))))) (E7 i b η χ a d c)=Z (.ok (b.any λo=>uk (o.us>a))):=by refine bq ((cj (ag (i:=.lst (b.map λo=>N.bl (uk (o.us>a)))) ?_ aq)).trans (any_map _ _));exact il Ñ (λo=>N.bl (uk (o.us>a))) (iB rfl) (by omega) λo e=>(bK (i:=.int o.us) (η:=.int a) rfl rfl).trans rfl
def s5T{b a c:_}(d:aG [i,ej b,η,χ,.int a]=Z (.ok c)):ce 5 (ae aG 5 zz1) (E7 i b η χ a U U)=Z (.nx (E7 i b η χ a (Z c) U)):=bA (cE aG (ag rfl (ag rfl (ag rfl (ag rfl (ag rfl aq))))) rfl d) rfl
def Fz(a:fA [i]=Z (.ok (.int (h.length:Nat))))(q:h.length<=20):aA [i]=Z (.ok .non):=Q0 (ζ:=[Z i]) (by show aP [Z i]=_;unfold aP;refine cJ (bq ((bK (i:=.int (h.length:Int)) (η:=.int 20) ((cj (ag (i:=i) rfl aq)).trans a) rfl).trans ?_));show Z (Rs.ok (N.bl (uk ((h.length:Int)>20))))=_;rw[decide_eq_false (show¬(h.length:Int)>20 by omega)])
def DY{d b e:_}(n:d.length<=20)(m:aG [i,ej d,η,χ,.int b]=Z (.ok e))(a:(d.any λo=>uk (o.us>b))=D)(k:bZ [i,ej d,η,e,.int b]=Z (.ok (ej h)))(j:h.length<=20):lg [i,ej d,η,χ,.int b]=Z (.ok (ej h)):=lK (by show m9 (E7 i d η χ b U U)=_;unfold m9;rw[aw (s5T m)];have c:=Jg (i:=i) (η:=η) (χ:=χ) (a:=b) (d:=Z e) (c:=U) n;rw[a]at c;rw[aw (cJ c)];have f:ce 6 (ae bZ 5 (qG (Y 0) (Y 1) (Y 2) (Y 5) (Y 4))) (E7 i d η χ b (Z e) U)=Z (.nx (E7 i d η χ b (Z e) (Z (ej h)))):=bA (cE bZ (ag rfl (ag rfl (ag rfl (ag rfl (ag rfl aq))))) rfl k) rfl;have g:aA [ej h]=Z (.ok .non):=Fz (by simp[fA,ej]) j;rw[aw f,aw (dY aA rfl g)];rfl)
def Rw(g:Gv c m i η χ Κ H μ)(b:0<=p):∃e:Option Int,eO e=Fu χ Κ p/\∀a,e=Z a->0<=a/\a<=9999:=by
 rcases N6 g b with q|⟨a,k,h,q⟩;·exact⟨U,q.symm,λa f=>by cases f⟩
 ·exact⟨Z a,q.symm,λj d=>by cases d;exact⟨k,h⟩⟩
def Jh{w:Str}{l:N}{R:Str}{b d:Str}{f:Bool}{j:N}(g:Gv μ w η χ Κ l H R)(W:Wt r c m i μ w η χ Κ l H R À b d f j)(h:0<=p)(k:p<=200):∃a:ak,Ñ a=ntn μ w b f d (Fu Κ l p) H R p/\æ a/\a.us=p/\a.md=p:=by obtain⟨e,n,o⟩:=Rw (p:=p) g h;refine⟨⟨μ,w,b,f,d,e,H,R,p,p⟩,?_,⟨g.nm,g.w,W.hs,W.ph,g.r,o,h,Zn _,k⟩,rfl,rfl⟩;show N.tup [.str μ,.str w,.str b,.bl f,.str d,eO e,.bl H,.str R,.int p,.int p]=_;rw[n]
structure JS(now:Int)(Y:List ak):Prop where
 g:∀n∈Y,æ n
 s:Y.Pairwise λa b=>a.md<=b.md
 k:(Y.map key).Nodup
 u:∀n∈Y,n.us<=now
def JS.jar(a:JS p h)(l:h.length<=20):ŉ h:=⟨a.g,λi b=>Xs.mp a.s i (i+1) (by omega) b (by omega),a.k,l⟩
def JS.nil{a:Int}:JS a []:=⟨by simp,.nil,by simp,by simp⟩
def JS.later{now':Int}(a:JS p h)(q:p<=now'):JS now' h:=⟨a.g,a.s,a.k,λn b=>by have:=a.u n b;omega⟩
def JS.filt(b:ak->Bool)(a:JS p h):JS p (h.filter b)where g:=λn q=>a.g n (TY.mp q).1;s:=a.s.sublist YO;k:=a.k.sublist (YO.map key);u:=λn q=>a.u n (TY.mp q).1
def JS.put(c:JS p h)(g:æ ο)(hu:ο.us=p)(hm:ο.md=p):JS p (JZ h ο)/\(JZ h ο).length<=h.length+1:=by
 unfold JZ;split
 · rename_i w;have P:∀x∈h,key x≠key ο:=λx v e=>by have:x∈h.filter (λo=>uk (key o=key ο)):=TY.mpr ⟨v,by simpa using e⟩;rw[w]at this;cases this
   refine⟨⟨λn q=>?_,?_,?_,λn q=>?_⟩,by simp⟩
   · rcases Ue.mp q with q|q;·exact c.g n q
     ·rw[Ua.mp q];exact g
   ·refine List.pairwise_append.mpr ⟨c.s,ZQ ..,λa s b u=>?_⟩;rw[Ua.mp u];have:=c.u a s;have:=(c.g a s).mu;omega
   · rw[U1];refine Xa.mpr ⟨c.k,ZQ ..,λa s b u e=>?_⟩;obtain⟨x,v,rfl⟩:=G_.mp s;have:b=key ο:=by simpa using u
     exact P x v (e.trans this)
   · rcases Ue.mp q with q|q;·exact c.u n q
     ·rw[Ua.mp q];omega
 · rename_i f r1 w;have m:f∈h.filter (λo=>uk (key o=key ο)):=by rw[w];exact on
   have k:=(TY.mp m).1;have r:key f=key ο:=by simpa using(TY.mp m).2
   have one:∀z∈h,key z=key ο->z=f:=λz d e=>by
    have nd:=c.k;obtain⟨i,E,rfl⟩:=aa8 d;obtain⟨j,B,y⟩:=aa8 k;have A:=Xs.mp nd;rcases Zl i j with q|q|q;·exact(A i j (by simpa using E) (by simpa using B) q (by rw[Xp,Xp,y,r,e])).elim
    ·subst q;exact y
    ·exact(A j i (by simpa using B) (by simpa using E) q (by rw[Xp,Xp,y,r,e])).elim
   have md:∀z∈h,(if key z=key ο then({ο with md:=f.md}:ak)else z).md=z.md:=λz d=>by
    split;·rename_i e;rw[one z d e]
    ·rfl
   have ky:∀z∈h,key (if key z=key ο then({ο with md:=f.md}:ak)else z)=key z:=λz d=>by
    split;·rename_i e;exact e.symm
    ·rfl
   have H:=c.g f k;have u1:=c.u f k;refine⟨⟨λn q=>?_,?_,?_,λn q=>?_⟩,by simp⟩
   · obtain⟨z,d,rfl⟩:=G_.mp q;split;·exact⟨g.nm,g.w,g.house,g.path,g.R,g.ends,H.mk0,by show f.md<=ο.us;have:=H.mu;omega,g.us⟩
     ·exact c.g z d
   ·rw[W_];exact c.s.imp_of_mem λ{a b}ha hb q=>by rw[md a ha,md b hb];exact q
   ·rw[Uq];have e:h.map (key∘λz=>if key z=key ο then({ο with md:=f.md}:ak)else z)=h.map key:=Vf λz d=>ky z d;rw[e];exact c.k
   · obtain⟨z,d,rfl⟩:=G_.mp q;split;·show ο.us<=p;omega
     ·exact c.u z d
def Ŵ:List Str:=[b_ "foreign",b_ "open",b_ "unsafe",b_ "marked",b_ "far",b_ "shadowed",b_ "gone",b_ "kept"]
def Bm:∀x:Str,x∈[b_ "foreign",b_ "open",b_ "unsafe",b_ "marked",b_ "far",b_ "shadowed"]->à (.str x) (.str "kept")=bo D/\à (.str x) (.str "gone")=bo D:=by intro x a;simp only[v_,TD,or_false]at a;rcases a with rfl|rfl|rfl|rfl|rfl|rfl<;>exact⟨by lk,by lk⟩
def Ji{w:Str}{l:N}{R:Str}(u:r∈kz è)(a:Ak c m i)(g:Gv μ w η χ Κ l H R)(k:JS p h)(e:h.length<=20)(s:0<=p)(P:p<=200):∃(x:Str)(n:List ak),x∈Ŵ/\bI [.tup r,ej h,ø À c m i,ć μ w η χ Κ l H R,.int p]=Z (.ok (.str x))/\bZ [.tup r,ej h,ø À c m i,ć μ w η χ Κ l H R,.int p]=Z (.ok (ej n))/\JS p n/\n.length<=h.length+1:=by
 obtain⟨A,E,ex,wd,W⟩:=Rc u a g À;have sl:(Ć h p).length<=h.length:=sW;have j:JS p (Ć h p):=k.filt _;rcases W.win with rfl|⟨x,f,rfl⟩
 · obtain⟨b,B,gN,y,z⟩:=Jh (p:=p) g W s P;have v:=Fv u a g s (by omega) W;rw[<-B]at v;have d:=Og (h:=h) u a g s (by omega) W B gN k.g e;unfold wv at d;dsimp only at d;split at d;·obtain⟨q,o⟩:=Bm (b_ "shadowed") (by simp);exact⟨_,Ć h p,by simp[Ŵ],d,oY e d q o,j,by omega⟩
   · split at d;·exact⟨_,_,by simp[Ŵ],d,Bl e k.g gN d v,j.filt _,TX (Vj _ _) (by omega)⟩
     ·obtain⟨J2,l2⟩:=j.put gN y z;exact⟨_,_,by simp[Ŵ],d,Bk e k.g gN d v,J2,by omega⟩
 ·have d:=Of (h:=h) (p:=p) W (by simp);obtain⟨q,o⟩:=Bm x (by simp only[v_,TD,or_false]at f⊢;rcases f with c|c|c|c|c<;>simp[c]);exact⟨x,Ć h p,by simp only[v_,TD,or_false]at f;rcases f with c|c|c|c|c<;>simp[Ŵ,c],d,oY e d q o,j,by omega⟩
def Jj(g:Gv c m i η χ Κ H μ):∃X:Str,gc [ć c m i η χ Κ H μ]=Z (.ok (.str X))/\aN [.str X]=Z (.ok (ć c m i η χ Κ H μ)):=by obtain⟨h,p,b,d,a,e⟩:=Rk g;exact⟨_,by rw[e];exact IP (Rl a),by rw[e];exact N4 a⟩
def vdo{b:Str}(g:r∈kz è)(a:Ak c m i)(j:aN [.str μ]=Z (.ok η))(n:ŉ h)(f:0<=p)(e:p<=9999)(k:bI [.tup r,ej h,ø H c m i,η,.int p]=Z (.ok (.str b))):dG [.tup r,ej h,ø H c m i,.str μ,.int p]=Z (.ok (.str b)):=by refine lK ?_;show i5 [Z (.tup r),Z (ej h),Z (ø H c m i),Z (.str μ),Z (.int p),U]=_;unfold i5;have d:ce 5 (ae aG 5 (qG (Y 0) (Y 1) (Y 2) (Y 3) (Y 4))) [Z (.tup r),Z (ej h),Z (ø H c m i),Z (.str μ),Z (.int p),U]=Z (.nx [Z (.tup r),Z (ej h),Z (ø H c m i),Z (.str μ),Z (.int p),Z η]):=bA (cE aG (ag rfl (ag rfl (ag rfl (ag rfl (ag rfl aq))))) rfl (rwy (jd g) (uN n) (DQ a) j (sO f e))) rfl;rw[aw d];exact cA (cE bI (ag rfl (ag rfl (ag rfl (ag rfl (ag rfl aq))))) rfl k)
def DZ{w:Str}{l:N}{R:Str}{X:Str}(f:r∈kz è)(a:Ak c m i)(g:Gv μ w η χ Κ l H R)(j:aN [.str X]=Z (.ok (ć μ w η χ Κ l H R)))(d:JS p h)(A:h.length<20)(e:0<=p)(n:p<=200):∃(x:Str)(b:List ak),x∈Ŵ/\dG [.tup r,ej h,ø À c m i,.str X,.int p]=Z (.ok (.str x))/\lg [.tup r,ej h,ø À c m i,.str X,.int p]=Z (.ok (ej b))/\bZ [.tup r,ej h,ø À c m i,ć μ w η χ Κ l H R,.int p]=Z (.ok (ej b))/\JS p b/\b.length<=h.length+1:=by
 obtain⟨x,b,s,y,k,z,q⟩:=Ji (À:=À) f a g d (by omega) e n;have u:=rwy (i:=.tup r) (Κ:=ej h) (η:=ø À c m i) (χ:=.str X) (a:=.int p) (jd f) (uN (d.jar (by omega))) (DQ a) j (sO e (by omega));have lt:(h.any λo=>uk (o.us>p))=D:=by rw[abP];intro o v;have:=d.u o v;simp;omega
 exact⟨x,b,s,vdo f a j (d.jar (by omega)) e (by omega) y,DY (by omega) u lt k (by omega),k,z,q⟩
def uO(d:JS p h)(a:h.length<=20){k:Int}(c:0<=k)(b:k<=9999):i9 [ej h,.int k]=Z (.ok (ej (Ć h k))):=by refine lK ?_;show ng [Z (ej h),Z (.int k)]=_;unfold ng;rw[aw (dY bH rfl (Oi (uN (d.jar a)))),aw (dY bP rfl (IL (sO c b)))];exact cA (dP bm rfl rfl (oX a))
open TS
def Bh{k:Nat}(h:Ĝ k i)(a:k<=64):ď i i=Z (.ok (.bl D)):=AR (h.okP a) h.p
def oZ:∀a:List (List N),mK (a.map N.tup)=Z a|[]=>rfl|r::a=>by show(mK (a.map N.tup)).map (r::·)=_;rw[oZ a];rfl
def o6:∀a:List Str,bD (a.map N.str)=Z a|[]=>rfl|k::a=>by show(bD (a.map N.str)).map (k::·)=_;rw[o6 a];rfl
def xr(r:P->List N)(e:List Nat)(k:∀a,ù (r a)=e)(j:iF e=L)(i:∀a,xD (r a)=L){c:List P}(h:c.length<64):ug [.lst (c.map λa=>.tup (r a))]=Z (.ok (.lst ((isortB (λa b=>!ú (r b) (r a)) c).map λa=>.tup (r a)))):=by
 have o:(c.map λa=>N.tup (r a))=(c.map r).map N.tup:=by rw[Uq];rfl
 have m:((isortB (λa b=>!ú (r b) (r a)) c).map λa=>N.tup (r a))=(isortB (λa b=>!ú b a) (c.map r)).map N.tup:=by rw[<-sort_map (g:=λa b=>!ú (r b) (r a)) r c λ_ _ _ _=>rfl,Uq];rfl
 rw[o,m];show(match mK ((c.map r).map N.tup)with|some d=>if fm d=L then Z (Rs.ok (N.lst ((isortB (λa b=>!ú b a) d).map N.tup)))else U|none=>L4 [.lst ((c.map r).map N.tup)])=_;rw[oZ];dsimp only;rw[if_pos];unfold fm;rw[pi,decide_eq_true_eq,Uz];refine⟨by simpa using h,λq f=>?_⟩;obtain⟨n,g,rfl⟩:=G_.mp f;cases c with|nil=>simp at g|cons x c=>simp[k,j,i]
def xt(n:ak):List N:=[.str n.nm,.str n.house,.str n.path]
def FB(c:List ak):N:=.lst ((isortB (λa b=>!ú (xt b) (xt a)) c).map ek)
def xu(a:h.length<64):ug [.lst (h.map ek)]=Z (.ok (FB h)):=xr xt [1,1,1] (λ_=>rfl) rfl (λ_=>rfl) a
def Jk(b:∀n∈h,æ n):Ĝ 2 (FB h):=AT λd c=>by obtain⟨n,a,rfl⟩:=G_.mp c;rw[(isortB_perm _ _).mem_iff]at a;exact IY (b n a)
def qw(a:List ak)(n:ak):Bool:=a.any λm=>uk (key m=key n)
def qo{b:å}(c:Ο ζ=Z (.ok H))(a:b ζ=Z (.ok À)):mB Ο b ζ=Z (.ok (H&&À)):=by unfold mB;rw[c];cases H with|true=>exact a|false=>rfl
def D6(b a:List ak):List ak:=b.filter λn=>!qw a n
def wl(n:ak):List Int:=[n.us,n.md]
def gY(a b:ak):ak:=if Dd (wl b) (wl a)=L then b else a
def Oj(n:ak):ci [Ñ n]=Z (.ok (.tup [.int n.us,.int n.md])):=by simp[ci,aS,ii,aI,cH,Ö,aR,eZ,Y,fC,I,Ì,Ă,iC,Ñ]
def Ol(a b:ak):V' (.tup [.int b.us,.int b.md]) (.tup [.int a.us,.int a.md])=bo (Dd (wl b) (wl a)):=rfl
def later_of(a b:ak):gO [Ñ a,Ñ b]=Z (.ok (Ñ (gY a b))):=by have c:fB (I V' (ae ci 1 (ao (Y 1))) (ae ci 1 (ao (Y 0)))) [Z (Ñ a),Z (Ñ b)]=Z (.ok (Dd (wl b) (wl a))):=bq ((bK (eD ci rfl (Oj b)) (eD ci rfl (Oj a))).trans (Ol a b));refine fI ?_;show gM [Z (Ñ a),Z (Ñ b)]=_;unfold gM gY;cases h:Dd (wl b) (wl a)with|true=>rw[h]at c;exact mE (Ar c)|false=>rw[h]at c;rw[aw (cJ c)];rfl
def č(l:List ak):Kv:=l.map λn=>(key n,Ñ n)
def nG(l:List ak)(m:ak):List ak:=if qw l m=L then l.map (λo=>if key o=key m then m else o)else l++[m]
def FF(l:List ak)(m:ak):Fe (č l) (key m) (Ñ m)=č (nG l m):=by
 have e:((č l).any λp=>uk (p.1=key m))=qw l m:=by unfold č qw;rw[List.any_map];rfl
 unfold Fe nG;rw[e];split
 · unfold č;rw[Uq,Uq];apply Vf;intro o _;simp only[Xz];split;·rename_i h;rw[h]
   ·rfl
 ·simp[č]
def wm(l:List ak)(n:ak):Option ak:=l.find? λo=>uk (key o=key n)
def FH(n:ak):∀l:List ak,zY (č l) (key n)=(wm l n).map Ñ
 |[]=>rfl|o::l=>by
  have a:=FH n l;unfold zY č wm at*;simp only[F_,VX];by_cases h:key o=key n;·simp[h]
  ·simp only[h,decide_false];exact a
def qz{o:ak}(a:wm h ο=Z o):key o=key ο/\o∈h:=by have b:=ace a;exact⟨by simpa using b,List.mem_of_find?_eq_some a⟩
def jf(a b:ak):gY a b=a\/gY a b=b:=by
 unfold gY;split;·exact .inr rfl
 ·exact .inl rfl
def xE(l:List ak)(n:ak):ak:=gY ((wm l n).getD n) n
def qA(l:List ak)(n:ak):key (xE l n)=key n:=by
 unfold xE;rcases jf ((wm l n).getD n) n with e|e;·rw[e];cases h:wm l n with|none=>rfl|some o=>exact(qz h).1
 ·rw[e]
def wn(l:List ak)(n:ak):List ak:=nG l (xE l n)
def l7(l:List ak)(m:ak):(nG l m).length<=l.length+1:=by
 unfold nG;split;·simp
 ·simp
def E5(x y:N)(z:Option N):Ev:=[Z x,Z y,U,z,U]
def Om(x y:N)(n:ak)(l:List ak)(h:l.length<1000):dj (E5 x y (Z (Ñ n))) (č l)=Z (E5 x y (Z (Ñ n)),č (nG l n)):=by have a:ae cy 1 (ao (Y 3)) (E5 x y (Z (Ñ n)))=Z (.ok (ek n)):=eD cy rfl (iz n);unfold dj HQ;rw[a];show(if(č l).length<100000 then Z (E5 x y (Z (Ñ n)),Fe (č l) (key n) (Ñ n))else U)=_;rw[if_pos (by simp[č];omega),FF]
def FJ(x y:N):∀(a l:List ak)(z:Option N),l.length+a.length<1000->∃b,pJ 3 dj (a.map Ñ) (E5 x y z) (č l)=Z (E5 x y b,č (a.foldl nG l))|[],l,z,_=>⟨z,rfl⟩|n::a,l,z,h=>by simp only[TW]at h;have f:=l7 l n;obtain⟨b,e⟩:=FJ x y a (nG l n) (Z (Ñ n)) (by omega);refine⟨b,?_⟩;show(match dj (E5 x y (Z (Ñ n))) (č l)with|some (c,d)=>pJ 3 dj (a.map Ñ) c d|none=>U)=_;rw[Om x y n l (by omega)];exact e
def On(x y:N)(n:ak)(l:List ak)(h:l.length<1000):dk (E5 x y (Z (Ñ n))) (č l)=Z (E5 x y (Z (Ñ n)),č (wn l n)):=by
 have a:ae cy 1 (ao (Y 3)) (E5 x y (Z (Ñ n)))=Z (.ok (ek n)):=eD cy rfl (iz n);have c:HP (ae cy 1 (ao (Y 3))) (Y 3) (E5 x y (Z (Ñ n))) (č l)=Z (Ñ ((wm l n).getD n)):=by unfold HP;rw[a];show Z ((zY (č l) (key n)).getD (Ñ n))=_;rw[FH];cases wm l n<;>rfl
 have b:oO gO (HP (ae cy 1 (ao (Y 3))) (Y 3)) (Y 3) (E5 x y (Z (Ñ n))) (č l)=Z (Ñ (xE l n)):=by unfold oO;rw[c];show(match gO [Ñ ((wm l n).getD n),Ñ n]with|some (.ok d)=>Z d|_=>U)=_;rw[later_of];rfl
 unfold dk HQ;rw[b,a];show(if(č l).length<100000 then Z (E5 x y (Z (Ñ n)),Fe (č l) (key n) (Ñ (xE l n)))else U)=_;rw[if_pos (by simp[č];omega),<-qA l n,FF];rfl
def FK(x y:N):∀(a l:List ak)(z:Option N),l.length+a.length<1000->∃b,pJ 3 dk (a.map Ñ) (E5 x y z) (č l)=Z (E5 x y b,č (a.foldl wn l))|[],l,z,_=>⟨z,rfl⟩|n::a,l,z,h=>by simp only[TW]at h;have f:=l7 l (xE l n);obtain⟨b,e⟩:=FK x y a (wn l n) (Z (Ñ n)) (by show(nG l (xE l n)).length+_<_;omega);refine⟨b,?_⟩;show(match dk (E5 x y (Z (Ñ n))) (č l)with|some (c,d)=>pJ 3 dk (a.map Ñ) c d|none=>U)=_;rw[On x y n l (by omega)];exact e
def J0(n:ak):List N:=[.int n.md,ek n]
def ō(a b:ak):Bool:=ú (J0 a) (J0 b)
def FL(c:List ak):List ak:=isortB (λa b=>!ō b a) c
def place_of(n:ak):gR [Ñ n]=Z (.ok (.tup (J0 n))):=by have e:ae cy 1 (ao (Y 0)) [Z (Ñ n)]=Z (.ok (ek n)):=eD cy rfl (iz n);refine fI (i:=.tup (J0 n)) ?_;show gQ [Z (Ñ n)]=_;unfold gQ;exact cA (tW (ag (i:=.int n.md) rfl (ag e aq)) (show 2<=100000 by omega))
def Bn{F:Ó}{b:ak->List N}(c:∀n,F [Ñ n]=Z (.ok (.tup (b n)))):∀a:List ak,iN F (a.map Ñ)=Z (a.map b)|[]=>rfl|n::a=>by show(match F [Ñ n],iN F (a.map Ñ)with|some (.ok (.tup e)),Z d=>Z (e::d)|_,_=>U)=_;rw[c,Bn c a];rfl
def Jm(n:ak):ĝ (Ñ n)=L:=by unfold Ñ;cases h:n.ends<;>simp[ĝ,ß,eO]
def l8:∀a:List ak,ß (a.map Ñ)=L|[]=>by simp[ß]|n::a=>by simp[ß,Jm n,l8 a]
def wo{a:ak->List N}(c:∀n,ĝ (.tup (a n))=L):∀b:List ak,ß ((b.map a).map N.tup)=L|[]=>by simp[ß]|n::b=>by have:=wo c b;simp only[F_,ß,pi];exact⟨c n,this⟩
def Bp{c:ak->List N}(e:List Nat)(k:∀n,Â [Ñ n]=Z (.ok (.tup (c n))))(f:∀a,ù (c a)=e)(o:iF e=L)(m:∀a,xD (c a)=L)(j:∀n,ĝ (.tup (c n))=L){d:List ak}(h:d.length<64):jF Â (d.map Ñ)=Z (.ok (.lst ((isortB (λa b=>!ú (c b) (c a)) d).map Ñ))):=by
 have ok:fm (d.map c)=L:=by unfold fm;rw[pi,decide_eq_true_eq,Uz];refine⟨by simpa using h,λr g=>?_⟩;obtain⟨n,i,rfl⟩:=G_.mp g;cases d with|nil=>simp at i|cons x d=>show(uk (ù (c n)=ù (c x))&&xD (c n)&&iF (ù (c n)))=L;rw[f,f,o,m];simp
 unfold jF;rw[Bn k];dsimp only;rw[if_pos ⟨ok,l8 d,wo j d⟩];unfold mN;rw[List.zip_map',<-TS.sort_map (g:=λa b=>!ú (c b) (c a)) (λn=>(c n,Ñ n)) d λ_ _ _ _=>rfl,Uq];rfl
def D7(a:h.length<64):jF gR (h.map Ñ)=Z (.ok (.lst ((FL h).map Ñ))):=Bp [2,7] place_of (λ_=>rfl) rfl (λ_=>rfl) (λn=>by simp[ĝ,ß,J0,ek]) a
def wp(a:List ak):(FL a).length=a.length:=(isortB_perm _ a).length_eq
def Ħ(b a:List ak):List ak:=a.foldl wn (b.foldl nG [])
def FM(a:List ak):fA [.lst (a.map Ñ)]=Z (.ok (.int (a.length:Nat))):=by simp[fA]
def FN:∀(a l:List ak),(a.foldl nG l).length<=l.length+a.length:=by intro a;induction a with|nil=>intro l;simp|cons n a b=>intro l;have:=b (nG l n);have c:=l7 l n;simp only[YM,TW];omega
def Oo:∀(a l:List ak),(a.foldl wn l).length<=l.length+a.length:=by intro a;induction a with|nil=>intro l;simp|cons n a b=>intro l;have:=b (wn l n);have c:(wn l n).length<=l.length+1:=l7 l (xE l n);simp only[YM,TW];omega
def Op(a b:List ak):(Ħ a b).length<=a.length+b.length:=by have c:=FN a [];have d:=Oo b (a.foldl nG []);simp at c;unfold Ħ;omega
variable{ι:List ak}
def Bq(e:ŉ h)(d:ŉ ι)(k:(Ħ h ι).length<=20):jp [ej h,ej ι]=Z (.ok (ej (FL (Ħ h ι)))):=by
 have p:=e.l;have o:=d.l;have q:=Op h ι;obtain⟨a,n⟩:=FJ (ej h) (ej ι) h [] U (by simp;omega);have b:=FN h [];obtain⟨c,m⟩:=FK (ej h) (ej ι) ι (h.foldl nG []) a (by simp at b;omega);have i:HR 3 (Y 0) dj (([Z (ej h),Z (ej ι),U,U,U]:Ev).set 2 U) []=Z (E5 (ej h) (ej ι) a,č (h.foldl nG [])):=n;have g:HR 3 (Y 1) dk (E5 (ej h) (ej ι) a) (č (h.foldl nG []))=Z (E5 (ej h) (ej ι) c,č (Ħ h ι)):=m;have f:oP gR (E5 (ej h) (ej ι) c) (č (Ħ h ι))=Z (.lst ((FL (Ħ h ι)).map Ñ)):=by unfold oP;rw[show(č (Ħ h ι)).map (·.2)=(Ħ h ι).map Ñ by unfold č;rw[Uq];rfl,D7 (by omega)]
 have j:=Fz (FM (FL (Ħ h ι))) (by rw[wp];exact k);have key:ku [Z (ej h),Z (ej ι),U,U,U]=Z (.rt (ej (FL (Ħ h ι)))):=by unfold ku;rw[aw (dY bH rfl (Oi (uN e))),aw (dY bH rfl (Oi (uN d)))];unfold z0;rw[i];dsimp only;rw[g];dsimp only;unfold MB;rw[f];dsimp only;rw[aw (dY aA rfl j)];rfl
 exact lK key
def qB(c:List ak)(a:ak):ak:=match c.filter (λb=>uk (key b=key a))with|b::_=>gY a b|[]=>a
def uP(a:ak):gY a a=a:=by unfold gY;split<;>rfl
def wq(c:List ak)(a:ak):key (qB c a)=key a:=by
 unfold qB;split
 · rename_i b r h;have d:b∈c.filter (λb=>uk (key b=key a)):=by rw[h];exact on
   have:=(TY.mp d).2;rcases jf a b with e|e;·rw[e]
   ·rw[e];simpa using this
 ·rfl
def wt(c:List ak)(a:ak):qB c a=a\/qB c a∈c:=by
 unfold qB;split
 · rename_i b r h;have d:b∈c.filter (λb=>uk (key b=key a)):=by rw[h];exact on
   rcases jf a b with e|e;·exact .inl e
   ·rw[e];exact .inr (TY.mp d).1
 ·exact .inl rfl
def ì:qw h ο=L↔key ο∈h.map key:=by unfold qw;simp only[WQ,decide_eq_true_eq,G_]
def xx(a:h.map key=ι.map key)(n:ak):qw h n=qw ι n:=by rw[U4,ì,ì,a]
def Br(a:key ο∉h.map key):h.filter (λb=>uk (key b=key ο))=[]:=by rw[Yk];intro b d c;exact a (G_.mpr ⟨b,d,by simpa using c⟩)
def sX(a:key ο∉h.map key):qB h ο=ο:=by unfold qB;rw[Br a]
def Bs:∀(a l:List ak),((l++a).map key).Nodup->a.foldl nG l=l++a
 |[],l,_=>by simp|n::a,l,h=>by
  have b:qw l n=D:=by cases q:qw l n with|false=>rfl|true=>exfalso;rw[ì]at q;rw[U1,F_]at h;exact(Xa.mp h).2.2 _ q _ on rfl
  show a.foldl nG (nG l n)=_;have e:nG l n=l++[n]:=by unfold nG;rw[b];rfl
  rw[e,Bs a (l++[n]) (by simpa using h)];simp
def Bt(a:key ο∉h.map key):wm h ο=U:=by unfold wm;rw[Y_];intro o b c;exact a (G_.mpr ⟨o,b,by simpa using c⟩)
def Bu(f:(h.map key).Nodup){a b:ak}(i:a∈h)(g:b∈h)(c:key a=key b):a=b:=by induction h with|nil=>cases i|cons x h j=>
 rw[F_,U0]at f;rcases v_.mp i with rfl|e
 · rcases v_.mp g with rfl|d;·rfl
   ·exact absurd (G_.mpr ⟨b,d,c.symm⟩) f.1
 · rcases v_.mp g with rfl|d;·exact absurd (G_.mpr ⟨a,e,c⟩) f.1
   ·exact j f.2 e d
def uQ:∀(c l:List ak),(c.map key).Nodup->(l.map key).Nodup->c.foldl wn l=l.map (qB c)++D6 c l
 |[],l,_,_=>by
  have e:l.map (qB [])=l:=by rw[show(qB []:ak->ak)=id from rfl];exact List.map_id l
  simp[D6,e]|n::c,l,i,p=>by
  rw[F_,U0]at i;show c.foldl wn (wn l n)=_;by_cases d:key n∈l.map key
  · have e:wn l n=l.map λo=>if key o=key n then gY o n else o:=by
     obtain⟨r,f,g⟩:=G_.mp d;have A:wm l n=Z r:=by cases q:wm l n with|none=>unfold wm at q;rw[Y_]at q;exact absurd (by simpa using g) (q r f)|some o=>rw[Bu p (qz q).2 f ((qz q).1.trans g.symm)]
     have u:xE l n=gY r n:=by unfold xE;rw[A];rfl
     unfold wn nG;rw[if_pos (by rw[ì,qA];exact d)];apply Vf;intro o s;rw[qA];by_cases h:key o=key n;·rw[if_pos h,if_pos h,u,Bu p s f (h.trans g.symm)]
     ·rw[if_neg h,if_neg h]
    have k:(l.map λo=>if key o=key n then gY o n else o).map key=l.map key:=by
     rw[Uq];apply Vf;intro o _;simp only[Xz];split
     · rename_i h;rcases jf o n with q|q;·rw[q]
       ·rw[q,h]
     ·rfl
    rw[e,uQ c _ i.2 (by rw[k];exact p),Uq];congr 1
    · apply Vf;intro o _;simp only[Xz];by_cases h:key o=key n
      · rw[if_pos h];have v:key (gY o n)=key n:=by
         rcases jf o n with q|q;·rw[q,h]
         ·rw[q]
        rw[sX (by rw[v];exact i.1)];unfold qB;rw[WP (by simp[h])]
      ·rw[if_neg h];unfold qB;rw[VS (by simpa using VB h)]
    ·have j:qw l n=L:=ì.mpr d;show c.filter _=(n::c).filter _;rw[VS (by simp[j])];apply abO;intro m _;rw[xx k m]
  · have e:wn l n=l++[n]:=by
     have u:xE l n=n:=by unfold xE;rw[Bt d];exact uP n
     have j:qw l n=D:=by cases q:qw l n with|false=>rfl|true=>exact absurd (ì.mp q) d
     unfold wn nG;rw[u,j];rfl
    rw[e,uQ c _ i.2 (by rw[U1];exact Xa.mpr ⟨p,by simp,λa B b w z=>by simp only[F_,YU,Ua]at w;exact d (by rw[<-w,<-z];exact B)⟩),U1,F_,YU,sX i.1];have j:qw l n=D:=by cases q:qw l n with|false=>rfl|true=>exact absurd (ì.mp q) d
    have H:l.map (qB c)=l.map (qB (n::c)):=by apply Vf;intro o s;unfold qB;rw[VS (by simp only[decide_eq_true_eq];exactλz=>d (by rw[z];exact G_.mpr ⟨o,s,rfl⟩))]
    have E:D6 c (l++[n])=D6 c l:=by
     apply abO;intro m y;have:qw (l++[n]) m=qw l m:=by
      unfold qw;rw[List.any_append];have:([n].any λo=>uk (key o=key m))=D:=by simp only[Vw,List.any_nil,Zz,decide_eq_false_iff_not];exactλz=>i.1 (by rw[z];exact G_.mpr ⟨m,y,rfl⟩)
      rw[this,Zz]
     rw[this]
    rw[H,E];show _=l.map (qB (n::c))++(n::c).filter _;rw[WP (by simp[j])];simp[D6]
def sY(a:(h.map key).Nodup)(b:(ι.map key).Nodup):Ħ h ι=h.map (qB ι)++D6 ι h:=by unfold Ħ;rw[Bs h [] (by simpa using a),List.nil_append,uQ ι h b a]
def FP(d:(h.map key).Nodup)(c:(ι.map key).Nodup):((Ħ h ι).map key).Nodup:=by rw[sY d c,U1,Uq];have e:h.map (key∘qB ι)=h.map key:=Vf λa _=>wq ι a;rw[e];refine Xa.mpr ⟨d,List.Nodup.sublist (List.Sublist.map _ YO) c,λa i b g z=>?_⟩;obtain⟨n,f,rfl⟩:=G_.mp g;have:=(TY.mp f).2;subst z;rw[ì.mpr i]at this;cases this
def D8(g:(h.map key).Nodup)(f:(ι.map key).Nodup)(j:∀n∈h,æ n)(d:∀n∈ι,æ n):∀n∈Ħ h ι,æ n:=by
 intro n c;rw[sY g f]at c;rcases Ue.mp c with b|b
 · obtain⟨a,i,rfl⟩:=G_.mp b;rcases wt ι a with e|e;·rw[e];exact j a i
   ·exact d _ e
 ·exact d n (TY.mp b).1
def FQ{d:Type}{R:d->d->Prop}(h:∀a b,R a b->R b a->False):∀{l m:List d},l.Perm m->l.Pairwise R->m.Pairwise R->l=m
 |[],m,c,_,_=>c.nil_eq|x::l,[],c,_,_=>by simpa using c.length_eq|x::l,y::m,c,g,f=>by
  rw[TC]at g f;have e:x=y:=by
   rcases v_.mp (c.mem_iff.mp (on (a:=x)))with e|j;·exact e
   · rcases v_.mp (c.mem_iff.mpr (on (a:=y)))with e|i;·exact e.symm
     ·exact(h _ _ (g.1 y i) (f.1 x j)).elim
  subst e;rw[FQ h c.cons_inv g.2 f.2]
def FU{g:Type}{d:g->g->Bool}(k:∀a b c,d a b=L->d b c=L->d a c=L)(x:g):∀l:List g,(∀y∈l,d x y=L\/d y x=L)->l.Pairwise (λa b=>d a b=L)->(tt (λa b=>!d b a) x l).Pairwise (λa b=>d a b=L)
 |[],_,_=>by simp[tt]|y::l,m,h=>by
  unfold tt;rw[TC]at h;split
  · rename_i i;have f:d x y=L:=by
     rcases m y on with q|q;·exact q
     ·rw[q]at i;cases i
    rw[TC,TC];refine⟨λz e=>?_,h⟩;rcases v_.mp e with rfl|e;·exact f
    ·exact k _ _ _ f (h.1 z e)
  · rename_i i;have j:d y x=L:=by simpa using i
    rw[TC];refine⟨λz e=>?_,FU k x l (λz e=>m z (r_ _ e)) h.2⟩;rcases v_.mp ((iM _ x l).mem_iff.mp e)with rfl|e;·exact j
    ·exact h.1 z e
def uR{e:Type}{d:e->e->Bool}(f:∀a b c,d a b=L->d b c=L->d a c=L):∀l:List e,l.Pairwise (λa b=>d a b=L\/d b a=L)->(isortB (λa b=>!d b a) l).Pairwise (λa b=>d a b=L)|[],_=>.nil|x::l,h=>by rw[TC]at h;exact FU f x _ (λy g=>h.1 y ((isortB_perm _ l).mem_iff.mp g)) (uR f l h.2)
def Bv(a b:ak):ú (xt a) (xt b)=kX (key a) (key b):=by
 have e:∀(d c:List Str),d.length=c.length->ú (d.map N.str) (c.map N.str)=kX d c:=by intro d;induction d with|nil=>intro c h;cases c<;>simp at h;rfl|cons k d f=>intro c h;cases c with|nil=>simp at h|cons j c=>simp only[F_,ú,kX,ľ,ě,decide_eq_true_eq];rw[f c (by simpa using h)]
 exact e (key a) (key b) rfl
def FX{b:ak}(h:key ο≠key b):kX (key ο) (key b)=L\/kX (key b) (key ο)=L:=by cases q:kX (key ο) (key b)with|true=>exact .inl rfl|false=>cases a:kX (key b) (key ο)with|true=>exact .inr rfl|false=>exact absurd (ue (xs:=key ο) (ys:=key b) rfl q a) h
def Oq(c:(h.map key).Nodup):h.Pairwise (λa b=>key a≠key b):=by unfold List.Nodup at c;rw[W_]at c;exact c
def FY(l:List ak):l.map ek=(l.map key).map λk=>N.tup (k.map N.str):=by rw[Uq];rfl
def Bw(e:(h.map key).Nodup):((isortB (λa b=>!ú (xt b) (xt a)) h).map key).Pairwise (λa b=>kX a b=L):=by rw[W_];have:=uR (d:=λa b=>ú (xt a) (xt b)) (λa b c d f=>vC d f) h ((Oq e).imp λ{a b}d=>by rw[Bv,Bv];exact FX d);exact this.imp λ{a b}d=>by rw[<-Bv];exact d
def Bx(g:(h.map key).Nodup)(f:(ι.map key).Nodup)(c:∀k,k∈h.map key↔k∈ι.map key):FB h=FB ι:=by
 have p:(h.map key).Perm (ι.map key):=by
  rw[List.perm_iff_count];intro a;by_cases d:a∈h.map key;·rw[g.count,f.count,if_pos d,if_pos ((c a).1 d)]
  ·rw[g.count,f.count,if_neg d,if_neg λq=>d ((c a).2 q)]
 have i:((isortB (λa b=>!ú (xt b) (xt a)) h).map key).Perm ((isortB (λa b=>!ú (xt b) (xt a)) ι).map key):=((isortB_perm _ h).map key).trans (p.trans ((isortB_perm _ ι).map key).symm);have e:=FQ (R:=λa b=>kX a b=L) (λa b c j=>by have:=zF c j;rw[vz]at this;cases this) i (Bw g) (Bw f);unfold FB;rw[FY,FY,e]
def Os{b c:ak}(h:ō ο b=L)(a:ō b c=L):ō ο c=L:=vC h a
def By(a b:ak):ō a b=if a.md=b.md then kX (key a) (key b)else uk (a.md<b.md):=by
 have e:bD [N.str a.nm,.str a.house,.str a.path]=Z (key a):=rfl;have d:bD [N.str b.nm,.str b.house,.str b.path]=Z (key b):=rfl;unfold ō J0 ek;simp only[ú,ľ,ě,e,d,beq_iff_eq];split
 · by_cases c:key a=key b;·simp[c,vz]
   ·simp[c]
 ·rfl
def Ot{b:ak}(h:key ο≠key b):ō ο b=L\/ō b ο=L:=by
 rw[By,By];by_cases a:ο.md=b.md;·rw[if_pos a,if_pos a.symm];exact FX h
 · rw[if_neg a,if_neg (VB a)];rcases Int.lt_or_gt_of_ne a with q|q;·exact .inl (decide_eq_true q)
   ·exact .inr (decide_eq_true q)
def Ou{b:ak}(h:ō ο b=L):ο.md<=b.md:=by
 rw[By]at h;split at h;·omega
 ·have:=of_decide_eq_true h;omega
def Jn(e:(h.map key).Nodup):(FL h).Pairwise (λa b=>ō a b=L):=uR (d:=ō) (λa b c d f=>Os d f) h ((Oq e).imp λ{a b}d=>Ot d)
def Ü(b a:List ak):List ak:=FL (Ħ b a)
def ħ:ο∈Ü h ι↔ο∈Ħ h ι:=(isortB_perm _ _).mem_iff
def wu(b:(h.map key).Nodup)(a:(ι.map key).Nodup):((Ü h ι).map key).Nodup:=((isortB_perm _ (Ħ h ι)).map key).nodup_iff.mpr (FP b a)
def Ea(d:(h.map key).Nodup)(c:(ι.map key).Nodup):(Ü h ι).Pairwise (λa b=>ō a b=L):=Jn (FP d c)
def Bz(f:(h.map key).Nodup)(d:(ι.map key).Nodup)(k:List Str):k∈(Ü h ι).map key↔k∈h.map key\/k∈ι.map key:=by
 have e:k∈(Ü h ι).map key↔k∈(Ħ h ι).map key:=((isortB_perm _ (Ħ h ι)).map key).mem_iff;rw[e,sY f d,U1,Ue,Uq,show h.map (key∘qB ι)=h.map key from Vf λa _=>wq ι a];constructor
 · rintro(b|b);·exact .inl b
   ·obtain⟨n,c,rfl⟩:=G_.mp b;exact .inr (G_.mpr ⟨n,(TY.mp c).1,rfl⟩)
 · rintro(b|b);·exact .inl b
   · obtain⟨n,c,rfl⟩:=G_.mp b;by_cases q:key n∈h.map key;·exact .inl q
     ·refine .inr (G_.mpr ⟨n,TY.mpr ⟨c,?_⟩,rfl⟩);cases z:qw h n with|false=>rfl|true=>exact absurd (ì.mp z) q
def Eb(f:JS p h)(d:JS p ι):JS p (Ü h ι)where
 g:=λn i=>D8 f.k d.k f.g d.g n (ħ.mp i);s:=(Ea f.k d.k).imp λ{a b}q=>Ou q;k:=wu f.k d.k;u:=λn i=>by
  have c:=ħ.mp i;rw[sY f.k d.k]at c;rcases Ue.mp c with q|q
  · obtain⟨a,j,rfl⟩:=G_.mp q;rcases wt ι a with e|e;·rw[e];exact f.u a j
    ·exact d.u _ e
  ·exact d.u n (TY.mp q).1
def BA(c:JS p h)(f:h.length<=20)(b:JS p ι)(d:ι.length<=20)(a:D6 ι h=[]):jp [ej h,ej ι]=Z (.ok (ej (Ü h ι)))/\JS p (Ü h ι)/\(Ü h ι).length=h.length:=by
 have e:(Ħ h ι).length=h.length:=by rw[sY c.k b.k,a,W3,N_]
 exact⟨Bq (c.jar f) (b.jar d) (by omega),Eb c b,by unfold Ü;rw[wp];exact e⟩
def BB(a:List ak):D6 a a=[]:=by unfold D6;rw[Yk];intro n b;rw[ì.mpr (G_.mpr ⟨n,b,rfl⟩)];simp
def Tv(h:bw [.str c]=bo L):fN [.str c]=Z (.ok .non):=by simp[fN,aS,ic,bg,cH,Ö,cx,fB,ā,ae,aR,eZ,Y,h]
def Ec(a:List ak)(h:Str):List ak:=a.filter λn=>!ĵ n.house h
def Ed(c:JS p h)(d:h.length<=20){a:Str}(b:a∈En):cD [ej h,.str a]=Z (.ok (ej (Ec h a))):=by refine lK ?_;show fP [Z (ej h),Z (.str a)]=_;unfold fP;rw[aw (dY bH rfl (Oi (uN (c.jar d)))),aw (dY fN rfl (Tv (NC b)))];refine cA ?_;have e:(cf [("house",1)] (dO (Y 0)) (Z (cx (fB (ae aD 2 (bJ (I Ì (Y 0) (X 2)) (Y 1)))))) (Y 0)) [Z (ej h),Z (.str a)]=Z (.ok (.lst ((Ec h a).map Ñ))):=gW Ñ _ Ñ (iB rfl) (by omega) λn f=>⟨nF (bq (dP aD (a:=.str n.house) (b:=.str a) rfl rfl (Je (c.g n f).house b))),rfl⟩;exact(cj (ag e aq)).trans rfl
variable{Á:Ù}
def ax{a:ü}{F K:cz}(h:F q Ζ=Z (.nx a Á)):c8 F K q Ζ=K Á a:=by unfold c8;rw[h];rfl
def cb{a:ü}{u:Uv}(h:Μ q Ζ=Z (.ok u Á))(e:Ζ.set b (Z u)=a):lX b Μ q Ζ=Z (.nx a Á):=by unfold lX;rw[h,<-e];rfl
def cP{u:Uv}(h:Μ q Ζ=Z (.ok u Á)):jw Μ q Ζ=Z (.nx Ζ Á):=by unfold jw;rw[h];rfl
def jg{u:Uv}(h:Μ q Ζ=Z (.ok u Á)):nO Μ q Ζ=Z (.rt u Á):=by unfold nO;rw[h];rfl
def aj(h:B (Ą q Ζ)=Z (.ok i))(a:pl i=L):ay B q Ζ=Z (.ok (.inl i) q):=by unfold ay;rw[h];exact if_pos a
def bt{u:Uv}(h:Ζ[b]?=Z (Z u)):fg b q Ζ=Z (.ok u q):=by unfold fg;rw[h]
def aW{c:Ù}{b:nN}{u:Uv}{a:List Uv}(h:Μ q Ζ=Z (.ok u Á))(d:b Á Ζ=Z (.ok a c)):bF Μ b q Ζ=Z (.ok (u::a) c):=by unfold bF lB;rw[h];dsimp only;rw[d]
def bT{d:Ù}{c:nN}{a:List Uv}{G:Đ}{i:List Uv}(h:Μ q Ζ=Z (.ok (.inr Ρ) Á))(e:Á[Ρ]?=Z (.obj b i))(g:c Á Ζ=Z (.ok a d))(f:a.length=o):fu b G o Μ c q Ζ=G d (.inr Ρ::a):=by unfold fu lB;rw[h];dsimp only;rw[e];dsimp only;rw[if_pos rfl,g];exact if_pos f
def Ov{F K:cz}{p:Dr}(h:p q Ζ=Z (.ok L Á)):Ķ p F K q Ζ=F Á Ζ:=by unfold Ķ;rw[h];rfl
def Ow{F K:cz}{p:Dr}(h:p q Ζ=Z (.ok D Á)):Ķ p F K q Ζ=K Á Ζ:=by unfold Ķ;rw[h];rfl
def eY(h:Ο (Ą q Ζ)=Z (.ok H)):fK Ο q Ζ=Z (.ok H q):=by unfold fK;rw[h]
def jU{F:cz}{u:Uv}{a:List Uv}(h:F q (a.map Z++Ud (b-a.length) U)=Z (.rt u Á)):nK b F q a=Z (.ok u Á):=by unfold nK;rw[h]
def nH{F:cz}{a:List Uv}(h:F q (a.map Z++Ud (b-a.length) U)=Z (.nx Ζ Á)):nK b F q a=Z (.ok (.inl .non) Á):=by unfold nK;rw[h]
def Jo{u:Uv}{a:List Uv}(h:Μ q Ζ=Z (.ok (.inr Ρ) Á))(c:Á[Ρ]?=Z (.obj b a))(d:a[o]?=Z u):JW b o Μ q Ζ=Z (.ok u Á):=by unfold JW lB QI;rw[h];dsimp only;rw[c];dsimp only;rw[if_pos rfl,d]
def jV{d:Ù}{a:ò}{e c:List Uv}{w:Uv}(i:Μ q Ζ=Z (.ok w Á))(h:a Á Ζ=Z (.ok (.inr Ρ) d))(f:d[Ρ]?=Z (.obj b e))(g:mR b o w e=Z c):nJ b o a Μ q Ζ=Z (.nx Ζ (d.set Ρ (.obj b c))):=by unfold nJ Ff;rw[i];dsimp only;rw[h];dsimp only;rw[f];dsimp only;rw[if_pos rfl,g]
def Jp{c:Ù}{d:nN}{a:List N}(h:Μ q Ζ=Z (.ok (.inr b) Á))(e:Á[b]?=Z (.lst r))(g:d Á Ζ=Z (.ok [.inl i] c))(j:c[b]?=Z (.lst a))(f:a.length<100000):ML Μ d q Ζ=Z (.ok (.inl .non) (c.set b (.lst (a++[i])))):=by unfold ML lB;rw[h];dsimp only;rw[e];dsimp only;rw[g];dsimp only;rw[show ins [.inl i]=Z [i]from rfl,j];exact if_pos f
def qC:Dt iA q Ζ=Z (.ok (.inr q.length) (q++[ô.lst []])):=rfl
abbrev Sp:=Str×List ak
def Ĥ(s:Sp):N:=.tup [.str s.1,ej s.2]
def Ż(T:N)(b:List ak)(c a:List Sp):N:=.obj 1 [T,ej b,.lst (c.map Ĥ),.lst (a.map Ĥ)]
def Ń(T:N)(c:List ak)(a b:Nat):ô:=.obj 1 [.inl T,.inl (ej c),.inr a,.inr b]
structure DA(S:Ù)(n:Nat)(T:N)(js:List ak)(ds us:List Sp)(a b:Nat):Prop where
 o:S[n]?=Z (Ń T js a b)d:S[a]?=Z (.lst (ds.map Ĥ))u:S[b]?=Z (.lst (us.map Ĥ))na:n≠a
 nb:n≠b
 ab:a≠b
structure Ch(S S':Ù)(n a b:Nat):Prop where
 l:S.length<=S'.length
 h:∀c,c<S.length->c≠n->c≠a->c≠b->S'[c]?=S[c]?
def DA.vw{d c:List Sp}(a:DA q b i h d c o Ρ):vw q (.inr b)=Z (Ż i h d c):=by unfold FD.vw;dsimp only;rw[a.o];simp[Ń,vwL,vw1,a.d,a.u,Ż]
def sZ{l:List P}(h:l[b]?=Z È):b<l.length:=(B_.mp h).1
def Ch.refl:Ch q q b o Ρ:=⟨o_ _,λ_ _ _ _ _=>rfl⟩
def Ch.trans{j:Ù}{d:Nat}(h:Ch q Á b o Ρ)(i:Ch Á j b o d)(m:d=Ρ\/q.length<=d):Ch q j b o Ρ:=⟨TX h.l i.l,λc k g f e=>by have n:=h.l;rw[i.h c (by omega) g f (by rcases m with rfl|a<;>first|exact e|omega)];exact h.h c k g f e⟩
def iq(a:List ak):pl (ej a)=L:=by show ß (a.map Ñ)=L;exact l8 a
def Ox(a:List ak):ĝ (ej a)=L:=by show ß (a.map Ñ)=L;exact l8 a
def Jq(s:Sp):ĝ (Ĥ s)=L:=by simp[Ĥ,ĝ,ß,Ox]
def ĭ{d f:List Sp}(a:DA q b i h d f o Ρ)(w:Str)(B:d.length<1000):∃e,bY q [.inr b,.inl (.str w),.inl (ej ι)]=Z (.ok (.inl .non) e)/\DA e b i ι (d++[(w,h)]) [] o q.length/\Ch q e b o Ρ:=by
 have r:=sZ a.o;have g:=sZ a.d;have A:=sZ a.u;refine⟨(((q.set o (.lst ((d++[(w,h)]).map Ĥ)))++[ô.lst []]).set b (Ń i h o q.length)).set b (Ń i ι o q.length),?_,⟨?_,?_,?_,a.na,by omega,by omega⟩,⟨by simp,λc s j u _=>?_⟩⟩
 · refine nH (Ζ:=[Z (.inr b),Z (.inl (.str w)),Z (.inl (ej ι))]) ?_;show cB q [Z (.inr b),Z (.inl (.str w)),Z (.inl (ej ι))]=_;unfold cB;have m:Ą q [Z (.inr b),Z (.inl (.str w)),Z (.inl (ej ι))]=[Z (Ż i h d f),Z (.str w),Z (ej ι)]:=by simp only[Ą,F_,YU,Option.bind_some];rw[a.vw];rfl
   have z:ML (JW 1 2 (fg 0)) (bF (ay (iC (bJ (Y 1) (f1 (jY 1 1) (Y 0))))) iA) q [Z (.inr b),Z (.inl (.str w)),Z (.inl (ej ι))]=Z (.ok (.inl .non) (q.set o (.lst (d.map Ĥ++[Ĥ (w,h)])))):=Jp (Jo (bt rfl) a.o rfl) a.d (aW (aj (i:=Ĥ (w,h)) (by rw[m];rfl) (Jq _)) rfl) a.d (by simpa using(by omega:d.length<100000));rw[ax (cP z)];have p:(q.set o (.lst (d.map Ĥ++[Ĥ (w,h)]))++[ô.lst []])[b]?=Z (Ń i h o Ρ):=by rw[M_ (by simpa using r),E_ (VB a.na)];exact a.o
   have y:nJ 1 3 (fg 0) (Dt iA) (q.set o (.lst (d.map Ĥ++[Ĥ (w,h)]))) [Z (.inr b),Z (.inl (.str w)),Z (.inl (ej ι))]=Z (.nx [Z (.inr b),Z (.inl (.str w)),Z (.inl (ej ι))] ((q.set o (.lst (d.map Ĥ++[Ĥ (w,h)]))++[ô.lst []]).set b (Ń i h o q.length))):=by have:=jV (b:=1) (o:=3) (c:=[.inl i,.inl (ej h),.inr o,.inr q.length]) (Μ:=Dt iA) (a:=fg 0) (q:=q.set o (.lst (d.map Ĥ++[Ĥ (w,h)]))) (Ζ:=[Z (.inr b),Z (.inl (.str w)),Z (.inl (ej ι))]) qC (bt rfl) p (by simp[mR]);exact this
   rw[ax y];have n:((q.set o (.lst (d.map Ĥ++[Ĥ (w,h)]))++[ô.lst []]).set b (Ń i h o q.length))[b]?=Z (Ń i h o q.length):=K_ (by simp;omega);have k:(Y 2) (Ą ((q.set o (.lst (d.map Ĥ++[Ĥ (w,h)]))++[ô.lst []]).set b (Ń i h o q.length)) [Z (.inr b),Z (.inl (.str w)),Z (.inl (ej ι))])=Z (.ok (ej ι)):=rfl;have v:=jV (b:=1) (o:=1) (c:=[.inl i,.inl (ej ι),.inr o,.inr q.length]) (Μ:=ay (Y 2)) (a:=fg 0) (aj k (iq ι)) (bt rfl) n (by simp[mR]);rw[v];simp[Ń]
 ·exact K_ (by simp;omega)
 ·rw[E_ a.na,E_ a.na,M_ (by simpa using g)];exact K_ g
 ·rw[E_ (by omega),E_ (by omega),P_ (by simp)];simp
 ·rw[E_ (VB j),E_ (VB j),M_ (by simpa using s),E_ (VB u)]
def Did(S:Ù)(n:Nat)(T:N)(e:List ak)(f:List Sp)(a b:Nat)(d:List ak)(w:Str)(v:N)(r:Option (Ru Uv)):Prop:=∃c,r=Z (.ok (.inl v) c)/\DA c n T d (f++[(w,e)]) [] a S.length/\Ch S c n a b
def tf(a:List ak):fA [ej a]=Z (.ok (.int (a.length:Nat))):=by simp[fA,ej]
def J5{c b:List Sp}(a:ζ[0]?=Z (Z (Ż i h c b))):f1 (jY 1 1) (Y 0) ζ=Z (.ok (ej h)):=by unfold f1 Y;rw[a];rfl
def Sm{c b:List Sp}(a:ζ[0]?=Z (Z (Ż i h c b))):f1 (jY 1 0) (Y 0) ζ=Z (.ok i):=by unfold f1 Y;rw[a];rfl
def J6{d c:List Sp}(a:DA q b i h d c o Ρ)(e:Ζ[0]?=Z (Z (.inr b))):(Ą q Ζ)[0]?=Z (Z (Ż i h d c)):=by unfold Ą;rw[J_,e];show Z (vw q (.inr b))=_;rw[a.vw]
def ww{d j:List Sp}(a:DA q b i h d j o Ρ)(w:Str)(m:d.length<1000):Did q b i h d o Ρ ι w (.int ((h.length:Int)-(ι.length:Int))) (bW q [.inr b,.inl (.str w),.inl (ej ι)]):=by obtain⟨f,e,c,C⟩:=ĭ (ι:=ι) a w m;refine⟨f,jU ?_,c,C⟩;show bx q [Z (.inr b),Z (.inl (.str w)),Z (.inl (ej ι)),U]=_;unfold bx;have g:=J6 (Ζ:=[Z (.inr b),Z (.inl (.str w)),Z (.inl (ej ι)),U]) a rfl;have n:(I wO (Ý fA (ao (f1 (jY 1 1) (Y 0)))) (Ý fA (ao (Y 2)))) (Ą q [Z (.inr b),Z (.inl (.str w)),Z (.inl (ej ι)),U])=Z (.ok (.int ((h.length:Int)-(ι.length:Int)))):=(bK (i:=.int (h.length:Nat)) (η:=.int (ι.length:Nat)) ((cj (ag (J5 g) aq)).trans (tf h)) ((cj (ag (i:=ej ι) rfl aq)).trans (tf ι))).trans rfl;rw[ax (cb (a:=[Z (.inr b),Z (.inl (.str w)),Z (.inl (ej ι)),Z (.inl (.int ((h.length:Int)-(ι.length:Int))))]) (aj n rfl) rfl)];have k:fu 1 bY 2 (fg 0) (bF (ay (Y 1)) (bF (ay (Y 2)) iA)) q [Z (.inr b),Z (.inl (.str w)),Z (.inl (ej ι)),Z (.inl (.int ((h.length:Int)-(ι.length:Int))))]=Z (.ok (.inl .non) f):=(bT (a:=[.inl (.str w),.inl (ej ι)]) (bt rfl) a.o (aW (aj (i:=.str w) rfl rfl) (aW (aj (i:=ej ι) rfl (iq ι)) rfl)) rfl).trans e;rw[ax (cP k)];exact jg (aj (i:=.int ((h.length:Int)-(ι.length:Int))) rfl rfl)
def cE2(F:Ó){f g:Ò}{c:Ev}{a b:N}{r:N}(h:f c=Z (.ok a))(e:g c=Z (.ok b))(d:F [a,b]=Z (.ok r)):ae F 2 (bJ f g) c=Z (.ok r):=cE F (ag h (ag e aq)) rfl d
def qE{d g:List Sp}(a:DA q b i h d g o Ρ)(j:d.length<1000){k:Int}(e:i9 [ej h,.int k]=Z (.ok (ej ι))):Did q b i h d o Ρ ι "sweep" (.int ((h.length:Int)-(ι.length:Int))) (cL q [.inr b,.inl (.int k)]):=by obtain⟨n,m,c,C⟩:=ww (ι:=ι) a "sweep" j;refine⟨n,jU ?_,c,C⟩;show dJ q [Z (.inr b),Z (.inl (.int k))]=_;unfold dJ;have f:=J6 (Ζ:=[Z (.inr b),Z (.inl (.int k))]) a rfl;exact jg ((bT (a:=[.inl (.str "sweep"),.inl (ej ι)]) (bt rfl) a.o (aW (aj (i:=.str "sweep") rfl rfl) (aW (aj (i:=ej ι) (cE2 i9 (J5 f) (b:=.int k) rfl e) (iq ι)) rfl)) rfl).trans m)
def BC{d g:List Sp}(a:DA q b i h d g o Ρ)(j:d.length<1000){k:Str}(e:cD [ej h,.str k]=Z (.ok (ej ι))):Did q b i h d o Ρ ι "forget" (.int ((h.length:Int)-(ι.length:Int))) (gu q [.inr b,.inl (.str k)]):=by obtain⟨n,m,c,C⟩:=ww (ι:=ι) a "forget" j;refine⟨n,jU ?_,c,C⟩;show cV q [Z (.inr b),Z (.inl (.str k))]=_;unfold cV;have f:=J6 (Ζ:=[Z (.inr b),Z (.inl (.str k))]) a rfl;exact jg ((bT (a:=[.inl (.str "forget"),.inl (ej ι)]) (bt rfl) a.o (aW (aj (i:=.str "forget") rfl rfl) (aW (aj (i:=ej ι) (cE2 cD (J5 f) (b:=.str k) rfl e) (iq ι)) rfl)) rfl).trans m)
def wx{f j:List Sp}(a:DA q b i h f j o Ρ)(k:f.length<1000){d:List ak}(e:jp [ej h,ej d]=Z (.ok (ej ι))):Did q b i h f o Ρ ι "merge" (.int (ι.length:Nat)) (dI q [.inr b,.inl (ej d)]):=by obtain⟨n,m,c,C⟩:=ĭ (ι:=ι) a "merge" k;refine⟨n,jU ?_,c,C⟩;show dH q [Z (.inr b),Z (.inl (ej d)),U]=_;unfold dH;have g:=J6 (Ζ:=[Z (.inr b),Z (.inl (ej d)),U]) a rfl;rw[ax (cb (a:=[Z (.inr b),Z (.inl (ej d)),Z (.inl (ej ι))]) (aj (i:=ej ι) (cE2 jp (J5 g) (b:=ej d) rfl e) (iq ι)) rfl)];refine Tz (ax (cP ((bT (a:=[.inl (.str "merge"),.inl (ej ι)]) (bt rfl) a.o (aW (aj (i:=.str "merge") rfl rfl) (aW (aj (i:=ej ι) rfl (iq ι)) rfl)) rfl).trans m))) ?_;exact jg (aj (i:=.int (ι.length:Nat)) ((cj (ag (i:=ej ι) rfl aq)).trans (tf ι)) rfl)
def cE5(F:Ó){f g k m q:Ò}{i:Ev}{a b c d e:N}{r:N}(h:f i=Z (.ok a))(s:g i=Z (.ok b))(j:k i=Z (.ok c))(p:m i=Z (.ok d))(o:q i=Z (.ok e))(n:F [a,b,c,d,e]=Z (.ok r)):ae F 5 (qG f g k m q) i=Z (.ok r):=cE F (ag h (ag s (ag j (ag p (ag o aq))))) rfl n
def Jr{f k:List Sp}(a:DA q b i h f k o Ρ)(m:f.length<1000){A X:N}{d:Int}{w:Str}(u:pl A=L)(s:pl X=L)(e:lg [i,ej h,A,X,.int d]=Z (.ok (ej ι)))(n:dG [i,ej h,A,X,.int d]=Z (.ok (.str w))):Did q b i h f o Ρ ι "give" (.str w) (i7 q [.inr b,.inl A,.inl X,.inl (.int d)]):=by obtain⟨r,p,c,C⟩:=ĭ (ι:=ι) a "give" m;refine⟨r,jU ?_,c,C⟩;show eU q [Z (.inr b),Z (.inl A),Z (.inl X),Z (.inl (.int d)),U,U]=_;unfold eU;have j:=J6 (Ζ:=[Z (.inr b),Z (.inl A),Z (.inl X),Z (.inl (.int d)),U,U]) a rfl;have g:=J6 (Ζ:=[Z (.inr b),Z (.inl A),Z (.inl X),Z (.inl (.int d)),Z (.inl (ej ι)),U]) a rfl;rw[ax (cb (a:=[Z (.inr b),Z (.inl A),Z (.inl X),Z (.inl (.int d)),Z (.inl (ej ι)),U]) (aj (i:=ej ι) (cE5 lg (Sm j) (J5 j) (c:=A) (d:=X) (e:=.int d) rfl rfl rfl e) (iq ι)) rfl)];rw[ax (cb (a:=[Z (.inr b),Z (.inl A),Z (.inl X),Z (.inl (.int d)),Z (.inl (ej ι)),Z (.inl (.str w))]) (aj (i:=.str w) (cE5 dG (Sm g) (J5 g) (c:=A) (d:=X) (e:=.int d) rfl rfl rfl n) rfl) rfl)];refine Tz (ax (cP ((bT (a:=[.inl (.str "give"),.inl (ej ι)]) (bt rfl) a.o (aW (aj (i:=.str "give") rfl rfl) (aW (aj (i:=ej ι) rfl (iq ι)) rfl)) rfl).trans p))) ?_;exact jg (aj (i:=.str w) rfl rfl)
def kB(S:List P)(x y:P)(r:List P):(S++x::r).set S.length y=S++y::r:=by rw[List.set_append_right _ _ (o_ _),Xn];rfl
def jh(S:List P)(x:P)(r:List P):(S++x::r)[S.length]?=Z x:=by rw[P_ (o_ _),Xn];rfl
def DA.app{d c:List Sp}(a:DA q b i h d c o Ρ)(r:Ù):DA (q++r) b i h d c o Ρ:=⟨by rw[M_ (sZ a.o)];exact a.o,by rw[M_ (sZ a.d)];exact a.d,by rw[M_ (sZ a.u)];exact a.u,a.na,a.nb,a.ab⟩
def Oy(h:bL [i]=bo L):aT [i]=Z (.ok .non):=by simp[aT,aS,eJ,bg,cH,Ö,cx,fB,ā,ae,aR,eZ,Y,h]
def Jt(f:bL [i]=bo L)(e:pl i=L):cp (q++[.obj 1 []]) [.inr q.length,.inl i]=Z (.ok (.inl .non) (q++[Ń i [] (q.length+1) (q.length+2),.lst [],.lst []])):=by
 refine nH (Ζ:=[Z (.inr q.length),Z (.inl i)]) ?_;show cm (q++[.obj 1 []]) [Z (.inr q.length),Z (.inl i)]=_;unfold cm;have j:ae aT 1 (ao (Y 1)) (Ą (q++[.obj 1 []]) [Z (.inr q.length),Z (.inl i)])=Z (.ok .non):=cE aT (ag (i:=i) rfl aq) rfl (Oy f);rw[ax (cP (aj j rfl))];have d:=jV (b:=1) (o:=0) (c:=[.inl i]) (Μ:=ay (Y 1)) (a:=fg 0) (Ζ:=[Z (.inr q.length),Z (.inl i)]) (aj (i:=i) rfl e) (bt rfl) (jh q (.obj 1 []) []) (by simp[mR,ĉ]);rw[kB]at d;rw[ax d];have c:=jV (b:=1) (o:=1) (c:=[.inl i,.inl (ej [])]) (Μ:=ay (iC eZ)) (a:=fg 0) (Ζ:=[Z (.inr q.length),Z (.inl i)]) (aj (i:=ej []) rfl (iq [])) (bt rfl) (jh q (.obj 1 [.inl i]) []) (by simp[mR,ĉ]);rw[kB]at c;rw[ax c];have k:(q++[ô.obj 1 [.inl i,.inl (ej [])]]).length=q.length+1:=by simp
 have h:(q++[ô.obj 1 [.inl i,.inl (ej [])]]++[ô.lst []])[q.length]?=Z (.obj 1 [.inl i,.inl (ej [])]):=by rw[VT];exact jh q _ _
 have b:=jV (b:=1) (o:=2) (c:=[.inl i,.inl (ej []),.inr (q.length+1)]) (Μ:=Dt iA) (a:=fg 0) (Ζ:=[Z (.inr q.length),Z (.inl i)]) (qC (q:=q++[ô.obj 1 [.inl i,.inl (ej [])]])) (bt rfl) h (by simp[mR,ĉ]);rw[VT,List.singleton_append,kB]at b;rw[ax b];have g:(q++ô.obj 1 [.inl i,.inl (ej []),.inr (q.length+1)]::[ô.lst []]++[ô.lst []])[q.length]?=Z (.obj 1 [.inl i,.inl (ej []),.inr (q.length+1)]):=by rw[VT];exact jh q _ _
 have a:=jV (b:=1) (o:=3) (c:=[.inl i,.inl (ej []),.inr (q.length+1),.inr (q.length+2)]) (Μ:=Dt iA) (a:=fg 0) (Ζ:=[Z (.inr q.length),Z (.inl i)]) (qC (q:=q++ô.obj 1 [.inl i,.inl (ej []),.inr (q.length+1)]::[ô.lst []])) (bt rfl) g (by simp[mR,ĉ]);rw[VT,List.cons_append,kB]at a;rw[a];rfl
def Ju{a:nN}(d:bL [i]=bo L)(b:pl i=L)(c:a q Ζ=Z (.ok [.inl i] q)):rZ 1 cp 1 a q Ζ=Z (.ok (.inr q.length) (q++[Ń i [] (q.length+1) (q.length+2),.lst [],.lst []])):=by unfold rZ lB;rw[c];dsimp only;rw[show([WR i]:List Uv).length=1 from rfl,if_pos rfl,Jt d b]
def Oz(S:Ù):DA (S++[Ń i [] (S.length+1) (S.length+2),.lst [],.lst []]) S.length i [] [] [] (S.length+1) (S.length+2):=by
 refine⟨jh S _ _,?_,?_,by omega,by omega,by omega⟩;·rw[P_ (by omega),show S.length+1-S.length=1 by omega];rfl
 ·rw[P_ (by omega),show S.length+2-S.length=2 by omega];rfl
def OA(h:B ζ=Z (.ok (.lst r))):dO B ζ=Z (.ok r):=by unfold dO;rw[h];rfl
def xz(h:u.length<=59):kU [.lst (u.map N.str)]=Z (.ok (.lst ((isortB leS (ST.ddk u)).map N.str))):=by show(match bD (u.map N.str)with|some u=>if u.length<=59 then(Z (.ok (.lst ((isortB leS (ST.ddk u)).map N.str))):Option (Rs N))else U|none=>U)=_;rw[o6];dsimp only;rw[if_pos h]
def ļ(t:List N)(n:ak):Str:=match bU [.tup t,.str n.house]with|some (.ok (.str z))=>z|_=>n.house
def FZ(a:r∈kz è)(g:æ ο):ca [.tup r,Ñ ο]=Z (.ok (.str (ļ r ο))):=by
 obtain⟨m,o,_,b,e⟩:=DP a g.house;rcases b with rfl|⟨z,rfl⟩
 · have q:ļ r ο=ο.house:=by unfold ļ;rw[e]
   rw[q];simp[ca,aS,gS,aJ,sq,bg,aI,ce,cH,Ö,fB,ā,ae,aR,eZ,Y,fC,I,Ì,Ă,ċ,Ñ,e]
 · have q:ļ r ο=z:=by unfold ļ;rw[e]
   rw[q];simp[ca,aS,gS,aJ,sq,bg,aI,ce,cH,Ö,fB,ā,ae,aR,eZ,Y,fC,I,Ì,Ă,ċ,Ñ,e]
def Sn(n:ak):List N:=[.bl n.S,.int n.us]
def Jv(n:ak):sw [Ñ n]=Z (.ok (.tup (Sn n))):=fI (cA (tW (ag (i:=.bl n.S) rfl (ag (i:=.int n.us) rfl aq)) (by show 2<=100000;decide)))
def BD(c:i=.lst (h.map Ñ)\/i=ej h)(a:h.length<=20):fE [i,.int 20]=Z (.ok (.lst [])):=by
 obtain⟨b,d⟩:∃b:List ak,jF sw (h.map Ñ)=Z (.ok (.lst (b.map Ñ))):=⟨_,Bp [3,2] Jv (λ_=>rfl) rfl (λ_=>rfl) (λn=>by simp[ĝ,ß,Sn]) (by omega)⟩;refine fI ?_;show gT [Z i,Z (.int 20),U]=_;unfold gT;have g:(Ý (wY sw) (ao (Y 0))) [Z i,Z (.int 20),U]=Z (.ok (.lst (b.map Ñ))):=by refine(cj (ag (i:=i) rfl aq)).trans ?_;rcases c with rfl|rfl<;>exact d
 refine Tz (aw (bA (a:=[Z i,Z (.int 20),Z (.lst (b.map Ñ))]) g rfl)) ?_;refine cA ?_;have f:fA [i]=Z (.ok (.int (h.length:Nat))):=by
  rcases c with rfl|rfl;·exact FM h
  ·exact tf h
 have e:(Ý LP (bJ (I wO (Ý fA (ao (Y 0))) (Y 1)) (X 0))) [Z i,Z (.int 20),Z (.lst (b.map Ñ))]=Z (.ok (.int 0)):=by refine(cj (ag (i:=.int ((h.length:Int)-20)) ((bK ((cj (ag (i:=i) rfl aq)).trans f) (η:=.int 20) rfl).trans rfl) (ag (i:=.int 0) rfl aq))).trans ?_;show Z (Rs.ok (N.int (if(0:Int)>(h.length:Int)-20 then 0 else(h.length:Int)-20)))=_;congr 3;split<;>omega
 unfold j7;rw[show(dr (Ý LP (bJ (I wO (Ý fA (ao (Y 0))) (Y 1)) (X 0)))) [Z i,Z (.int 20),Z (.lst (b.map Ñ))]=Z (.ok (Z 0))from by unfold dr;rw[e];rfl];show Z (Rs.ok (N.lst (B9 (b.map Ñ) U (Z 0))))=_;congr 3
def BE(c:∀n∈h,æ n)(f:h.length<=20):gU [ej h,.lst []]=Z (.ok (ej h)):=by refine fI ?_;show jb [Z (ej h),Z (.lst [])]=_;unfold jb;refine cA ?_;have e:(cf [("dropped",1)] (dO (Y 0)) (Z (fB (I lA (Y 0) (Y 1)))) (Y 0)) [Z (ej h),Z (.lst [])]=Z (.ok (.lst ((h.filter λ_=>L).map Ñ))):=gW Ñ (λ_=>L) Ñ (iB rfl) (by omega) λo b=>⟨bq ((bK (i:=Ñ o) (η:=.lst (([]:List ak).map Ñ)) rfl rfl).trans (QZ ((wg (c o b)).le (by omega)) rfl (λa d=>by cases d) λa _=>IZ a o).2.1),rfl⟩;refine(cj (ag e aq)).trans ?_;rw[List.filter_eq_self.mpr (by simp)];rfl
def EF(t:List N)(d:List ak)(a b c:Option N):Ev:=[Z (.tup t),Z (ej d),Z (.int 20),Z (.int 20),a,b,c]
def OB(e:r∈kz è)(b:∀n∈h,æ n)(a:h.length<=20):AB [.tup r,ej h,.int 20,.int 20]=Z (.ok (ej h)):=by
 refine fI ?_;show AA (EF r h U U U)=_;unfold AA;refine Tz (aw (bA (i:=ej h) (a:=EF r h (Z (ej h)) U U) rfl rfl)) ?_;have i:(cf [("table",0)] (dO (Y 1)) U (ae ca 2 (bJ (Y 1) (Y 0)))) (EF r h (Z (ej h)) U U)=Z (.ok (.lst (h.map λn=>N.str (ļ r n)))):=il Ñ (λn=>.str (ļ r n)) (iB rfl) (by omega) λn c=>dP ca rfl rfl (FZ e (b n c));have k:dO (Ý kU (ao (cf [("table",0)] (dO (Y 1)) U (ae ca 2 (bJ (Y 1) (Y 0)))))) (EF r h (Z (ej h)) U U)=Z (.ok ((isortB leS (ST.ddk (h.map (ļ r)))).map N.str)):=by refine OA ((cj (ag i aq)).trans ?_);have:=xz (u:=h.map (ļ r)) (by simp;omega);rw[Uq]at this;exact this
 have lp:mC 5 [5,6] nh ((isortB leS (ST.ddk (h.map (ļ r)))).map N.str) (EF r h (Z (ej h)) U U)=Z (.nx (EF r h (Z (ej h)) U U)):=by refine mS (λd f=>?_) _ rfl;obtain⟨g,_,rfl⟩:=G_.mp f;refine⟨EF r h (Z (ej h)) (Z (.str g)) (Z (.lst ((h.filter λn=>seq (ļ r n) g).map Ñ))),?_,rfl⟩;show nh (EF r h (Z (ej h)) (Z (.str g)) U)=_;unfold nh;have j:(cu 1 [("table",0),("group",5)] (dO (Y 1)) (gN 0) (Z (fB (I à (ae ca 2 (bJ (Y 1) (Y 0))) (Y 2)))) (Y 0)) (EF r h (Z (ej h)) (Z (.str g)) U)=Z (.ok (.lst ((h.filter λn=>seq (ļ r n) g).map Ñ))):=oU Ñ (λn=>seq (ļ r n) g) Ñ (iB rfl) (by omega) λn c=>⟨bq ((bK (i:=.str (ļ r n)) (η:=.str g) (dP ca rfl rfl (FZ e (b n c))) rfl).trans rfl),rfl⟩;refine Tz (aw (bA (a:=EF r h (Z (ej h)) (Z (.str g)) (Z (.lst ((h.filter λn=>seq (ļ r n) g).map Ñ)))) j rfl)) ?_;exact bA (i:=ej h) (dP gU (a:=ej h) (b:=.lst []) rfl (dP fE (a:=.lst ((h.filter λn=>seq (ļ r n) g).map Ñ)) (b:=.int 20) rfl rfl (BD (.inl rfl) (TX (Vj _ _) a))) (BE b a)) rfl
 refine Tz (aw ((GU k).trans lp)) ?_;exact cA (dP gU (a:=ej h) (b:=.lst []) rfl (dP fE (a:=ej h) (b:=.int 20) rfl rfl (BD (.inr rfl) a)) (BE b a))
def kc(T:N)(a:List ak)(c:Int):ô:=.obj 0 [.inl T,.inl (.int 20),.inl (.int 20),.inl (ej a),.inl (.int c)]
def kpr(T:N)(a:List ak)(c:Int):N:=.obj 0 [T,.int 20,.int 20,ej a,.int c]
def kvw(a:q[b]?=Z (kc i h p)):vw q (.inr b)=Z (kpr i h p):=by simp[vw,a,kc,vwL,vw1,kpr]
def Ŷ(a:q[b]?=Z (kc i h p))(c:Ζ[o]?=Z (Z (.inr b))):(Ą q Ζ)[o]?=Z (Z (kpr i h p)):=by unfold Ą;rw[J_,c];show Z (vw q (.inr b))=_;rw[kvw a]
def kf(a:ζ[0]?=Z (Z (kpr i h p)))(c:jY 0 b (kpr i h p)=Z (.ok η)):f1 (jY 0 b) (Y 0) ζ=Z (.ok η):=by unfold f1 Y;rw[a];exact c
def OC(a:q[b]?=Z (kc i h p))(x:ô):(q.set b x)[b]?=Z x:=K_ (sZ a)
def OD(a:q[b]?=Z (kc i h p))(c:p<=Ε):bj q [.inr b,.inl (.int Ε)]=Z (.ok (.inl .non) q):=by refine nH (Ζ:=[Z (.inr b),Z (.inl (.int Ε))]) ?_;show aV q [Z (.inr b),Z (.inl (.int Ε))]=_;unfold aV;refine(Ow (eY (bq ((bK (i:=.int Ε) (η:=.int p) rfl (kf (Ŷ a rfl) rfl)).trans ?_)))).trans rfl;show Z (Rs.ok (N.bl (uk (Ε<p))))=_;rw[decide_eq_false (show¬Ε<p by omega)]
def BI{c a:List Uv}(h:q[b]?=Z (.obj 0 c))(g:Ζ[0]?=Z (Z (.inr b)))(f:B (Ą q Ζ)=Z (.ok i))(d:pl i=L)(e:mR 0 o (.inl i) c=Z a):nJ 0 o (fg 0) (ay B) q Ζ=Z (.nx Ζ (q.set b (.obj 0 a))):=jV (aj f d) (bt g) h e
def K6(n:Nat)(A X:N)(a:Int)(x y:Option Uv):ü:=[Z (.inr n),Z (.inl A),Z (.inl X),Z (.inl (.int a)),x,y]
def Jz(a:q[b]?=Z (kc i h p))(r:pl η=L)(o:pl χ=L)(g:dG [i,ej h,η,χ,.int Ε]=Z (.ok (.str c)))(n:p<=Ε)(k:aN [χ]=Z (.ok Κ))(j:bZ [i,ej h,η,Κ,.int Ε]=Z (.ok (ej ι)))(m:AB [i,ej ι,.int 20,.int 20]=Z (.ok (ej ι))):gC q [.inr b,.inl η,.inl χ,.inl (.int Ε)]=Z (.ok (.inl (.str c)) (q.set b (kc i ι Ε))):=by refine jU ?_;show cW q (K6 b η χ Ε U U)=_;unfold cW;have f:=Ŷ (Ζ:=K6 b η χ Ε U U) (o:=0) a rfl;have e:=Ŷ (Ζ:=K6 b η χ Ε (Z (.inl (.str c))) U) (o:=0) a rfl;have d:=Ŷ (Ζ:=K6 b η χ Ε (Z (.inl (.str c))) (Z (.inl (ej ι)))) (o:=0) a rfl;refine Tz (ax (cb (a:=K6 b η χ Ε (Z (.inl (.str c))) U) (aj (i:=.str c) (cE5 dG (kf f rfl) (kf f rfl) (c:=η) (d:=χ) (e:=.int Ε) rfl rfl rfl g) rfl) rfl)) ?_;refine Tz (ax (cP ((bT (a:=[.inl (.int Ε)]) (bt rfl) a (aW (aj (i:=.int Ε) rfl rfl) rfl) rfl).trans (OD a n)))) ?_;refine Tz (ax (cb (a:=K6 b η χ Ε (Z (.inl (.str c))) (Z (.inl (ej ι)))) (aj (i:=ej ι) (cE5 bZ (kf e rfl) (kf e rfl) (c:=η) (d:=Κ) (e:=.int Ε) rfl (cE aN (ag (i:=χ) rfl aq) rfl k) rfl j) (iq ι)) rfl)) ?_;refine Tz (ax (BI (i:=ej ι) (a:=[.inl i,.inl (.int 20),.inl (.int 20),.inl (ej ι),.inl (.int p)]) a rfl (cE AB (ag (kf d rfl) (ag (i:=ej ι) rfl (ag (kf d rfl) (ag (kf d rfl) aq)))) rfl m) (iq ι) (by simp[mR]))) ?_;refine Tz (ax (BI (i:=.int Ε) (a:=[.inl i,.inl (.int 20),.inl (.int 20),.inl (ej ι),.inl (.int Ε)]) (OC a _) rfl rfl rfl (by simp[mR]))) ?_;rw[List.set_set];exact jg (aj (i:=.str c) rfl rfl)
def xA(a:q[b]?=Z (kc i h p)){k:Str}(e:cD [ej h,.str k]=Z (.ok (ej ι))):fj q [.inr b,.inl (.str k)]=Z (.ok (.inl (.int ((h.length:Int)-(ι.length:Int)))) (q.set b (kc i ι p))):=by refine jU ?_;show cq q [Z (.inr b),Z (.inl (.str k)),U,U]=_;unfold cq;have d:=Ŷ (Ζ:=[Z (.inr b),Z (.inl (.str k)),U,U]) (o:=0) a rfl;have c:=Ŷ (Ζ:=[Z (.inr b),Z (.inl (.str k)),Z (.inl (ej ι)),U]) (o:=0) a rfl;refine Tz (ax (cb (a:=[Z (.inr b),Z (.inl (.str k)),Z (.inl (ej ι)),U]) (aj (i:=ej ι) (cE2 cD (kf d rfl) (b:=.str k) rfl e) (iq ι)) rfl)) ?_;refine Tz (ax (cb (a:=[Z (.inr b),Z (.inl (.str k)),Z (.inl (ej ι)),Z (.inl (.int ((h.length:Int)-(ι.length:Int))))]) (aj (i:=.int ((h.length:Int)-(ι.length:Int))) ((bK (i:=.int (h.length:Nat)) (η:=.int (ι.length:Nat)) ((cj (ag (i:=ej h) (kf c rfl) aq)).trans (tf h)) ((cj (ag (i:=ej ι) rfl aq)).trans (tf ι))).trans rfl) rfl) rfl)) ?_;refine Tz (ax (BI (i:=ej ι) (a:=[.inl i,.inl (.int 20),.inl (.int 20),.inl (ej ι),.inl (.int p)]) a rfl rfl (iq ι) (by simp[mR]))) ?_;exact jg (aj (i:=.int ((h.length:Int)-(ι.length:Int))) rfl rfl)
def Ee(a:q[b]?=Z (kc i h p))(d:p<=Ε)(e:i9 [ej h,.int Ε]=Z (.ok (ej ι))):gD q [.inr b,.inl (.int Ε)]=Z (.ok (.inl .non) (q.set b (kc i ι Ε))):=by refine nH (Ζ:=[Z (.inr b),Z (.inl (.int Ε)),Z (.inl (ej ι))]) ?_;show cX q [Z (.inr b),Z (.inl (.int Ε)),U]=_;unfold cX;have c:=Ŷ (Ζ:=[Z (.inr b),Z (.inl (.int Ε)),U]) (o:=0) a rfl;refine Tz (ax (cb (a:=[Z (.inr b),Z (.inl (.int Ε)),Z (.inl (ej ι))]) (aj (i:=ej ι) (cE2 i9 (kf c rfl) (b:=.int Ε) rfl e) (iq ι)) rfl)) ?_;refine Tz (ax (cP ((bT (a:=[.inl (.int Ε)]) (bt rfl) a (aW (aj (i:=.int Ε) rfl rfl) rfl) rfl).trans (OD a d)))) ?_;refine Tz (ax (BI (i:=ej ι) (a:=[.inl i,.inl (.int 20),.inl (.int 20),.inl (ej ι),.inl (.int p)]) a rfl rfl (iq ι) (by simp[mR]))) ?_;refine(BI (i:=.int Ε) (a:=[.inl i,.inl (.int 20),.inl (.int 20),.inl (ej ι),.inl (.int Ε)]) (OC a _) rfl rfl rfl (by simp[mR])).trans ?_;rw[List.set_set];rfl
def F0:d5 [.int 20]=Z (.ok .non):=by lk
def Ef(j:bL [i]=bo L)(h:pl i=L):bS (q++[.obj 0 []]) [.inr q.length,.inl i,.inl (.int 20),.inl (.int 20)]=Z (.ok (.inl .non) (q++[kc i [] 0])):=by
 obtain⟨c,a⟩:∃c:ü,c=[Z (.inr q.length),Z (.inl i),Z (.inl (.int 20)),Z (.inl (.int 20))]:=⟨_,rfl⟩;refine nH (Ζ:=c) ?_;show bR (q++[.obj 0 []]) [Z (.inr q.length),Z (.inl i),Z (.inl (.int 20)),Z (.inl (.int 20))]=_;rw[<-a];unfold bR;have d:c[0]?=Z (Z (.inr q.length)):=by rw[a];rfl
 have g:∀b:Ù,Y 1 (Ą b c)=Z (.ok i):=λb=>by rw[a];rfl
 have f:∀b:Ù,Y 2 (Ą b c)=Z (.ok (.int 20)):=λb=>by rw[a];rfl
 have e:∀b:Ù,Y 3 (Ą b c)=Z (.ok (.int 20)):=λb=>by rw[a];rfl
 refine Tz (ax (cP (aj (cE aT (ag (g _) aq) rfl (Oy j)) rfl))) ?_;refine Tz (ax (cP (aj (cE d5 (ag (f _) aq) rfl F0) rfl))) ?_;refine Tz (ax (cP (aj (cE d5 (ag (e _) aq) rfl F0) rfl))) ?_;refine Tz (ax (BI (a:=[.inl i]) (jh q _ []) d (g _) h (by simp[mR,ĉ]))) ?_;rw[kB];refine Tz (ax (BI (a:=[.inl i,.inl (.int 20)]) (jh q _ []) d (f _) rfl (by simp[mR,ĉ]))) ?_;rw[kB];refine Tz (ax (BI (a:=[.inl i,.inl (.int 20),.inl (.int 20)]) (jh q _ []) d (e _) rfl (by simp[mR,ĉ]))) ?_;rw[kB];refine Tz (ax (BI (i:=ej []) (a:=[.inl i,.inl (.int 20),.inl (.int 20),.inl (ej [])]) (jh q _ []) d rfl (iq []) (by simp[mR,ĉ]))) ?_;rw[kB];refine(BI (i:=.int 0) (a:=[.inl i,.inl (.int 20),.inl (.int 20),.inl (ej []),.inl (.int 0)]) (jh q _ []) d rfl rfl (by simp[mR,ĉ])).trans ?_;rw[kB];rfl
def Eg{a:nN}(d:bL [i]=bo L)(b:pl i=L)(c:a q Ζ=Z (.ok [.inl i,.inl (.int 20),.inl (.int 20)] q)):rZ 0 bS 3 a q Ζ=Z (.ok (.inr q.length) (q++[kc i [] 0])):=by unfold rZ lB;rw[c];dsimp only;rw[show([WR i,WR (N.int 20),WR (N.int 20)]:List Uv).length=3 from rfl,if_pos rfl,Ef d b]
def Tw(a:r∈kz è):pl (.tup r)=L:=by
 have:(kz è).all (λr=>pl (.tup r))=L:=by lk
 exact aU (p:=λr=>pl (.tup r)) this a
def Eh(a:Ak c m i):pl (ø H c m i)=L:=by rcases a.o with rfl|⟨o,_,rfl⟩<;>rfl
def OE:(En.all λp=>En.all λq=>Ř (bc [.str p,.str q])&&(Ī (bc [.str p,.str q])==ĵ p q))=L:=by lk
def Rx(h:c∈En)(b:m∈En):bc [.str c,.str m]=bo (ĵ c m):=by have e:=aU (p:=λm=>Ř (bc [.str c,.str m])&&(Ī (bc [.str c,.str m])==ĵ c m)) (aU (p:=λc=>En.all λm=>Ř (bc [.str c,.str m])&&(Ī (bc [.str c,.str m])==ĵ c m)) OE h) b;rw[pi]at e;obtain⟨k,ek⟩:=AV e.1;have a:=X0 e.2;rw[ek]at a⊢;rw[<-a];cases k<;>rfl
def JA(n:ak):el [Ñ n]=Z (.ok (ek n)):=by simp[el,aS,jr,aI,cH,Ö,aR,eZ,Y,fC,I,Ì,Ă,iC,Ñ,ek]
def wy{c:Ù}{g:ò}{a:N->N->Option (Rs N)}(h:Μ q Ζ=Z (.ok (.inl i) Á))(e:g Á Ζ=Z (.ok (.inl η) c))(d:a i η=Z (.ok (.bl H))):ul a Μ g q Ζ=Z (.ok (.inl (.bl H)) c):=by unfold ul lB;rw[h];dsimp only;rw[e];show(match a i η with|some (.ok (.bl b))=>Z (Ru.ok (WR (N.bl b)) c)|_=>U)=_;rw[d]
def qF{a:N->N->Option (Rs N)}(h:Μ q Ζ=Z (.ok (.inl i) Á))(d:B (Ą Á Ζ)=Z (.ok η))(c:a i η=Z (.ok (.bl H))):lG a Μ B q Ζ=Z (.ok (.inl (.bl H)) Á):=by unfold lG lB;rw[h];dsimp only;rw[d];show(match a i η with|some (.ok (.bl b))=>Z (Ru.ok (WR (N.bl b)) Á)|_=>U)=_;rw[c]
def JB(h:Μ q Ζ=Z (.ok (.inl (.bl H)) Á)):uB Μ q Ζ=Z (.ok H Á):=by unfold uB lB;rw[h];rfl
def F1{g:ò}(h:Μ q Ζ=Z (.ok (.inl (.bl L)) Á)):Ix Μ g q Ζ=g Á Ζ:=by unfold Ix lB;rw[h]
def gE{p:Dr}{A:cz}(h:p q Ζ=Z (.ok D Á)):Ķ p A vM q Ζ=Z (.nx Ζ Á):=(Ow h).trans rfl
def OF(x:Int):ď (.int x) (.int x)=bo D:=Bh (k:=0) v8 (by omega)
def JC(h:p=Ε):à (.int p) (.int Ε)=bo L:=by show Z (Rs.ok (N.bl (p==Ε)))=_;rw[h];simp
def OG(a:∀n∈h,æ n):ď (ej h) (ej h)=bo D:=Bh (Rp a) (by omega)
def lj(a:B ζ=Z (.ok (ej h))):dO B ζ=Z (.ok (h.map Ñ)):=by unfold dO;rw[a];rfl
def lF{d c:List Sp}(a:DA q 0 i h d c b o)(f:Ζ[2]?=Z (Z (.inr 0))):df 1 aO (Y 2) (Ą q Ζ)=Z (.ok (ej h)):=by
 have e:(Ą q Ζ)[2]?=Z (Z (Ż i h d c)):=by unfold Ą;rw[J_,f];show Z (vw q (.inr 0))=_;rw[a.vw]
 unfold df Y;rw[e];show(if isO 1 (Ż i h d c)=L then _ else U)=_;rw[if_pos (by rfl)];rfl
def tj(a:q[3]?=Z (kc i h p))(b:Ζ[3]?=Z (Z (.inr 3))):df 0 dL (Y 3) (Ą q Ζ)=Z (.ok (ej h)):=by unfold df Y;rw[Ŷ a b];show(if isO 0 (kpr i h p)=L then _ else U)=_;rw[if_pos (by rfl)];rfl
def DA.set3{d c:List Sp}{x:ô}(a:DA q 0 i h d c b o)(f:3≠b)(e:3≠o):DA (q.set 3 x) 0 i h d c b o:=⟨by rw[E_ (by omega)];exact a.o,by rw[E_ f];exact a.d,by rw[E_ e];exact a.u,a.na,a.nb,a.ab⟩
def Bo(S:Ù)(T:N)(d:List ak)(c:Int)(m:Nat):Prop:=∃e f a b,DA S 0 T d e f a b/\S[3]?=Z (kc T d c)/\3≠a/\3≠b/\e.length<=m
def JD{g j:List Sp}{r:Option (Ru Uv)}{x:ô}(d:DA q 0 i h g j b o)(k:q[3]?=Z x)(p:3≠b)(n:3≠o)(a:Did q 0 i h g b o ι c η r):∃f,r=Z (.ok (.inl η) f)/\DA f 0 i ι (g++[(c,h)]) [] b q.length/\f[3]?=Z x/\3≠q.length:=by obtain⟨f,e,s,C⟩:=a;have m:=sZ k;exact⟨f,e,s,(C.h 3 m (by omega) p n).trans k,by omega⟩
def Q(g:List Int)(T:N)(a:Int)(f e d c b:Option Uv):ü:=[Z (.inl (.scr g)),Z (.inl T),Z (.inr 0),Z (.inr 3),Z (.inl (.int a)),f,e,d,c,b,U,U]
def st5{m:List Int}{j g f e:Option Uv}(B:Bo q (.tup r) h p b)(o:∀n∈h,æ n){i:Option Uv}:uL q (Q m (.tup r) Ε j i g f e)=Z (.nx (Q m (.tup r) Ε j i g f e) q):=by obtain⟨w,s,a,d,c,k,v,u,l⟩:=B;exact gE (eY (bq ((bK (lF c rfl) (tj k rfl)).trans (OG o))))
def OH{m:List Int}{j g f e:Option Uv}(B:Bo q (.tup r) h p b)(n:JS Ε h)(o:h.length<=20){i:Option Uv}:Ķ (fK uK) (nO (ay (fC (.bl D)))) vM q (Q m (.tup r) Ε j i g f e)=Z (.nx (Q m (.tup r) Ε j i g f e) q):=by obtain⟨z,v,a,d,c,k,y,w,l⟩:=B;refine gE (eY ?_);have u:=bq ((bK (g:=ď) (lF (Ζ:=Q m (.tup r) Ε j i g f e) c rfl) (tj k rfl)).trans (OG n.g));have s:=nF (bq (eD ib (lF (Ζ:=Q m (.tup r) Ε j i g f e) c rfl) (uN (n.jar o))));exact Bi u s
def st4{z:Int}{g:List Int}{s o m:Option Uv}(H:g.length<=63)(B:Bo q (.tup r) h p b)(v:JS Ε h)(jl:h.length<=20)(hm:b<900):∃S' i y9,qc q (Q g (.tup r) Ε s (Z (.inl (.int z))) o m U)=Z (.nx (Q g (.tup r) Ε s (Z (.inl (.int z))) o m y9) S')/\Bo S' (.tup r) i p (b+1)/\JS Ε i/\i.length<=h.length:=by
 obtain⟨d,d0,d1,e0⟩:=bC g H (z+30) 4 (by omega);have c1:fK uI q (Q g (.tup r) Ε s (Z (.inl (.int z))) o m U)=Z (.ok (d==0) q):=eY (bq ((bK (i:=.int d) (η:=.int 0) (ql ah (a:=.scr g) (b:=.int (z+30)) (c:=.int 4) rfl rfl rfl e0) rfl).trans rfl));by_cases P:d=0
 ·obtain⟨c,hh,eN⟩:=qj g H (z+31);have hE:=me hh;obtain⟨ds,E,a,f,e,k,u,y,l⟩:=B;have ef:=Ed v jl hE;obtain⟨A,e1,D1,w,j⟩:=JD e k u y (BC e (by omega) ef);have e2:=xA w ef;refine⟨A.set 3 (kc (.tup r) (Ec h c) p),Ec h c,Z (.inl (.str c)),?_,⟨_,_,_,_,D1.set3 u j,OC w _,u,j,by simp;omega⟩,v.filt _,Vj _ _⟩;unfold qc;refine Tz (Ov (Á:=q) (by rw[c1,P];rfl)) ?_;refine Tz (ax (cb (a:=Q g (.tup r) Ε s (Z (.inl (.int z))) o m (Z (.inl (.str c)))) (aj (i:=.str c) (dP aX (a:=.scr g) (b:=.int (z+31)) rfl rfl eN) rfl) rfl)) ?_;have ar:∀q:Ù,bF (ay (Y 9)) iA q (Q g (.tup r) Ε s (Z (.inl (.int z))) o m (Z (.inl (.str c))))=Z (.ok [.inl (.str c)] q):=λq=>aW (aj (i:=.str c) rfl rfl) rfl;refine Tz (ax (gE (JB (wy ((bT (a:=[.inl (.str c)]) (bt rfl) e.o (ar q) rfl).trans e1) ((bT (a:=[.inl (.str c)]) (bt rfl) w (ar A) rfl).trans e2) (OF _))))) ?_;have ec:(cf [("_law_house",9)] (dO (df 1 aO (Y 2))) (Z (fB (ae bc 2 (bJ (I Ì (Y 0) (X 2)) (Y 1))))) (Y 0)) (Ą (A.set 3 (kc (.tup r) (Ec h c) p)) (Q g (.tup r) Ε s (Z (.inl (.int z))) o m (Z (.inl (.str c)))))=Z (.ok (.lst (((Ec h c).filter λn=>ĵ n.house c).map Ñ))):=gW Ñ (λn=>ĵ n.house c) Ñ (lj (lF (D1.set3 u j) rfl)) (by have:=Vj (λn:ak=>!ĵ n.house c) h;unfold Ec;omega) λn hn=>⟨bq (dP bc (a:=.str n.house) (b:=.str c) rfl rfl (Rx (v.g n (TY.mp hn).1).house hE)),rfl⟩;rw[show(Ec h c).filter (λn=>ĵ n.house c)=[]by unfold Ec;rw[abn];exact Yk.mpr λn _=>by cases ĵ n.house c<;>simp]at ec;exact gE (eY (bq ((bK ec (η:=.lst []) rfl).trans rfl)))
 ·obtain⟨ds,E,a,f,e,k,u,y,l⟩:=B;refine⟨q,h,U,gE ?_,⟨ds,E,a,f,e,k,u,y,by omega⟩,v,o_ _⟩;rw[c1];congr 2;simpa using P
def st3{z:Int}{f:List Int}{n m j i:Option Uv}(hl:f.length<=63)(B:Bo q (.tup r) h p b)(u:JS Ε h)(jl:h.length<=20)(hm:b<900)(A:p<=Ε)(n0:0<=Ε)(n1:Ε<=200):∃S' g P,p9 q (Q f (.tup r) Ε n (Z (.inl (.int z))) m j i)=Z (.nx (Q f (.tup r) Ε n (Z (.inl (.int z))) m j i) S')/\Bo S' (.tup r) g P (b+1)/\P<=Ε/\JS Ε g/\g.length<=h.length:=by
 obtain⟨d,d0,d1,e0⟩:=bC f hl (z+35) 4 (by omega);have H:fK uJ q (Q f (.tup r) Ε n (Z (.inl (.int z))) m j i)=Z (.ok (d==0) q):=eY (bq ((bK (i:=.int d) (η:=.int 0) (ql ah (a:=.scr f) (b:=.int (z+35)) (c:=.int 4) rfl rfl rfl e0) rfl).trans rfl));obtain⟨ds,us,a,e,c,k,o,s,l⟩:=B;by_cases y:d=0;·have E:=uO u jl n0 (by omega);have e1:=Ee k A E;have v:=c.set3 (x:=kc (.tup r) (Ć h Ε) Ε) o s;obtain⟨S2,e2,D2,k2,w⟩:=JD v (OC k _) o s (qE v (by omega) E);refine⟨S2,Ć h Ε,Ε,?_,⟨_,_,_,_,D2,k2,o,w,by simp;omega⟩,Zn _,u.filt _,sW⟩;unfold p9;refine Tz (Ov (Á:=q) (by rw[H,y];rfl)) ?_;have ar:∀q:Ù,bF (ay (Y 4)) iA q (Q f (.tup r) Ε n (Z (.inl (.int z))) m j i)=Z (.ok [.inl (.int Ε)] q):=λq=>aW (aj (i:=.int Ε) rfl rfl) rfl;refine Tz (ax (cP ((bT (a:=[.inl (.int Ε)]) (bt rfl) k (ar q) rfl).trans e1))) ?_;exact cP ((bT (a:=[.inl (.int Ε)]) (bt rfl) v.o (ar _) rfl).trans e2)
 ·refine⟨q,h,p,gE ?_,⟨ds,us,a,e,c,k,o,s,by omega⟩,A,u,o_ _⟩;rw[H];congr 2;simpa using y
def JE{f:List Nat}{F:cz}{c:ü}(h:F q ((Im f Ζ).set b (Z (.inl (.int (p+(o:Int)*Ε)))))=Z (.nx c Á)):nP b f F p Ε (Ρ+1) o q Ζ=nP b f F p Ε Ρ (o+1) Á c:=by show(match F q ((Im f Ζ).set b (Z (.inl (.int (p+(o:Int)*Ε)))))with|some (.nx c Á)=>nP b f F p Ε Ρ (o+1) Á c|a=>a)=_;rw[h]
def Ei{f:List Nat}{w:FnI}{F:cz}{r:Option Ť}(h:w (Ą q Ζ)=Z (p,Ε,o))(e:nP b f F p Ε o 0 q Ζ=r):w6 b f w F q Ζ=r:=by unfold w6;rw[h];exact e
def JF:(Ŵ.all λx=>Uh (.str x))=L:=by lk
def Ry(h:c∈Ŵ):ď (.str c) (.str c)=bo D:=Bh (kx (aU (p:=λc=>Uh (.str c)) JF h)) (by omega)
def OI(h:ξ ζ=Z (.ok [.int (b:Int)]))(a:b<=1000):iU1 ξ ζ=Z (0,1,b):=by unfold iU1;rw[h];show(if okR (b:Int)then Z ((0:Int),(1:Int),(b:Int).toNat)else U)=_;rw[if_pos ⟨by omega,by omega⟩];rfl
def Rz{j:List Int}(v:j.length<=63)(ht:r∈kz è)(hk:o<7)(B:Bo q (.tup r) h p b)(Js:JS Ε h)(jl:h.length<=o)(hm:b<800)(hc:p<=Ε)(n0:0<=Ε)(n1:Ε<=3*o):∃S' m c' i y6 y7 y8 y9,nq q (Q j (.tup r) Ε (Z (.inl (.int (o:Nat)))) U U U U)=Z (.nx (Q j (.tup r) i (Z (.inl (.int (o:Nat)))) y6 y7 y8 y9) S')/\Bo S' (.tup r) m c' (b+3)/\JS i m/\m.length<=o+1/\c'<=i/\0<=i/\i<=3*(o+1:Nat):=by obtain⟨z,hz⟩:∃z:Int,z=20+40*(o:Int):=⟨_,rfl⟩;obtain⟨d,d0,d1,e0⟩:=bC j v z 4 (by omega);obtain⟨s,c,e,O,hh,hp,hO,eA⟩:=DO j v (z+2);have a:Ak c e O:=⟨me hh,hp,hO⟩;obtain⟨nm,w,H,P,u,l,S0,R,g,eG⟩:=DV j v (z+12) hh;obtain⟨X,eX,eR⟩:=Jj g;obtain⟨i,hn⟩:∃n:Int,n=Ε+d:=⟨_,rfl⟩;have J1:=Js.later (now':=i) (by omega);obtain⟨x,ys,hx,ev,et,ei,J2,l2⟩:=DZ (À:=s) ht a g eR J1 (by omega) (by omega) (by omega);obtain⟨ds,us,aa,bb,f,k3,ha,hb,b'⟩:=B;obtain⟨S1,e1,D1,k1,E⟩:=JD f k3 ha hb (Jr f (by omega) (A:=ø s c e O) (X:=.str X) (Eh a) rfl et ev);have e2:=Jz k1 (Eh a) (χ:=.str X) rfl ev (show p<=i by omega) eR ei (OB ht J2.g (by omega));have B2:Bo (S1.set 3 (kc (.tup r) ys i)) (.tup r) ys i (b+1):=⟨_,_,_,_,D1.set3 ha E,OC k1 _,ha,E,by simp;omega⟩;obtain⟨k,A⟩:∃y:Option Uv,y=Z (.inl (.int (o:Nat))):=⟨_,rfl⟩;obtain⟨S3,j3,y9,e3,B3,J3,l3⟩:=st4 (s:=k) (z:=z) (o:=Z (.inl (ø s c e O))) (m:=Z (.inl (.str X))) (Ε:=i) v B2 J2 (by omega) (by omega);obtain⟨S4,j4,c4,e4,B4,a',J4,l4⟩:=st3 (n:=k) (z:=z) (m:=Z (.inl (ø s c e O))) (j:=Z (.inl (.str X))) (i:=y9) (Ε:=i) v B3 J3 (by omega) (by omega) (Zn _) (by omega) (by omega);refine⟨S4,j4,c4,i,Z (.inl (.int z)),Z (.inl (ø s c e O)),Z (.inl (.str X)),y9,?_,B4,J4,by omega,a',by omega,by omega⟩;rw[<-A];unfold nq;refine Tz (ax (cb (a:=Q j (.tup r) Ε k (Z (.inl (.int z))) U U U) (u:=.inl (.int z)) (aj (i:=.int z) (by rw[A,hz];rfl) rfl) rfl)) ?_;refine Tz (ax (cb (a:=Q j (.tup r) i k (Z (.inl (.int z))) U U U) (u:=.inl (.int i)) (aj (i:=.int i) ((bK (i:=.int Ε) (η:=.int d) rfl (ql ah (a:=.scr j) (b:=.int z) (c:=.int 4) rfl rfl rfl e0)).trans (by rw[hn];rfl)) rfl) rfl)) ?_;refine Tz (ax (cb (a:=Q j (.tup r) i k (Z (.inl (.int z))) (Z (.inl (ø s c e O))) U U) (u:=.inl (ø s c e O)) (aj (i:=ø s c e O) (dP jq (a:=.scr j) (b:=.int (z+2)) rfl rfl eA) (Eh a)) rfl)) ?_;refine Tz (ax (cb (a:=Q j (.tup r) i k (Z (.inl (.int z))) (Z (.inl (ø s c e O))) (Z (.inl (.str X))) U) (u:=.inl (.str X)) (aj (i:=.str X) (eD gc (ql eV (a:=.scr j) (b:=.int (z+12)) (c:=.str c) rfl rfl rfl eG) eX) rfl) rfl)) ?_;have ar:∀q:Ù,bF (ay (Y 7)) (bF (ay (Y 8)) (bF (ay (Y 4)) iA)) q (Q j (.tup r) i k (Z (.inl (.int z))) (Z (.inl (ø s c e O))) (Z (.inl (.str X))) U)=Z (.ok [.inl (ø s c e O),.inl (.str X),.inl (.int i)] q):=λq=>aW (aj (i:=ø s c e O) rfl (Eh a)) (aW (aj (i:=.str X) rfl rfl) (aW (aj (i:=.int i) rfl rfl) rfl));refine Tz (ax (gE (JB (wy ((bT (a:=[.inl (ø s c e O),.inl (.str X),.inl (.int i)]) (bt rfl) f.o (ar q) rfl).trans e1) ((bT (a:=[.inl (ø s c e O),.inl (.str X),.inl (.int i)]) (bt rfl) k1 (ar S1) rfl).trans e2) (Ry hx))))) ?_;refine Tz (ax (st5 B2 J2.g)) ?_;refine Tz (ax e3) ?_;refine Tz (ax e4) ?_;exact OH B4 J4 (by omega)
def OJ{t:List N}{w:List Int}(hl:w.length<=63)(P:t∈kz è):∀(r k:Nat)(S:Ù)(h:List ak)(c e:Int)(v u s p o:Option Uv),k+r<=7->Bo S (.tup t) h c (3*k)->JS e h->h.length<=k->c<=e->0<=e->e<=3*k->∃S' g c' f y5 n m j i,nP 5 [5,6,7,8,9] nq 0 1 r k S (Q w (.tup t) e v u s p o)=Z (.nx (Q w (.tup t) f y5 n m j i) S')/\Bo S' (.tup t) g c' 21/\JS f g/\g.length<=7/\0<=f/\f<=21|0,k,S,h,c,e,v,u,s,p,o,hk,⟨ds,us,a,b,d,k3,ha,hb,l⟩,z,H,hc,y,E=>⟨S,h,c,e,U,U,U,U,U,rfl,⟨ds,us,a,b,d,k3,ha,hb,by omega⟩,z,by omega,y,by omega⟩|r+1,k,S,h,c,e,v,u,s,p,o,hk,B,z,H,hc,y,E=>by obtain⟨S1,j1,c1,n',n,m,j,i,e1,B1,J1,l1,A,m0,m1⟩:=Rz hl P (by omega) B z H (by omega) hc y E;obtain⟨S2,j2,c2,n2,z5,z6,z7,z8,z9,e2,q⟩:=OJ hl P r (k+1) S1 j1 c1 n' (Z (.inl (.int (k:Nat)))) n m j i (by omega) B1 J1 l1 A m0 m1;refine⟨S2,j2,c2,n2,z5,z6,z7,z8,z9,Tz (JE ?_) e2,q⟩;rw[show(0:Int)+(k:Int)*1=((k:Nat):Int)by omega];exact e1
def OK(b:h.length<=20)(a:B ζ=Z (.ok (ej h))):Ý ug (ao (cf [] (dO B) U (ae el 1 (ao (Y 0))))) ζ=Z (.ok (FB h)):=(cj (ag (il Ñ ek (lj a) (by omega) λn _=>eD el (a:=Ñ n) rfl (JA n)) aq)).trans (xu (by omega))
def BF(a:JS p h):FB (Ü h h)=FB h:=Bx (wu a.k a.k) a.k λk=>by rw[Bz a.k a.k];simp
def BG(g:æ ο)(h:í ο 9999=D):ο.ends=U:=by cases e:ο.ends with|none=>rfl|some i=>have:=g.ends i e;unfold í at h;rw[e]at h;simp at h;omega
def uS(a:List ak)(k:Int):Ć (Ć a k) k=Ć a k:=by unfold Ć;rw[abn];congr 1;funext n;simp
def QE(i:List Int)(T:N)(c:Int)(h g f e d b a:Option Uv):ü:=[Z (.inl (.scr i)),Z (.inl T),Z (.inr 0),Z (.inr 3),Z (.inl (.int c)),h,g,f,e,d,b,a]
def JG{k m:List Sp}{j:List Int}{i g f e d:Option Uv}(a:DA q 0 (.tup r) h k m b o)(a':k.length<=21)(s:JS p h)(jl:h.length<=7):∃S',c8 qi (c8 qh (c8 qg (c8 qf (c8 qe (c8 qd (nO (Ix (lG à (fu 1 cL 1 (fg 2) (bF (ay (X 9999)) iA)) (X 0)) (Ix (ay (I à (Ý fA (ao (df 1 aO (Y 2)))) (Y 11))) (lG à (fu 1 dI 1 (fg 2) (bF (ay (iC eZ)) iA)) (Y 11)))))))))) q (QE j (.tup r) p i g f e d U U)=Z (.rt (.inl (.bl L)) S'):=by
 obtain⟨eM,JM,lM⟩:=BA s (by omega) s (by omega) (BB h);obtain⟨W,hW⟩:∃W,W=Ü h h:=⟨_,rfl⟩;obtain⟨S1,H,y,-⟩:=wx a (by omega) eM;have es:=uO JM (by omega) (k:=9999) (by omega) (by omega);obtain⟨S2,e2,u,-⟩:=qE y (by simp;omega) es;have v:=JM.filt (λn=>!í n 9999);have lV:(Ć (Ü h h) 9999).length<=7:=TX sW (by omega);have z:=uO v (by unfold Ć at lV;omega) (k:=9999) (by omega) (by omega);obtain⟨S3,e3,w,-⟩:=qE u (by simp;omega) z;have JU:=v.filt (λn=>!í n 9999);have B:((Ü h h).filter (λn=>!í n 9999)).filter (λn=>!í n 9999)=Ć (Ü h h) 9999:=uS _ _;obtain⟨eN,JN,lN⟩:=BA (ι:=[]) JU (by rw[B];omega) JS.nil (by simp) rfl;obtain⟨S4,e4,D4,-⟩:=wx w (by simp;omega) eN;refine⟨S4,?_⟩;refine Tz (ax (cb (a:=QE j (.tup r) p i g f e d (Z (.inl (ej h))) U) (u:=.inl (ej h)) (aj (lF a rfl) (iq h)) rfl)) ?_;have ln:∀q:Ù,Ý fA (ao (Y 10)) (Ą q (QE j (.tup r) p i g f e d (Z (.inl (ej h))) U))=Z (.ok (.int (h.length:Nat))):=λq=>(cj (ag (i:=ej h) rfl aq)).trans (tf h);rw[lM]at H;refine Tz (ax (gE (JB (qF ((bT (a:=[.inl (ej h)]) (bt rfl) a.o (aW (aj (i:=ej h) rfl (iq h)) rfl) rfl).trans H) (ln _) (OF _))))) ?_;have c5:=bK (g:=ď) (OK (by omega) (lF (Ζ:=QE j (.tup r) p i g f e d (Z (.inl (ej h))) U) y rfl)) (OK (h:=h) (B:=Y 10) (by omega) rfl);rw[BF s]at c5;refine Tz (ax (gE (eY (bq (c5.trans (Bh (Jk s.g) (by omega))))))) ?_;have a9:∀(q:Ù)(x:Option Uv),bF (ay (X 9999)) iA q (QE j (.tup r) p i g f e d (Z (.inl (ej h))) x)=Z (.ok [.inl (.int 9999)] q):=λq x=>aW (aj (i:=.int 9999) rfl rfl) rfl;refine Tz (ax (cP ((bT (a:=[.inl (.int 9999)]) (bt rfl) y.o (a9 _ _) rfl).trans e2))) ?_;have P:(cf [] (dO (df 1 aO (Y 2))) (Z (fB (I nI (I Ì (Y 0) (X 5)) (fC .non)))) (Y 0)) (Ą S2 (QE j (.tup r) p i g f e d (Z (.inl (ej h))) U))=Z (.ok (.lst (((Ć (Ü h h) 9999).filter λ_=>D).map Ñ))):=gW Ñ (λ_=>D) Ñ (lj (lF u rfl)) (by omega) λn E=>⟨bq ((bK (i:=eO n.ends) (η:=.non) rfl rfl).trans (by rw[BG (v.g n E) (by simpa using(TY.mp E).2)];rfl)),rfl⟩;rw[show(Ć (Ü h h) 9999).filter (λ_=>D)=[]by simp]at P;refine Tz (ax (gE (eY (bq ((bK P (η:=.lst []) rfl).trans rfl))))) ?_;have A:∀(x:Option Uv){q:Ù}{k m:List Sp}{o:Nat}{l:List ak},DA q 0 (.tup r) l k m b o->Ý fA (ao (df 1 aO (Y 2))) (Ą q (QE j (.tup r) p i g f e d (Z (.inl (ej h))) x))=Z (.ok (.int (l.length:Nat))):=λx{q k m o l}c=>(cj (ag (lF c rfl) aq)).trans (tf l);refine Tz (ax (cb (a:=QE j (.tup r) p i g f e d (Z (.inl (ej h))) (Z (.inl (.int ((Ć (Ü h h) 9999).length:Nat))))) (aj (A U u) rfl) rfl)) ?_;refine jg ?_;refine Tz (F1 (Á:=S3) (qF (η:=.int 0) ((bT (a:=[.inl (.int 9999)]) (bt rfl) u.o (a9 _ _) rfl).trans e3) rfl (JC ?_))) ?_;·show(((Ü h h).filter (λn=>!í n 9999)).length:Int)-((Ć ((Ü h h).filter λn=>!í n 9999) 9999).length:Int)=0;rw[show Ć ((Ü h h).filter λn=>!í n 9999) 9999=(Ü h h).filter (λn=>!í n 9999)from uS _ _];omega
 refine Tz (F1 (Á:=S3) (aj (i:=.bl L) ((bK (A _ w) (η:=.int ((Ć (Ü h h) 9999).length:Nat)) rfl).trans (JC ?_)) rfl)) ?_;·rw[show Ć ((Ü h h).filter λn=>!í n 9999) 9999=Ć (Ü h h) 9999 from uS _ _]
 refine qF (η:=.int ((Ć (Ü h h) 9999).length:Nat)) ((bT (a:=[.inl (ej [])]) (bt rfl) w.o (aW (aj (i:=ej []) rfl (iq [])) rfl) rfl).trans e4) rfl (JC ?_);rw[lN,B]
end J
open J
def Ej(e:List Int)(k:e.length<=63):xn [.scr e]=Z (.ok (.bl L)):=by
 obtain⟨t,j,eT⟩:=DN e k;have hT:=jd j;have i:=Tw j;obtain⟨d,d0,d1,A⟩:=bC e k 15 6 (by omega);suffices h:∃m,xm [] [Z (.inl (.scr e)),U,U,U,U,U,U,U,U,U,U,U]=Z (.rt (.inl (.bl L)) m)by obtain⟨m,h⟩:=h;unfold xn OZ;show(match xm [] [Z (.inl (.scr e)),U,U,U,U,U,U,U,U,U,U,U]with|some (.rt (.inl d) _)=>Z (Rs.ok d)|_=>U)=_;rw[h]
 obtain⟨f,g⟩:∃f:Ù,f=[]++[Ń (.tup t) [] (([]:Ù).length+1) (([]:Ù).length+2),.lst [],.lst []]:=⟨_,rfl⟩;have E:DA f 0 (.tup t) [] [] [] 1 2:=by rw[g];exact Oz (i:=.tup t) []
 have n:f.length=3:=by rw[g];rfl
 have H:Bo (f++[kc (.tup t) [] 0]) (.tup t) [] 0 (3*0):=⟨[],[],1,2,E.app _,by rw[<-n];exact jh f _ [],by omega,by omega,by simp⟩;obtain⟨m,P,c',p,v,u,s,r,q,y,⟨ds,us,a,b,c,k3,ha,hb,l⟩,B,w,m0,m1⟩:=OJ k j (2+d.toNat) 0 (f++[kc (.tup t) [] 0]) [] 0 0 U U U U U (by omega) H JS.nil (by simp) (Zn _) (Zn _) (by simp);obtain⟨S2,z⟩:=JG (i:=v) (g:=u) (f:=s) (e:=r) (d:=q) (j:=e) c l B w;refine⟨S2,?_⟩;unfold xm;refine Tz (ax (cb (a:=[Z (.inl (.scr e)),Z (.inl (.tup t)),U,U,U,U,U,U,U,U,U,U]) (u:=.inl (.tup t)) (aj (i:=.tup t) (dP eW (a:=.scr e) (b:=.int 0) rfl rfl eT) i) rfl)) ?_;refine Tz (ax (Á:=f) (cb (a:=[Z (.inl (.scr e)),Z (.inl (.tup t)),Z (.inr 0),U,U,U,U,U,U,U,U,U]) (u:=.inr 0) (by rw[g];exact Ju (q:=[]) hT i (aW (aj (i:=.tup t) rfl i) rfl)) rfl)) ?_;have o:=Eg (q:=f) (Ζ:=[Z (.inl (.scr e)),Z (.inl (.tup t)),Z (.inr 0),U,U,U,U,U,U,U,U,U]) (a:=bF (ay (Y 1)) (bF (ay (X 20)) (bF (ay (X 20)) iA))) hT i (aW (aj (i:=.tup t) rfl i) (aW (aj (i:=.int 20) rfl rfl) (aW (aj (i:=.int 20) rfl rfl) rfl)));rw[n]at o;refine Tz (ax (cb (a:=[Z (.inl (.scr e)),Z (.inl (.tup t)),Z (.inr 0),Z (.inr 3),U,U,U,U,U,U,U,U]) o rfl)) ?_;refine Tz (ax (cb (a:=Q e (.tup t) 0 U U U U U) (u:=.inl (.int 0)) (aj (i:=.int 0) rfl rfl) rfl)) ?_;refine Tz (ax (Ei (p:=0) (Ε:=1) (o:=2+d.toNat) (OI ?_ (by omega)) y)) z;rw[show((2+d.toNat:Nat):Int)=2+d by omega];exact ag ((bK (i:=.int 2) (η:=.int d) rfl (ql ah (a:=.scr e) (b:=.int 15) (c:=.int 6) rfl rfl rfl A)).trans rfl) aq
def OL(a:OM f)(h:ă v f e ν):ŷ v f e ν:=by
 rcases h with(h|h)|h;·rcases a e with z|⟨o,b,z⟩<;>(rw[z]at h;cases h)
 ·exact .inl h
 ·exact .inr h
def walk{l:aag}{B:(Str->Option R)->O_->Prop}{m:y_->O_->Prop}{d:DefRec}{K:ŵ->d_}(p:l.most=Z 63)(g:d.params.defaults=[])(y:∀(w:y_)(h:O_),m w h->(K w.params).In h)(F:∀(w:y_)(e:Str->Option R)(k:O)(h:O_),(K w.params).In h->h.Ns R_ e->e d.name=Z (.ref k)->∃j:UP,(∀(s:ge)(b:R),abH s j ⟨[b],[]⟩ [("_law_script",b)])/\∀c:O_,(K w.params).In c->c.Ns R_ e->î l.prog w (K w.params) e c Ē 13 k j ["_law_script"] (Ĵ (K w.params) xn 1)):acG n u B m l.row.toRowW d [] (λf o=>acp f o):=L2.walk_of (b:=63) (o:=13) (c:="_law_script") (CX:=λ_=>Ē) (sp:=λw=>Ĵ (K w.params) xn 1) p (by decide) g ⟨rfl,by decide,by decide,rfl⟩ y F (λ_ _ a i q A hS=>⟨[.scr i],⟨.ref a,[],rfl,⟨a,rfl,OL A hS⟩,rfl⟩,rfl,by rw[Ej i q];exactλv E _ r=>r⟩) λ_ _ _ _ _ z=>z
end G
variable{Κ:FD.N}{μ:Str}{Ξ:Option Str}{ο:G.J.ak}{h ι:List G.J.ak}{Á:FD.Ù}
open PySem.W
set_option maxRecDepth 100000 in
theorem PySem.Challenge.cw_notejar_k73_whole_desks_holds : PySem.Challenge.rw_notejar_k73_whole_desks.Holds := by
 refine G.hld fun b=>?_;refine PySem.W.holds_open (q:=G.VQ) (loose:=G.VL) (Xt:=fun s=>recOk [] s) (XP:=fun _ _=>True) (Yf:=Hook.obs (Z' G.KK G.KA G.KA_ok)) (Ya:=Hook.val (Z' G.KK G.KA G.KA_ok)) (YP:=Hook.says (Z' G.KK G.KA G.KA_ok)) (N:=11750) G.left (Hook.of (Z' G.KK G.KA G.KA_ok)) (Hook.keeps (Z' G.KK G.KA G.KA_ok)) (fun _ _=>trivial) (fun _ _ _ _ _=>trivial) (by rfl) (by rfl) (by rfl) (fun s e=>recFacts_of e) (by rfl) (by first | assumption | decide +kernel) (by decide +kernel) G.hbr ?hw ?hc
 (case hw=>w_witness2)
 refine G.walk (l:=r9_) rfl rfl (fun w h Y=>PySem.W.kIn_of Y) ?F
 case F =>
  intro w f g h d c a;exact G.all_mk d c a (G.af 123 "notejar.kinds" 326) (G.af 144 "notejar.names" 351) (G.af 149 "notejar.names" 351) (G.af 156 "notejar.names" 351) (G.af 161 "notejar.names" 351) (G.af 175 "notejar.names" 351) (G.af 182 "notejar.names" 351) (G.af 407 "notejar.notes" 636) (G.af 443 "notejar.jars" 772) (G.af 438 "notejar.jars" 772) (G.af 130 "notejar.kinds" 326) (G.af 250 "notejar.asks" 489) (G.af 257 "notejar.asks" 489) (G.af 292 "notejar.giving" 549) (G.af 222 "notejar.paths" 453) (G.af 304 "notejar.giving" 549) (G.af 137 "notejar.kinds" 326) (G.af 297 "notejar.giving" 549) (G.af 372 "notejar.notes" 636) (G.af 433 "notejar.jars" 772) (G.af 450 "notejar.jars" 772) (G.af 168 "notejar.names" 351) (G.af 474 "notejar.jars" 772) (G.af 457 "notejar.jars" 772) (G.af 271 "notejar.asks" 489) (G.af 278 "notejar.asks" 489) (G.af 264 "notejar.asks" 489) (G.af 325 "notejar.giving" 549) (G.af 332 "notejar.giving" 549) (G.af 337 "notejar.giving" 549) (G.af 486 "notejar.jars" 772) (G.af 393 "notejar.notes" 636) (G.af 379 "notejar.notes" 636) (G.af 194 "notejar.names" 351) (G.af 187 "notejar.names" 351) (G.af 201 "notejar.names" 351) (G.af 208 "notejar.names" 351) (G.af 344 "notejar.notes" 636) (G.af 351 "notejar.notes" 636) (G.af 311 "notejar.giving" 549) (G.af 318 "notejar.giving" 549) (G.af 229 "notejar.paths" 453) (G.af 236 "notejar.paths" 453) (G.af 386 "notejar.notes" 636) (G.af 215 "notejar.names" 351) (G.af 285 "notejar.asks" 489) (G.af 358 "notejar.notes" 636) (G.af 365 "notejar.notes" 636) (G.af 400 "notejar.notes" 636) (G.af 479 "notejar.jars" 772) (G.af 414 "notejar.notes" 636) (G.af 469 "notejar.jars" 772) (G.af 243 "notejar.paths" 453) (G.af 505 "notejar.jars" 772) (G.af 498 "notejar.jars" 772) (G.af 515 "notejar.jars" 772) (G.af 510 "notejar.jars" 772) (G.af 493 "notejar.jars" 772) (G.af 572 "notejar.comparing" 921) (G.af 565 "notejar.comparing" 921) (G.af 558 "notejar.comparing" 921) (G.af 551 "notejar.comparing" 921) (G.af 464 "notejar.jars" 772) (G.af 684 "notejar.room" 1090) (G.af 691 "notejar.room" 1090) (G.af 710 "notejar.room" 1090) (G.af 703 "notejar.room" 1090) (G.af 715 "notejar.room" 1090) (G.af 696 "notejar.room" 1090) (G.af 792) (G.af 799) (G.af 806) (G.af 818) (G.af 825) (G.af 839) (G.af 853) (G.af 811) (G.af 846) (G.af 832) (FD.ck_mk (b:=0) (e:=781) (by lk) (by lk) (by lk) (by lk) (by lk) (by lk)) (FD.ck_mk (b:=1) (e:=673) (by lk) (by lk) (by lk) (by lk) (by lk) (by lk)) (G.amf 586 "notejar.desks" 956 585) ⟨by lk,by lk,by lk,by lk⟩ (G.am (G.amf 600 "notejar.desks" 956 599)) (G.am (G.amf 628 "notejar.desks" 956 627)) (G.am (G.amf 621 "notejar.desks" 956 620)) (G.am (G.amf 607 "notejar.desks" 956 606)) (G.am (G.amf 635 "notejar.desks" 956 634)) (G.am (G.amf 593 "notejar.desks" 956 592)) (G.am (G.amf 614 "notejar.desks" 956 613)) (G.amf 729 "notejar.keepers" 1138 728) ⟨by lk,by lk,by lk,by lk⟩ (G.am (G.amf 778 "notejar.keepers" 1138 777)) (G.am (G.amf 750 "notejar.keepers" 1138 749)) (G.am (G.amf 757 "notejar.keepers" 1138 756)) (G.am (G.amf 736 "notejar.keepers" 1138 735)) (G.am (G.amf 771 "notejar.keepers" 1138 770)) (G.af 858) (by lk)
#print axioms PySem.Challenge.cw_notejar_k73_whole_desks_holds
