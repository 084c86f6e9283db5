import PyProof.Rows.All
import Wide.All
import OpenK.AllK
import Wide.FinOn
import Lean
import PyProof.EqAt
import PyProof.EqKinds
import PyProof.TupleCall
import PySem.SetTable
import PyProof.SetKind
import PyProof.TupleKey
import PyProof.DictKinds
import PyProof.Rows.SetFrom
import PyProof.ZipIter
import KE.KIntText
import PyProof.EnumIter
import PyProof.Rows.SortStr
import PyProof.Rows.SortWalk
import PyProof.Rows.MinMaxN
import PyProof.ConsumeWalk
import PyProof.CollectWalk
import PyProof.WalksMore
import PyProof.CollectStr
import PyProof.Rows.SortShellK
import PyProof.Rows.SortRunsK
import PyProof.SeqI3
import KE.KSortKey
import PyProof.Rows.CallKwBuiltin
import PyProof.SumAny
import KE.KDictSum
import KE.KLam
import PyProof.StrLawsTight
import PyProof.Rows.StrDigits
import PySem.Challenge.RW_notejar_k72_desks
open Option renaming some->Z,none->U,all_some->Xd,map_eq_some_iff->XJ,isSome_iff_exists->Yj,bind_eq_some_iff->Yt,map_some->YI,isSome_some->acK,getD_some->adl,getD_none->adm
open PySem.Str renaming ofString->b_,length->aaJ,empty->adf
open PySem.W renaming Frag->d_,nsIn->Wv,keepIn->WG,findIn->WR,kia_one->W4,emptyDict->W9,hideAll_none->Xj,fnOf->Xr,instObj->XD,mg_of->Yg,kitOne->Yo,of_hideAll->YA,plainGet->Y0,callWith_K->Zk,hasDictIn->ZA,codeIn->ZB,cellsFrom_some->ZC,plainGet_of->aao,hideAll_get->aap,lookIn->aaH,plainOver->aa0,methodObj->aa1,isFn->abB,absHeap->abC,takerIn->abR,OpenLaw->abS,methodCall_KW->ab0,excIn->acy,codeRec_of->acE,kitx_list->acU,kitx_dict->acV,handedIn->adb,makesIn->adB,hideAll->adC,through->adI,openEnds->adT,WalkO->ad4,kHook->ad7
open PySem renaming wpAny_bind->e_,Value->B,Shared->h_,Addr->O,starEach->j_,wpAny_pure->k_,Program->n_,Expr->t_,wpAny->w_,World->y_,Around->B_,model->D_,mainGlobals->E_,Heap->O_,backTo->V6,assignEach->V_,behindInMarks->Wc,foldedSetIterable->Wd,compareOp->Wh,wpAny_mono->Wr,attributeBase->Wz,Stmt->WA,swapsWith->WD,FuncData->WE,cellsFrom->WF,keywordEach->WJ,wpAny_callSpecial?_slot->WL,wpAny_newObj_type->WM,wpAny_holding->WN,wpAny_field->WV,wpAny_truthy_bool->WZ,bootBuiltins->W0,wpAny_call_entry->W6,wpAny_Call_Name_kw->Xg,Scope->Xk,binaryOp->Xn,backToKw->Xo,Keyword->Xu,wpAny_typeNameOfWhole_valiter->Xw,wpAny_seqItems->Xx,Builtin->XV,wpAny_typeNameOf_valiter->X_,wpAny_attempt->Yb,sysModules->Yc,call_meets->Yd,assign->Ye,mem_of_lookup->Yk,codeAny->Yl,wpAny_getItem_str_slice->Yn,NameKind->Yq,Model->Yr,wpAny_setField_rec->Yy,codeAny_mono->Yz,PassesOwn->YK,wpAny_isOneOf_valiter->YN,wpAny_setState_of->YR,wpAny_rule->YT,wpAny_forIn_list->YZ,wpAny_passesOwn->Zc,holding->Zd,codeAny_builtin->Ze,wpAny_pyIter_tuple->Zi,typeIs_str->Zj,sliceBounds->Zp,sizeLine_eq->Zq,wpAny_typeOf->Zx,wpAny_pyIter_list->Zy,newFunctionEnv->Zz,IsPair->ZE,wpAny_setFlight_noneW->ZW,wpAny_call->ZY,closureFor->ZZ,codeAny_call_builtin->Z9,wpAny_loadPart'->aaf,pyNext->ů,post_val_or_str->aah,letOwnedTupleGo->aai,wpAny_setField->aaB,wpAny_newFunctionEnv_cells->aaC,wpAny_fieldsOf->aaD,rawInt->ż,firstArgMember->aaF,builtinsNs->aaG,wpAny_loadPart_at->aaY,wpAny_dictEntries->aaZ,wpAny_onRaise->aa8,wpAny_comprehension_free->aa9,swapsWithSole->aa_,swappedStores->aba,setSearchFrom->abb,tupleKind->abi,noFill_tuple_add->abj,richCompare_meets_room->abz,getItem->abA,IsPart->abF,BindsTo->abH,wpAny_execs_nil->abO,wpAny_dictEpoch->abP,importedModules->abQ,wpAny_eqIsQuiet_tuple->abY,codeAny_call_function->abZ,wpAny_updateSeq_pair->ab6,lookup_relabel_local->ab7,Result->aca,Params->acb,IsZip->Ź,treeTable->acj,standAt->ack,getMethod->acl,callerA->acm,evalArgs_none->aco,wpAny_standAt->acv,strKind->acw,seq_tuple_add->acx,typeOf->acC,typeIs_int->acD,valueAt->acO,notedBy->acP,list_append->acQ,concat_meets->acR,bindArgs->acS,Within->acT,noteFrame->ada,Thread->ade,Fin->adj,wpAny_of_eq->adq,wpAny_letGo->ads,unsupported->adt,subscripted->adu,strIterType->adw,seqIndex_of->adx,CmpOp->adz,relabel->adH,intText?->adK,field->adL,call->adM,boot_len->adN,bindL->adO,bindC->adP,atKey->adQ,ZipApart->adR,Paired->adV,ItemsAre->adW,GenState->adX
open Bool renaming true->L,false->D,and_eq_true->m_,false_ne_true->q_,false_eq_true->x_,eq_iff_iff->Xf,not_true->YM,and_eq_true_iff->YY,not_false->ZT,not_not->abN,and_false->aci,or_false->acB,not_eq_true'->ac8,or_eq_true->adG
open PySem.Heap renaming get?_push_of_some->l_,get?_push_size->xy,lt_size->z_,size_push->WB,get?_update_ne->XG,SameBut->X4,get?_update_self->YO,get?_update_other->ZF,get?_none_of_le->Z_
open List renaming mem_append_right->on,mem_cons_self->pi,getElem?_set_ne->p_,mem_cons_of_mem->s_,range->uk,replicate->u_,mem_cons->v_,getElem?_set_self->A_,getElem?_eq_some_iff->F_,map_cons->G_,size_toArray->H_,getElem?_eq_getElem->I_,getElem?_map->K_,prefix_refl->L_,not_mem_nil->M_,getElem?_append_left->N_,mem_append_left->P_,getElem?_append_right->Q_,length_map->S_,mem_map->U_,mem_singleton->V5,mem_append->V8,length_cons->Wb,mem_of_getElem?->We,mem_range->Wf,length_set->Wl,lookup_cons->Wo,mem_filter->Wp,length_append->Ws,all_eq_true->Wu,getElem?_eq_none->WC,pairwise_cons->WH,nodup_cons->WT,map_append->WU,map_congr_left->WW,map_map->W7,replicate_succ->W8,length_replicate->W_,all_cons->Xc,append_nil->Xe,length_filter_le->Xp,any_cons->Xv,filter_cons_of_neg->XA,append_assoc->XB,find?_cons->XE,set_cons_zero->XR,set_cons_succ->XS,pairwise_iff_getElem->XZ,nodup_append->X6,flatten_cons->X7,length_eq_zero_iff->Yu,getElem?_replicate->Yv,filter_cons_of_pos->Yw,any_eq_true->Yx,lookup_append->YF,getD->YL,getD_eq_getElem?_getD->YX,getElem_map->Y4,drop_length->Y5,getElem?_range->Y8,filterMap_cons->Y9,range_succ->Zg,foldl_cons->Zh,zip_cons_cons->Zm,prefix_append->Zn,pairwise_singleton->Zt,lookup->Zu,getElem?_cons_succ->Zv,take_of_length_le->ZN,pairwise_map->ZO,map_nil->ZP,length_range->ZQ,forIn_nil->ZR,length_drop->Z1,getElem_mem->Z2,countP_cons->Z3,length->aae,of_mem_zip->aam,forIn_cons->aan,toList_toArray->aar,filter_sublist->aas,perm_append_singleton->aaQ,nodup_nil->aaR,mem_filterMap->aaS,getElem?_drop->aaT,find?_eq_none->aaU,filterMap_map->aaV,drop_zero->aaW,getElem?_take_of_lt->abh,zipIdx_cons->abx,length_take->aby,range_succ_eq_map->abL,pairwise_lt_range->abM,zipIdx_nil->abV,length_singleton->ab4,dropLast_eq_take->ab5,pairwise_append->acg,mem_iff_getElem->ach,reverse_append->act,getElem_of_mem->acu,foldl->acL,mapM_toArray->ac4,filter_congr->ac5,ext_getElem?->ac6,any_eq_false->ac7,getElem_zip->adn,getElem_inj->ado,ext_getElem->adp,nil_append->adE,find?_some->adF
open Decidable renaming decide->o_
open Nat renaming le_refl->rl,lt_of_lt_of_le->R_,ne_of_lt->V7,le_trans->Wa,zero_le->Wm,le_of_ble_eq_true->Ww,eq_of_beq_eq_true->Wx,lt_irrefl->Xb,le_add_right->Xq,le_of_lt_succ->X5,beq->Ym,zero_add->YE,sub_self->Y2,ne_of_gt->Y3,not_lt_zero->Zf,succ_pos->ZL,ne_of_beq_eq_false->ZM,ble->Z7,le_of_lt->aaz,le_of_eq->aaA,mod_lt->aaP,lt_trichotomy->aa3,lt_succ_of_lt->aa4,le_succ->aa5,lt_succ_self->abv,add_sub_cancel_left->abw,lt_trans->abK,min_eq_left->abU,add_left_cancel->acs,succ_add->ac2,mul_comm->ac3
open PySem.Value renaming type->r_,ref->C_,none->J_,bool->T_,builtin->W5,str->Yp,isStrOf->Y_,int->abk,notImplemented->ab8,isStrOf_shape->acp,float->ady
open PySem.SetTable renaming insertAt->V9,insertAt_perm->abE,grown->ab9,leap->acz,turns->acW,tooFull->adg,advance->adh,runEnd->adU,fill->ad6
open False renaming elim->Wg
open PySem.PyData renaming canLay0->Wi,eqv->WY,eqvAll->XN,canLayAll0->X3,depth->ZD,depthAll->abT
open Option.some renaming inj->Wj,injEq->ZK
open PySem.Txt renaming startswith->Wn,stripChars->Xy,partition->XM,split->X0,join->YU,endswith->aav,slice_le->abD,slice->adc,rfind->ad8
open PySem.Builtin.Str renaming occurrences->Wq,strKind->XF,glued->acZ
open PySem.Obj renaming mapSeq->Wy,mk->WS,data_mapFields->Zl,putSet->aaK,isFreed_of_fields->ab2,mapFields->acA,cls_mapFields->acX
open PyProof.Rows renaming slot_tuple_getitem->WI,callWith_type1->W1,seqObj->Xh,SortSt->XQ,envOfC->Yi,SortKind->Ys,boot_isinstance->YH,callWith_builtin1->Z0,Keyed->ŏ,get?_update_seq->aal,arrOf->Ŕ,listItems_at->aax,AllBare->aay,listUpdate_at->abg,pendingOf->abt,subscriptTail_builtinR->abJ,oneLt'_eq->acn,lt_str->acr,typeIs_bool'->ac0,failedOf->ac1,IntsAre->adJ,IsTup->adZ
open PySem.F renaming slot_dict_valueiterator_next->WK,plainAttrs_list->Xz,slot_tuple_iterator_next->XO,called_set->YB,slot_list_append->YQ,excBase_ValueError->YV,args_dict_valueiterator_next_1->YW,entry_dict_valueiterator_next->Y1,args_tuple_add_2->Za,entry_tuple_add->Zr,slot_str_split->Zw,slot_tuple_add->ZG,slot_dict_get->ZX,slot_dict_values_iter->aaa,slot_zip_next->aaj,args_tuple_iterator_next_1->aak,entry_tuple_iterator_next->aaw,args_str_split_2->aaL,entry_str_split->aa2,type_list_append->abd,slot_dict_values->abe,slot_str_partition->abm,slot_list_index->abn,slot_list_count->abo,plainAttrs_dict->abp,args_dict_get_3->abq,entry_dict_get->abG,args_list_append_2->ace,entry_list_append->acq,slot_list_pop->acH
open Ne renaming symm->WO
open PySem.Builtin.SmallTypes renaming nextOf->WP,ownedTupleIsFree->Xa,ownedTupleHandOut->Y7
open PySem.ClassData renaming mk->WQ
open Array renaming length_toList->WX,getElem?_eq_some_iff->Xm,getElem?_toList->XX,mem_toList_iff->X8,getD_eq_getD_getElem?->YS,forIn_toList->Zo,size_map->ZU,size_append->aa7,replicate->abX,getElem?_map->acM,append_assoc->acN,toList_push->ac9
open PySem.Data renaming fields->W3,dict->X1,cls->ZH
open Int renaming emod_lt_of_pos->Xi,emod_nonneg->X2,toNat_natCast->ZS
open PySem.NameKind renaming free->Xl,cell->Xs
open PySem.Heap.SameBut renaming update->XH
open PySem.Builtin.Slice renaming slicePlaces->XY,sliceAdjust->Y6,sliceApplied->aaO
open True renaming intro->X9
open PySem.Builtin.Tuple renaming tupleExact->Yh,tupleCompareSizes->ZV,tupleItemsOf->aaN
open PySem.Calls renaming spliced_cons->YC,callWith_builtin->YD,spliced_nil->ZI,evalArgs_plain->aab,Name_function_global->aaM
open PySem.Builtin.Dict_items renaming ownsTuple->YG,newIterator->adk,dictOf->ad3
open ForInStep renaming yield->YJ
open PySem.Builtin.List renaming listTooLong->Zb,listItems->ZJ
open PyProof.Rows.F renaming plain_set_update_loop->Zs,entry_set_update_loop->abu
open LawfulBEq renaming eq_of_beq->Z4
open Sum renaming inl->Z5,inr->aaX
open PySem.SetTable.layClean renaming free->Z6
open Function renaming comp->Z8
open PySem.Around renaming under_plainId->aac,under->abI,frames_deeper->acf
open PySem.W.Fast renaming tw11892475500146522536->aat,tw10156331382660048174->aau,tw6613529449190102663->aaI
open List.Pairwise renaming nil->aa6
open PySem.Paired renaming length->abc
open PySem.AutoSeq1 renaming sub_tuple_tuple->abf
open PySem.SetTable.probe renaming go->abl
open PySem.Builtin.ObjectAttr renaming find->abr,dataDescriptor?->acJ,bindTo->ad2
open List.cons renaming injEq->abW
open PySem.StrLaws renaming glued_eq_join->ab1
open PySem.Builtin.Dict renaming showsAll->ab3
open PySem.SeqAt.EqAt renaming bool_bool->ab_,str_int->acF,int_str->acG
open PySem.Code renaming quiet_builtin->acI,isFrame->acY
open Std.Legacy renaming Range->ac_
open PySem.IsL renaming update->adi
open StateT renaming run_pure->adA
open PySem.Builtin.Frozenset renaming updateFrom->adD,newClass->adY
open PySem.Walks renaming list->adS
open List.Perm renaming swap->ad0
open ForIn renaming forIn->ad1
open PySem.Shared renaming TypeIs->ad5
open PyProof.Rows.IsTup renaming new->ad9
open PySem.SetTable.below renaming go->ad_
set_option compiler.extract_closed false
set_option bootstrap.genMatcherCode false
set_option maxHeartbeats 4000000
set_option Elab.async false
open PySem.Challenge renaming pw_notejar_k72_desks->p9_,rw_notejar_k72_desks->r9_
local macro_rules|`(def $i $s:optDeclSig $v)=>`(noncomputable def $i $s:optDeclSig $v)
local macro_rules|`(tactic|lk)=>`(tactic|kernel_rfl)
local macro_rules|`(tactic|room)=>`(tactic|with_unfolding_all assumption)
set_option hygiene false
local macro_rules|`($x%0)=>`(List $x)|`($x%1)=>`(Option $x)|`($x%3)=>`(Z (.ok $x))|`($x%7)=>`(Z (.inl $x))|`($x%9)=>`(Z (.exc $x))|`($x%6)=>`(Z (.inr $x))|`($x%4)=>`(HA P w K mg base $x)|`($x%5)=>`(Ć P w K mg base $x)|`($x%8)=>`(j_ ($x ::u) a.env=(D,eval $x a.env)::j_ u a.env)
local macro_rules|`(∅)=>`(by simp)
local macro_rules|`(#v[])=>`(by decide)
local macro_rules|`(tactic|dsimp!)=>`(tactic|dsimp only)
local macro_rules|`(tactic|simp![$a,*]$[$l:location]?)=>`(tactic|simp only[$a,*]$[$l:location]?)
local macro_rules|`(())=>`(by omega)
set_option hygiene true
namespace TR
open PySem PySem.W
def lr(d:String->XV%1)(p:n_)(w:y_)(a:Nat)(b:B%1):Nat->SharedT->ade->SharedT%1|0,_,_=>U|n+1,s,t=>match adI t with|true=>Z s|false=>match stepOk a b t with|false=>U|true=>match stepT (denote d) p w s t with|some (f,e)=>lr d p w a b n f e|none=>U
def mF:Obj%0->BT->Nat->(BT×Nat)%1|[],t,n=>Z (t,n)|o::os,t,n=>match((t.ins n o).get n).isSome with|true=>mF os (t.ins n o) (n+1)|false=>U
def CN(d:String->XV%1)(p:n_)(w:y_)(N:Nat):h_%1:=(fencedOpening d p w N).bind λa=>match a.heap.isNs E_&&a.gens.size==0 with
 |true=>(mF a.heap.objs.toList .nil 0).bind λx=>(lr d p w a.heap.objs.size (a.heap.nsMap E_ "__annotations__") N ⟨x.1,x.2,a.heap.life,a.gens,a.drawn,a.toks,a.os⟩ (topStub p)).bind λb=>match staticsOk (abQ p.main.body) a.heap b.abs.heap&&namesBound p b.abs.heap&&gensDone b.abs&&laidKept a.heap b.abs.heap with|true=>Z b.abs|false=>U
 |false=>U
def lS{e:String->XV%1}{p:n_}{w:y_}{a:Nat}{b:B%1}:∀(n:Nat)(s:SharedT)(t:ade)(d:SharedT),lr e p w a b n s t=Z d->topRun e p w a b n s.abs t=Z d.abs|0,_,_,_,h=>by cases h|n+1,s,t,d,h=>by unfold lr at h;unfold topRun;cases g:adI t with|true=>rw[g]at h;cases h;rfl|false=>rw[g]at h;cases i:stepOk a b t with|false=>rw[i]at h;cases h|true=>rw[i]at h;cases f:stepT (denote e) p w s t with|none=>rw[f]at h;cases h|some x=>obtain⟨k,j⟩:=x;rw[f]at h;dsimp only at h⊢;rw[stepT_spec f];exact lS n k j d h
def mG{a:Life}:∀(os:Obj%0)(t:BT)(n:Nat)(b:BT)(d:Nat),mF os t n=Z (b,d)->(abC b d a).objs=(abC t n a).objs++os.toArray|[],t,n,b,d,h=>by cases h;simp|o::os,t,n,b,d,h=>by unfold mF at h;cases e:((t.ins n o).get n).isSome with|false=>rw[e]at h;cases h|true=>rw[e]at h;rw[mG os _ _ _ _ h,absHeap_ins e];show(abC t n a).objs.push o++os.toArray=_;simp
variable{s:n_}{r:y_}{b:Nat}{f:h_}
def w5{p:String->XV%1}(h:CN p s r b=Z f):adT p s r b=Z f:=by unfold CN at h;unfold adT;obtain⟨i,A,j⟩:=Yt.mp h;rw[A];show topFrom p s r b i=Z f;unfold topFrom;cases q:(i.heap.isNs E_&&i.gens.size==0)with|false=>rw[q]at j;cases j|true=>
 rw[q]at j;dsimp only at j⊢;obtain⟨⟨n,o⟩,z,y⟩:=Yt.mp j;obtain⟨Q,w,v⟩:=Yt.mp y;have e:=mG (a:=i.heap.life) _ _ _ _ _ z;have I:abC n o i.heap.life=i.heap:=by
  have H:(abC n o i.heap.life).objs=i.heap.objs:=by rw[e];show(abC BT.nil 0 i.heap.life).objs++i.heap.objs.toList.toArray=_;simp[abC,BT.list]
  obtain⟨⟨u,m⟩,g,d,k,os⟩:=i;show Heap.mk _ _=Heap.mk _ _;exact congrArg (Heap.mk · m) H
 have a:=lS _ _ _ _ w;have E:(SharedT.abs ⟨n,o,i.heap.life,i.gens,i.drawn,i.toks,i.os⟩)=i:=by show Shared.mk (abC n o i.heap.life) _ _ _ _=i;rw[I]
 rw[E]at a;rw[a];exact v
variable{θ:Type}{Ó:θ}
def yw{d:String->XV%1}{f:h_->θ}(h:(CN d s r b).map f=Z Ó):(adT d s r b).map f=Z Ó:=by obtain⟨a,g,e⟩:=XJ.mp h;rw[w5 g];exact congrArg Z e
def Q6(d:String->XV%1)(p:n_)(w:y_)(a:Nat)(b:B%1)(n:Nat):SharedT->ade->SharedT%1:=@Nat.rec (λ_=>SharedT->ade->SharedT%1) (λ_ _=>U) (λ_ e s t=>@Bool.rec (λ_=>SharedT%1) (@Bool.rec (λ_=>SharedT%1) U (@Option.rec (SharedT×ade) (λ_=>SharedT%1) U (λx=>e x.1 x.2) (aau (aat d) p w s t)) (aaI a b t)) (Z s) (adI t)) n
def yx{d:String->XV%1}{p:n_}{w:y_}{a:Nat}{b:B%1}:∀(n:Nat)(s:SharedT)(t:ade),Q6 d p w a b n s t=lr d p w a b n s t|0,_,_=>rfl|n+1,s,t=>by show@Bool.rec (λ_=>SharedT%1) (@Bool.rec (λ_=>SharedT%1) U (@Option.rec (SharedT×ade) (λ_=>SharedT%1) U (λx=>Q6 d p w a b n x.1 x.2) (aau (aat d) p w s t)) (aaI a b t)) (Z s) (adI t)=_;unfold lr;rw[<-Fast.te10156331382660048174,<-Fast.te11892475500146522536,<-Fast.te6613529449190102663];cases adI t with|true=>rfl|false=>cases stepOk a b t with|false=>rfl|true=>cases stepT (denote d) p w s t with|none=>rfl|some x=>exact yx n x.1 x.2
def openQ(d:String->XV%1)(p:n_)(w:y_)(N:Nat):h_%1:=(fencedOpening d p w N).bind λa=>match a.heap.isNs E_&&a.gens.size==0 with
 |true=>(mF a.heap.objs.toList .nil 0).bind λx=>(Q6 d p w a.heap.objs.size (a.heap.nsMap E_ "__annotations__") N ⟨x.1,x.2,a.heap.life,a.gens,a.drawn,a.toks,a.os⟩ (topStub p)).bind λb=>match staticsOk (abQ p.main.body) a.heap b.abs.heap&&namesBound p b.abs.heap&&gensDone b.abs&&laidKept a.heap b.abs.heap with|true=>Z b.abs|false=>U
 |false=>U
def openQ_map{a:String->XV%1}{f:h_->θ}(h:(openQ a s r b).map f=Z Ó):(adT a s r b).map f=Z Ó:=by refine yw ?_;unfold openQ at h;unfold CN;simp![yx]at h;exact h
end TR
variable{s:n_}{r:y_}{b:Nat}{f:h_}{θ:Type}{Ó:θ}
namespace G
open PySem PySem.W PyProof.Rows
def hT(i:Nat):WA:=p9_.main.body.getD i (.Pass ⟨0,0,0,0⟩)
def hA(s:WA):Arguments:=match s with|.FunctionDef _ a _ _ _ _ _ _ _ _=>a|_=>{posonlyargs:=[],args:=[],vararg:=U,kwonlyargs:=[],kw_defaults:=[],kwarg:=U,defaults:=[]}
def hB(s:WA):WA%0:=match s with|.FunctionDef _ _ b _ _ _ _ _ _ _=>b|_=>[]
def hS(s:WA):Xk:=match s with|.FunctionDef _ _ _ _ _ _ a _ _ _=>a|_=>{kind:=.function,names:=[],isGenerator:=D,isCoroutine:=D}
noncomputable abbrev kS(s:String)(t:Nat):B:=.str (b_ s) t
noncomputable abbrev kR(a:Nat):B:=.ref a
noncomputable abbrev kI(i:Int)(t:Nat):B:=.int i t
noncomputable abbrev kE(P:acb)(s:String)(t:Nat)(v:B):DictEntry:=⟨PySem.PyData.keyHash P (b_ s),.str (b_ s) t,v⟩
def kF(x:String)(i:Nat)(m:String)(t c:Nat):Obj:=WS (r_ "function") U (Data.func (fnOf (b_ x) (b_ x) (hA (hT i)) (hB (hT i)) (hS (hT i)) .none J_ J_ (kS m t) U (kR c) J_)) #[]
def ŕ(x:String)(i c:Nat):=kF x i "law_notejar_k72_desks" 1053 c
def hC(s:WA)(j:Nat):WA:=match s with|.ClassDef _ _ _ b _ _ _ _ _ _ _=>b.getD j (.Pass ⟨0,0,0,0⟩)|_=>.Pass ⟨0,0,0,0⟩
def kM(x q:String)(i j:Nat)(m:String)(t c:Nat):Obj:=WS (r_ "function") U (Data.func (fnOf (b_ x) (b_ q) (hA (hC (hT i) j)) (hB (hC (hT i) j)) (hS (hC (hT i) j)) .none J_ J_ (kS m t) U (kR c) J_)) #[]
def kC(x:String)(a b c:Nat)(d e f:Int)(g:Nat)(h:Int)(i j:Nat)(k l:Int)(m:Nat):Obj:=WS (r_ "code") U (W3 #[kS x a,kS x b,kS "/claim/cut.py" c,kI d 0,kI e 0,kI 0 0,kI 0 0,kI f 0,kR g,T_ L,kI h 0,kR i,J_,J_,J_,kR j,kI k 0,kI l 0,kS "/claim/cut.py" m]) #[]
def kD(x:String)(a b c:Nat)(d e f:Int)(g:Nat)(h:Int)(i u v j:Nat)(k l:Int)(m:Nat):Obj:=WS (r_ "code") U (W3 #[kS x a,kS x b,kS "/claim/cut.py" c,kI d 0,kI e 0,kI 0 0,kI 0 0,kI f 0,kR g,T_ L,kI h 0,kR i,J_,kR u,kR v,kR j,kI k 0,kI l 0,kS "/claim/cut.py" m]) #[]
def KKa(P:acb):Frag:=[(2,WS J_ U (X1 #[]) #[]),(3,WS (r_ "dict") U (X1 #[kE P "__name__" 165 (kS "law_notejar_k72_desks" 1053),kE P "__doc__" 166 J_,kE P "__package__" 167 J_,kE P "__loader__" 168 (W5 "__main__.__loader__#opaque"),kE P "__spec__" 169 J_,kE P "__annotations__" 170 (kR 6),kE P "__builtins__" 171 (kR 4),kE P "__file__" 173 (kS "/claim/cut.py" 172),kE P "__cached__" 174 J_,kE P "_wall" 193 (kR 21),kE P "JarError" 213 (kR 31),kE P "NoName" 229 (kR 44),kE P "NoTable" 245 (kR 56),kE P "NoPath" 261 (kR 68),kE P "NoAsk" 277 (kR 80),kE P "NoNote" 293 (kR 92),kE P "NoJar" 309 (kR 104),kE P "NoNumber" 325 (kR 116),kE P "NoStep" 341 (kR 128),kE P "is_text_of" 349 (kR 135),kE P "is_whole_number" 358 (kR 142),kE P "is_tuple_of" 366 (kR 149),kE P "FIGURES" 370 (kS "0123456789" 369),kE P "LABEL_SIGNS" 372 (kS "abcdefghijklmnopqrstuvwxyz0123456789-" 371),kE P "LONGEST_LABEL" 374 (kI 8 373),kE P "MOST_LABELS" 376 (kI 5 375),kE P "MOST_RULES" 378 (kI 8 377),kE P "is_label" 385 (kR 156),kE P "is_name" 391 (kR 161),kE P "is_rule" 398 (kR 168),kE P "is_table" 404 (kR 173),kE P "need_name" 411 (kR 180),kE P "need_table" 418 (kR 187),kE P "lies_within" 426 (kR 194),kE P "ends_longest_first" 432 (kR 199),kE P "behind_first_dot" 439 (kR 206),kE P "is_told_open" 447 (kR 213),kE P "find_open_end" 457 (kR 220),kE P "find_own_end" 468 (kR 227),kE P "PATH_SIGNS" 472 (kS "abcdefghijklmnopqrstuvwxyz0123456789-_./" 471),kE P "LONGEST_PATH" 474 (kI 20 473),kE P "is_path" 481 (kR 234),kE P "need_path" 488 (kR 241),kE P "folder" 496 (kR 248),kE P "lies_under" 504 (kR 255),kE P "LAST_MOMENT" 508 (kI 9999 507),kE P "ASK_SAFE" 510 (kI 0 509),kE P "ASK_HOUSE" 512 (kI 1 511),kE P "ASK_PATH" 514 (kI 2 513),kE P "ASK_ORIGIN" 516 (kI 3 515),kE P "ASK_PARTS" 518 (kI 4 517),kE P "is_moment" 525 (kR 262),kE P "is_moment_or_none" 532 (kR 269),kE P "need_moment" 539 (kR 276),kE P "is_ask" 546 (kR 283),kE P "need_ask" 553 (kR 290),kE P "comes_from_near" 564 (kR 297),kE P "NOTE_NAME_SIGNS" 568 (kS "abcdefghijklmnopqrstuvwxyzABCDEFGHIJKLMNOPQRSTUVWXYZ0123456789-_" 567),kE P "LONGEST_NOTE_NAME" 570 (kI 10 569),kE P "NO_WORTH_SIGNS" 572 (kS ";,=" 571),kE P "LONGEST_WORTH" 574 (kI 12 573),kE P "MOST_FIGURES" 576 (kI 4 575),kE P "GIVEN_NAME" 578 (kI 0 577),kE P "GIVEN_WORTH" 580 (kI 1 579),kE P "GIVEN_HOUSE" 582 (kI 2 581),kE P "GIVEN_PATH" 584 (kI 3 583),kE P "GIVEN_UNTIL" 586 (kI 4 585),kE P "GIVEN_LASTS" 588 (kI 5 587),kE P "GIVEN_SAFE" 590 (kI 6 589),kE P "GIVEN_REACH" 592 (kI 7 591),kE P "GIVEN_PARTS" 594 (kI 8 593),kE P "is_note_name" 601 (kR 304),kE P "is_worth" 607 (kR 309),kE P "is_reach" 614 (kR 316),kE P "is_given" 621 (kR 323),kE P "need_given" 628 (kR 330),kE P "is_written_moment" 635 (kR 337),kE P "what_is_told" 645 (kR 344),kE P "read_given" 651 (kR 349),kE P "NOTE_NAME" 655 (kI 0 654),kE P "NOTE_WORTH" 657 (kI 1 656),kE P "NOTE_HOUSE" 659 (kI 2 658),kE P "NOTE_EXACT" 661 (kI 3 660),kE P "NOTE_PATH" 663 (kI 4 662),kE P "NOTE_ENDS" 665 (kI 5 664),kE P "NOTE_SAFE" 667 (kI 6 666),kE P "NOTE_REACH" 669 (kI 7 668),kE P "NOTE_MADE" 671 (kI 8 670),kE P "NOTE_USED" 673 (kI 9 672),kE P "NOTE_PARTS" 675 (kI 10 674),kE P "is_open" 683 (kR 356),kE P "is_exact" 693 (kR 363),kE P "keeps_its_mark" 703 (kR 370),kE P "why_refused" 713 (kR 377),kE P "is_note" 720 (kR 384),kE P "house_for" 728 (kR 391),kE P "path_for" 736 (kR 398),kE P "end_for" 744 (kR 405),kE P "made" 754 (kR 412),kE P "key" 761 (kR 419),kE P "has_ended" 769 (kR 426),kE P "MOST_NOTES" 773 (kI 20 772),kE P "is_jar" 779 (kR 431),kE P "is_by_made" 785 (kR 436),kE P "has_no_key_twice" 791 (kR 441),kE P "need_jar" 798 (kR 448),kE P "need_no_more_than_a_jar_has" 805 (kR 455),kE P "swept" 813 (kR 462),kE P "without_ended" 819 (kR 467),kE P "forgotten" 825 (kR 472),kE P "put" 831 (kR 477),kE P "read_what_is_given" 843 (kR 484),kE P "verdict" 855 (kR 491),kE P "word_of" 861 (kR 496),kE P "shadows" 870 (kR 503),kE P "taken" 876 (kR 508),kE P "take_in" 882 (kR 513),kE P "merged" 895 (kR 520),kE P "place_of" 902 (kR 527),kE P "later_of" 910 (kR 534),kE P "when_last" 917 (kR 541),kE P "Desk" 1052 (kR 642),kE P "_law_cell" 1062 (kR 653),kE P "_law_drawn" 1072 (kR 660),kE P "_law_name" 1081 (kR 667),kE P "_law_table" 1087 (kR 672),kE P "_law_path" 1096 (kR 679),kE P "_law_ask" 1105 (kR 686),kE P "_law_jar" 1111 (kR 691),kE P "_law_given" 1128 (kR 698),kE P "_law_text" 1146 (kR 705),kE P "_law_swept" 1152 (kR 710),kE P "_law_refused" 1160 (kR 717),kE P "_law_told" 1172 (kR 724),kE P "_law_new" 1180 (kR 731),kE P "_law_next" 1194 (kR 738),kE P "law" 1200 (kR 743)] 137) #[]),(20,kD "_wall" 187 188 189 1 1 3 15 181 16 17 18 19 191 1 192),(30,WS (r_ "dict") U (X1 #[kE P "__module__" 203 (kS "notejar.errors" 194),kE P "__firstlineno__" 207 (kI 5 206),kE P "__static_attributes__" 208 (kR 29),kE P "__weakref__" 210 (kR 32),kE P "__doc__" 211 J_] 3) #[]),(31,WS (r_ "type") U (ZH (WQ (b_ "JarError") [r_ "ValueError"] [kR 31,r_ "ValueError",r_ "Exception",r_ "BaseException",r_ "object"] 30 (b_ "JarError") L [] [kR 44,kR 56,kR 68,kR 80,kR 92,kR 104,kR 116,kR 128] D U D)) #[Z (kR 22),U,Z (kS "JarError" 196),Z (kS "JarError" 204),Z (W5 "ValueError.__new__"),Z (T_ L)]),(43,WS (r_ "dict") U (X1 #[kE P "__module__" 221 (kS "notejar.errors" 194),kE P "__firstlineno__" 225 (kI 7 224),kE P "__static_attributes__" 226 (kR 42),kE P "__doc__" 227 J_] 2) #[]),(44,WS (r_ "type") U (ZH (WQ (b_ "NoName") [kR 31] [kR 44,kR 31,r_ "ValueError",r_ "Exception",r_ "BaseException",r_ "object"] 43 (b_ "NoName") L [] [] D U D)) #[Z (kR 35),U,Z (kS "NoName" 214),Z (kS "NoName" 222),Z (W5 "ValueError.__new__"),Z (T_ L)]),(55,WS (r_ "dict") U (X1 #[kE P "__module__" 237 (kS "notejar.errors" 194),kE P "__firstlineno__" 241 (kI 9 240),kE P "__static_attributes__" 242 (kR 54),kE P "__doc__" 243 J_] 2) #[]),(56,WS (r_ "type") U (ZH (WQ (b_ "NoTable") [kR 31] [kR 56,kR 31,r_ "ValueError",r_ "Exception",r_ "BaseException",r_ "object"] 55 (b_ "NoTable") L [] [] D U D)) #[Z (kR 47),U,Z (kS "NoTable" 230),Z (kS "NoTable" 238),Z (W5 "ValueError.__new__"),Z (T_ L)]),(67,WS (r_ "dict") U (X1 #[kE P "__module__" 253 (kS "notejar.errors" 194),kE P "__firstlineno__" 257 (kI 11 256),kE P "__static_attributes__" 258 (kR 66),kE P "__doc__" 259 J_] 2) #[]),(68,WS (r_ "type") U (ZH (WQ (b_ "NoPath") [kR 31] [kR 68,kR 31,r_ "ValueError",r_ "Exception",r_ "BaseException",r_ "object"] 67 (b_ "NoPath") L [] [] D U D)) #[Z (kR 59),U,Z (kS "NoPath" 246),Z (kS "NoPath" 254),Z (W5 "ValueError.__new__"),Z (T_ L)]),(79,WS (r_ "dict") U (X1 #[kE P "__module__" 269 (kS "notejar.errors" 194),kE P "__firstlineno__" 273 (kI 13 272),kE P "__static_attributes__" 274 (kR 78),kE P "__doc__" 275 J_] 2) #[]),(80,WS (r_ "type") U (ZH (WQ (b_ "NoAsk") [kR 31] [kR 80,kR 31,r_ "ValueError",r_ "Exception",r_ "BaseException",r_ "object"] 79 (b_ "NoAsk") L [] [] D U D)) #[Z (kR 71),U,Z (kS "NoAsk" 262),Z (kS "NoAsk" 270),Z (W5 "ValueError.__new__"),Z (T_ L)]),(91,WS (r_ "dict") U (X1 #[kE P "__module__" 285 (kS "notejar.errors" 194),kE P "__firstlineno__" 289 (kI 15 288),kE P "__static_attributes__" 290 (kR 90),kE P "__doc__" 291 J_] 2) #[]),(92,WS (r_ "type") U (ZH (WQ (b_ "NoNote") [kR 31] [kR 92,kR 31,r_ "ValueError",r_ "Exception",r_ "BaseException",r_ "object"] 91 (b_ "NoNote") L [] [] D U D)) #[Z (kR 83),U,Z (kS "NoNote" 278),Z (kS "NoNote" 286),Z (W5 "ValueError.__new__"),Z (T_ L)]),(103,WS (r_ "dict") U (X1 #[kE P "__module__" 301 (kS "notejar.errors" 194),kE P "__firstlineno__" 305 (kI 17 304),kE P "__static_attributes__" 306 (kR 102),kE P "__doc__" 307 J_] 2) #[]),(104,WS (r_ "type") U (ZH (WQ (b_ "NoJar") [kR 31] [kR 104,kR 31,r_ "ValueError",r_ "Exception",r_ "BaseException",r_ "object"] 103 (b_ "NoJar") L [] [] D U D)) #[Z (kR 95),U,Z (kS "NoJar" 294),Z (kS "NoJar" 302),Z (W5 "ValueError.__new__"),Z (T_ L)]),(115,WS (r_ "dict") U (X1 #[kE P "__module__" 317 (kS "notejar.errors" 194),kE P "__firstlineno__" 321 (kI 19 320),kE P "__static_attributes__" 322 (kR 114),kE P "__doc__" 323 J_] 2) #[]),(116,WS (r_ "type") U (ZH (WQ (b_ "NoNumber") [kR 31] [kR 116,kR 31,r_ "ValueError",r_ "Exception",r_ "BaseException",r_ "object"] 115 (b_ "NoNumber") L [] [] D U D)) #[Z (kR 107),U,Z (kS "NoNumber" 310),Z (kS "NoNumber" 318),Z (W5 "ValueError.__new__"),Z (T_ L)]),(127,WS (r_ "dict") U (X1 #[kE P "__module__" 333 (kS "notejar.errors" 194),kE P "__firstlineno__" 337 (kI 21 336),kE P "__static_attributes__" 338 (kR 126),kE P "__doc__" 339 J_] 2) #[]),(128,WS (r_ "type") U (ZH (WQ (b_ "NoStep") [kR 31] [kR 128,kR 31,r_ "ValueError",r_ "Exception",r_ "BaseException",r_ "object"] 127 (b_ "NoStep") L [] [] D U D)) #[Z (kR 119),U,Z (kS "NoStep" 326),Z (kS "NoStep" 334),Z (W5 "ValueError.__new__"),Z (T_ L)]),(134,kC "is_text_of" 344 345 346 24 4 3 131 181 132 133 347 24 348),(135,kF "is_text_of" 12 "notejar.kinds" 342 134),(141,kD "is_whole_number" 350 351 352 30 3 3 136 181 137 138 139 140 356 30 357),(142,kF "is_whole_number" 13 "notejar.kinds" 342 141),(148,kD "is_tuple_of" 359 360 361 34 2 3 143 181 144 145 146 147 364 34 365),(149,kF "is_tuple_of" 14 "notejar.kinds" 342 148),(155,kD "is_label" 379 380 381 42 1 3 150 181 151 152 153 154 383 42 384),(156,kF "is_label" 21 "notejar.names" 367 155),(160,kC "is_name" 386 387 388 46 1 3 157 181 158 159 389 46 390),(161,kF "is_name" 22 "notejar.names" 367 160),(167,kD "is_rule" 392 393 394 53 1 3 162 181 163 164 165 166 396 53 397),(168,kF "is_rule" 23 "notejar.names" 367 167),(172,kC "is_table" 399 400 401 61 1 3 169 181 170 171 402 61 403),(173,kF "is_table" 24 "notejar.names" 367 172),(179,kD "need_name" 405 406 407 67 1 3 174 181 175 176 177 178 409 67 410),(180,kF "need_name" 25 "notejar.names" 367 179),(186,kD "need_table" 412 413 414 70 1 3 181 181 182 183 184 185 416 70 417),(187,kF "need_table" 26 "notejar.names" 367 186),(193,kD "lies_within" 419 420 421 73 2 3 188 181 189 190 191 192 424 73 425),(194,kF "lies_within" 27 "notejar.names" 367 193),(198,kC "ends_longest_first" 427 428 429 75 1 3 195 181 196 197 430 75 431),(199,kF "ends_longest_first" 28 "notejar.names" 367 198),(205,kD "behind_first_dot" 433 434 435 78 1 3 200 181 201 202 203 204 437 78 438),(206,kF "behind_first_dot" 29 "notejar.names" 367 205),(212,kD "is_told_open" 440 441 442 80 2 3 207 181 208 209 210 211 445 80 446),(213,kF "is_told_open" 30 "notejar.names" 367 212),(219,kD "find_open_end" 448 449 450 84 2 3 214 181 215 216 217 218 455 84 456),(220,kF "find_open_end" 31 "notejar.names" 367 219),(226,kD "find_own_end" 458 459 460 93 2 3 221 181 222 223 224 225 466 93 467),(227,kF "find_own_end" 32 "notejar.names" 367 226),(233,kD "is_path" 475 476 477 103 1 3 228 181 229 230 231 232 479 103 480),(234,kF "is_path" 36 "notejar.paths" 469 233),(240,kD "need_path" 482 483 484 105 1 3 235 181 236 237 238 239 486 105 487),(241,kF "need_path" 37 "notejar.paths" 469 240),(247,kD "folder" 489 490 491 108 1 3 242 181 243 244 245 246 494 108 495),(248,kF "folder" 38 "notejar.paths" 469 247),(254,kD "lies_under" 497 498 499 114 2 3 249 181 250 251 252 253 502 114 503),(255,kF "lies_under" 39 "notejar.paths" 469 254),(261,kD "is_moment" 519 520 521 127 1 3 256 181 257 258 259 260 523 127 524),(262,kF "is_moment" 47 "notejar.asks" 505 261),(268,kD "is_moment_or_none" 526 527 528 129 1 3 263 181 264 265 266 267 530 129 531),(269,kF "is_moment_or_none" 48 "notejar.asks" 505 268),(275,kD "need_moment" 533 534 535 131 1 3 270 181 271 272 273 274 537 131 538),(276,kF "need_moment" 49 "notejar.asks" 505 275),(282,kD "is_ask" 540 541 542 134 1 3 277 181 278 279 280 281 544 134 545),(283,kF "is_ask" 50 "notejar.asks" 505 282),(289,kD "need_ask" 547 548 549 138 1 3 284 181 285 286 287 288 551 138 552),(290,kF "need_ask" 51 "notejar.asks" 505 289),(296,kD "comes_from_near" 554 555 556 141 2 3 291 181 292 293 294 295 562 141 563),(297,kF "comes_from_near" 52 "notejar.asks" 505 296),(303,kD "is_note_name" 595 596 597 163 1 3 298 181 299 300 301 302 599 163 600),(304,kF "is_note_name" 68 "notejar.giving" 565 303),(308,kC "is_worth" 602 603 604 165 1 3 305 181 306 307 605 165 606),(309,kF "is_worth" 69 "notejar.giving" 565 308),(315,kD "is_reach" 608 609 610 169 1 3 310 181 311 312 313 314 612 169 613),(316,kF "is_reach" 70 "notejar.giving" 565 315),(322,kD "is_given" 615 616 617 171 1 3 317 181 318 319 320 321 619 171 620),(323,kF "is_given" 71 "notejar.giving" 565 322),(329,kD "need_given" 622 623 624 175 1 3 324 181 325 326 327 328 626 175 627),(330,kF "need_given" 72 "notejar.giving" 565 329),(336,kD "is_written_moment" 629 630 631 178 1 3 331 181 332 333 334 335 633 178 634),(337,kF "is_written_moment" 73 "notejar.giving" 565 336),(343,kD "what_is_told" 636 637 638 180 1 3 338 181 339 340 341 342 643 180 644),(344,kF "what_is_told" 74 "notejar.giving" 565 343),(348,kC "read_given" 646 647 648 197 1 3 345 181 346 347 649 197 650),(349,kF "read_given" 75 "notejar.giving" 565 348),(355,kD "is_open" 676 677 678 222 2 3 350 181 351 352 353 354 681 222 682),(356,kF "is_open" 88 "notejar.notes" 652 355),(362,kD "is_exact" 684 685 686 224 3 3 357 181 358 359 360 361 691 224 692),(363,kF "is_exact" 89 "notejar.notes" 652 362),(369,kD "keeps_its_mark" 694 695 696 229 3 3 364 181 365 366 367 368 701 229 702),(370,kF "keeps_its_mark" 90 "notejar.notes" 652 369),(376,kD "why_refused" 704 705 706 236 3 3 371 181 372 373 374 375 711 236 712),(377,kF "why_refused" 91 "notejar.notes" 652 376),(383,kD "is_note" 714 715 716 252 1 3 378 181 379 380 381 382 718 252 719),(384,kF "is_note" 92 "notejar.notes" 652 383),(390,kD "house_for" 721 722 723 258 2 3 385 181 386 387 388 389 726 258 727),(391,kF "house_for" 93 "notejar.notes" 652 390),(397,kD "path_for" 729 730 731 262 2 3 392 181 393 394 395 396 734 262 735),(398,kF "path_for" 94 "notejar.notes" 652 397),(404,kD "end_for" 737 738 739 266 2 3 399 181 400 401 402 403 742 266 743)]
def KKb(P:acb):Frag:=[(405,kF "end_for" 95 "notejar.notes" 652 404),(411,kD "made" 745 746 747 270 4 3 406 181 407 408 409 410 752 270 753),(412,kF "made" 96 "notejar.notes" 652 411),(418,kD "key" 755 756 757 278 1 3 413 181 414 415 416 417 759 278 760),(419,kF "key" 97 "notejar.notes" 652 418),(425,kD "has_ended" 762 763 764 280 2 3 420 181 421 422 423 424 767 280 768),(426,kF "has_ended" 98 "notejar.notes" 652 425),(430,kC "is_jar" 774 775 776 284 1 3 427 181 428 429 777 284 778),(431,kF "is_jar" 101 "notejar.jars" 770 430),(435,kC "is_by_made" 780 781 782 290 1 3 432 181 433 434 783 290 784),(436,kF "is_by_made" 102 "notejar.jars" 770 435),(440,kC "has_no_key_twice" 786 787 788 292 1 3 437 181 438 439 789 292 790),(441,kF "has_no_key_twice" 103 "notejar.jars" 770 440),(447,kD "need_jar" 792 793 794 295 1 3 442 181 443 444 445 446 796 295 797),(448,kF "need_jar" 104 "notejar.jars" 770 447),(454,kD "need_no_more_than_a_jar_has" 799 800 801 298 1 3 449 181 450 451 452 453 803 298 804),(455,kF "need_no_more_than_a_jar_has" 105 "notejar.jars" 770 454),(461,kD "swept" 806 807 808 301 2 3 456 181 457 458 459 460 811 301 812),(462,kF "swept" 106 "notejar.jars" 770 461),(466,kC "without_ended" 814 815 816 305 2 3 463 181 464 465 817 305 818),(467,kF "without_ended" 107 "notejar.jars" 770 466),(471,kC "forgotten" 820 821 822 307 2 3 468 181 469 470 823 307 824),(472,kF "forgotten" 108 "notejar.jars" 770 471),(476,kC "put" 826 827 828 311 2 3 473 181 474 475 829 311 830),(477,kF "put" 109 "notejar.jars" 770 476),(483,kD "read_what_is_given" 832 833 834 317 5 3 478 181 479 480 481 482 841 317 842),(484,kF "read_what_is_given" 110 "notejar.jars" 770 483),(490,kD "verdict" 844 845 846 324 5 3 485 181 486 487 488 489 853 324 854),(491,kF "verdict" 111 "notejar.jars" 770 490),(495,kC "word_of" 856 857 858 327 5 3 492 181 493 494 859 327 860),(496,kF "word_of" 112 "notejar.jars" 770 495),(502,kD "shadows" 862 863 864 337 3 3 497 181 498 499 500 501 868 337 869),(503,kF "shadows" 113 "notejar.jars" 770 502),(507,kC "taken" 871 872 873 343 5 3 504 181 505 506 874 343 875),(508,kF "taken" 114 "notejar.jars" 770 507),(512,kC "take_in" 877 878 879 350 5 3 509 181 510 511 880 350 881),(513,kF "take_in" 115 "notejar.jars" 770 512),(519,kD "merged" 885 886 887 360 2 3 514 181 515 516 517 518 893 360 894),(520,kF "merged" 117 "notejar.comparing" 883 519),(526,kD "place_of" 896 897 898 371 1 3 521 181 522 523 524 525 900 371 901),(527,kF "place_of" 118 "notejar.comparing" 883 526),(533,kD "later_of" 903 904 905 373 2 3 528 181 529 530 531 532 908 373 909),(534,kF "later_of" 119 "notejar.comparing" 883 533),(540,kD "when_last" 911 912 913 377 1 3 535 181 536 537 538 539 915 377 916),(541,kF "when_last" 120 "notejar.comparing" 883 540),(554,WS (r_ "code") U (W3 #[kS "__init__" 932,kS "Desk.__init__" 933,kS "/claim/cut.py" 934,kI 382 0,kI 2 0,kI 0 0,kI 0 0,kI 3 0,kR 549,T_ L,kI 181 0,kR 550,J_,kR 551,kR 552,kR 553,kI 937 0,kI 382 0,kS "/claim/cut.py" 938]) #[]),(555,kM "__init__" "Desk.__init__" 122 0 "notejar.desks" 918 554),(561,WS (r_ "code") U (W3 #[kS "notes" 940,kS "Desk.notes" 941,kS "/claim/cut.py" 942,kI 389 0,kI 1 0,kI 0 0,kI 0 0,kI 3 0,kR 556,T_ L,kI 181 0,kR 557,J_,kR 558,kR 559,kR 560,kI 944 0,kI 389 0,kS "/claim/cut.py" 945]) #[]),(562,kM "notes" "Desk.notes" 122 1 "notejar.desks" 918 561),(568,WS (r_ "code") U (W3 #[kS "do_step" 947,kS "Desk.do_step" 948,kS "/claim/cut.py" 949,kI 392 0,kI 3 0,kI 0 0,kI 0 0,kI 3 0,kR 563,T_ L,kI 181 0,kR 564,J_,kR 565,kR 566,kR 567,kI 953 0,kI 392 0,kS "/claim/cut.py" 954]) #[]),(569,kM "do_step" "Desk.do_step" 122 2 "notejar.desks" 918 568),(575,WS (r_ "code") U (W3 #[kS "give" 956,kS "Desk.give" 957,kS "/claim/cut.py" 958,kI 397 0,kI 4 0,kI 0 0,kI 0 0,kI 3 0,kR 570,T_ L,kI 181 0,kR 571,J_,kR 572,kR 573,kR 574,kI 965 0,kI 397 0,kS "/claim/cut.py" 966]) #[]),(576,kM "give" "Desk.give" 122 3 "notejar.desks" 918 575),(582,WS (r_ "code") U (W3 #[kS "sweep" 968,kS "Desk.sweep" 969,kS "/claim/cut.py" 970,kI 403 0,kI 2 0,kI 0 0,kI 0 0,kI 3 0,kR 577,T_ L,kI 181 0,kR 578,J_,kR 579,kR 580,kR 581,kI 973 0,kI 403 0,kS "/claim/cut.py" 974]) #[]),(583,kM "sweep" "Desk.sweep" 122 4 "notejar.desks" 918 582),(589,WS (r_ "code") U (W3 #[kS "forget" 976,kS "Desk.forget" 977,kS "/claim/cut.py" 978,kI 406 0,kI 2 0,kI 0 0,kI 0 0,kI 3 0,kR 584,T_ L,kI 181 0,kR 585,J_,kR 586,kR 587,kR 588,kI 981 0,kI 406 0,kS "/claim/cut.py" 982]) #[]),(590,kM "forget" "Desk.forget" 122 5 "notejar.desks" 918 589),(596,WS (r_ "code") U (W3 #[kS "do_and_count" 984,kS "Desk.do_and_count" 985,kS "/claim/cut.py" 986,kI 409 0,kI 3 0,kI 0 0,kI 0 0,kI 3 0,kR 591,T_ L,kI 181 0,kR 592,J_,kR 593,kR 594,kR 595,kI 991 0,kI 409 0,kS "/claim/cut.py" 992]) #[]),(597,kM "do_and_count" "Desk.do_and_count" 122 6 "notejar.desks" 918 596),(603,WS (r_ "code") U (W3 #[kS "merge" 994,kS "Desk.merge" 995,kS "/claim/cut.py" 996,kI 414 0,kI 2 0,kI 0 0,kI 0 0,kI 3 0,kR 598,T_ L,kI 181 0,kR 599,J_,kR 600,kR 601,kR 602,kI 1000 0,kI 414 0,kS "/claim/cut.py" 1001]) #[]),(604,kM "merge" "Desk.merge" 122 7 "notejar.desks" 918 603),(610,WS (r_ "code") U (W3 #[kS "back" 1003,kS "Desk.back" 1004,kS "/claim/cut.py" 1005,kI 419 0,kI 1 0,kI 0 0,kI 0 0,kI 3 0,kR 605,T_ L,kI 181 0,kR 606,J_,kR 607,kR 608,kR 609,kI 1007 0,kI 419 0,kS "/claim/cut.py" 1008]) #[]),(611,kM "back" "Desk.back" 122 8 "notejar.desks" 918 610),(617,WS (r_ "code") U (W3 #[kS "forth" 1010,kS "Desk.forth" 1011,kS "/claim/cut.py" 1012,kI 422 0,kI 1 0,kI 0 0,kI 0 0,kI 3 0,kR 612,T_ L,kI 181 0,kR 613,J_,kR 614,kR 615,kR 616,kI 1014 0,kI 422 0,kS "/claim/cut.py" 1015]) #[]),(618,kM "forth" "Desk.forth" 122 9 "notejar.desks" 918 617),(624,WS (r_ "code") U (W3 #[kS "move" 1017,kS "Desk.move" 1018,kS "/claim/cut.py" 1019,kI 425 0,kI 3 0,kI 0 0,kI 0 0,kI 3 0,kR 619,T_ L,kI 181 0,kR 620,J_,kR 621,kR 622,kR 623,kI 1024 0,kI 425 0,kS "/claim/cut.py" 1025]) #[]),(625,kM "move" "Desk.move" 122 10 "notejar.desks" 918 624),(631,WS (r_ "code") U (W3 #[kS "steps" 1027,kS "Desk.steps" 1028,kS "/claim/cut.py" 1029,kI 433 0,kI 1 0,kI 0 0,kI 0 0,kI 3 0,kR 626,T_ L,kI 181 0,kR 627,J_,kR 628,kR 629,kR 630,kI 1031 0,kI 433 0,kS "/claim/cut.py" 1032]) #[]),(632,kM "steps" "Desk.steps" 122 11 "notejar.desks" 918 631),(638,WS (r_ "code") U (W3 #[kS "twin" 1034,kS "Desk.twin" 1035,kS "/claim/cut.py" 1036,kI 436 0,kI 1 0,kI 0 0,kI 0 0,kI 3 0,kR 633,T_ L,kI 181 0,kR 634,J_,kR 635,kR 636,kR 637,kI 1038 0,kI 436 0,kS "/claim/cut.py" 1039]) #[]),(641,WS (r_ "dict") U (X1 #[kE P "__module__" 927 (kS "notejar.desks" 918),kE P "__firstlineno__" 931 (kI 380 930),kE P "__init__" 939 (kR 555),kE P "notes" 946 (kR 562),kE P "do_step" 955 (kR 569),kE P "give" 967 (kR 576),kE P "sweep" 975 (kR 583),kE P "forget" 983 (kR 590),kE P "do_and_count" 993 (kR 597),kE P "merge" 1002 (kR 604),kE P "back" 1009 (kR 611),kE P "forth" 1016 (kR 618),kE P "move" 1026 (kR 625),kE P "steps" 1033 (kR 632),kE P "twin" 1040 (kR 639),kE P "__static_attributes__" 1045 (kR 640),kE P "__dict__" 1047 (kR 643),kE P "__weakref__" 1049 (kR 644),kE P "__doc__" 1050 J_] 4) #[]),(642,WS (r_ "type") U (ZH (WQ (b_ "Desk") [r_ "object"] [kR 642,r_ "object"] 641 (b_ "Desk") L [] [] D U D)) #[U,U,Z (kS "Desk" 920),Z (kS "Desk" 928),Z (W5 "object.__new__"),Z (T_ L)]),(652,kD "_law_cell" 1055 1056 1057 439 2 3 647 181 648 649 650 651 1060 439 1061),(653,ŕ "_law_cell" 124 652),(659,kD "_law_drawn" 1063 1064 1065 443 3 3 654 181 655 656 657 658 1070 443 1071),(660,ŕ "_law_drawn" 125 659),(666,kD "_law_name" 1073 1074 1075 447 2 3 661 181 662 663 664 665 1079 447 1080),(667,ŕ "_law_name" 126 666),(671,kC "_law_table" 1082 1083 1084 451 2 3 668 181 669 670 1085 451 1086),(672,ŕ "_law_table" 127 671),(678,kD "_law_path" 1088 1089 1090 454 2 3 673 181 674 675 676 677 1094 454 1095),(679,ŕ "_law_path" 128 678),(685,kD "_law_ask" 1097 1098 1099 457 2 3 680 181 681 682 683 684 1103 457 1104),(686,ŕ "_law_ask" 129 685),(690,kC "_law_jar" 1106 1107 1108 460 3 3 687 181 688 689 1109 460 1110),(691,ŕ "_law_jar" 130 690),(697,kD "_law_given" 1112 1113 1114 478 3 3 692 181 693 694 695 696 1126 478 1127),(698,ŕ "_law_given" 131 697),(704,kD "_law_text" 1129 1130 1131 489 1 3 699 181 700 701 702 703 1144 489 1145),(705,ŕ "_law_text" 132 704),(709,kC "_law_swept" 1147 1148 1149 497 2 3 706 181 707 708 1150 497 1151),(710,ŕ "_law_swept" 133 709),(716,kD "_law_refused" 1153 1154 1155 499 1 3 711 181 712 713 714 715 1158 499 1159),(717,ŕ "_law_refused" 134 716),(723,kD "_law_told" 1161 1162 1163 506 5 3 718 181 719 720 721 722 1170 506 1171),(724,ŕ "_law_told" 135 723),(730,kD "_law_new" 1173 1174 1175 517 1 3 725 181 726 727 728 729 1178 517 1179),(731,ŕ "_law_new" 136 730),(737,kD "_law_next" 1181 1182 1183 522 6 3 732 181 733 734 735 736 1192 522 1193),(738,ŕ "_law_next" 137 737),(742,kC "law" 1195 1196 1197 536 1 3 739 181 740 741 1198 536 1199),(743,ŕ "law" 138 742)]
def KK(P:acb):Frag:=KKa P++KKb P
def KAa:O%0:=[2,3,20,30,31,43,44,55,56,67,68,79,80,91,92,103,104,115,116,127,128,134,135,141,142,148,149,155,156,160,161,167,168,172,173,179,180,186,187,193,194,198,199,205,206,212,213,219,220,226,227,233,234,240,241,247,248,254,255,261,262,268,269,275,276,282,283,289,290,296,297,303,304,308,309,315,316,322,323,329,330,336,337,343,344,348,349,355,356,362,363,369,370,376,377,383,384,390,391,397,398,404]
def KAb:O%0:=[405,411,412,418,419,425,426,430,431,435,436,440,441,447,448,454,455,461,462,466,467,471,472,476,477,483,484,490,491,495,496,502,503,507,508,512,513,519,520,526,527,533,534,540,541,554,555,561,562,568,569,575,576,582,583,589,590,596,597,603,604,610,611,617,618,624,625,631,632,638,641,642,652,653,659,660,666,667,671,672,678,679,685,686,690,691,697,698,704,705,709,710,716,717,723,724,730,731,737,738,742,743]
def KA:O%0:=KAa++KAb
def KA_ok(P:acb):KA=(KK P).map (·.1):=by lk
def VQ:n_:=view p9_ [138]
def hbr:r9_.row.prog.bare:=⟨rfl,rfl,rfl,rfl,rfl,by decide+kernel⟩
def slo:PySem.W.looksOpen r9_.row.prog=L:=by lk
set_option maxRecDepth 100000 in
def sd1:r9_.row.wellSaid=L:=by unfold PySem.W.OpenRow.wellSaid PySem.W.OpenRow.partSaid;rw[slo];lk
set_option maxRecDepth 100000 in
def sd:r9_.wellSaid=L:=by unfold PySem.W.OpenLaw.wellSaid;rw[sd1];lk
def hld(h:r9_.row.wellSaid=L->r9_.row.Holds):r9_.Holds:=PySem.W.holds_law sd h
def VL:Str%0:=(["_wall","JarError","NoName","NoTable","NoPath","NoAsk","NoNote","NoJar","NoNumber","NoStep","is_text_of","is_whole_number","is_tuple_of","FIGURES","LABEL_SIGNS","LONGEST_LABEL","MOST_LABELS","MOST_RULES","is_label","is_name","is_rule","is_table","need_name","need_table","lies_within","ends_longest_first","behind_first_dot","is_told_open","find_open_end","find_own_end","PATH_SIGNS","LONGEST_PATH","is_path","need_path","folder","lies_under","LAST_MOMENT","ASK_SAFE","ASK_HOUSE","ASK_PATH","ASK_ORIGIN","ASK_PARTS","is_moment","is_moment_or_none","need_moment","is_ask","need_ask","comes_from_near","NOTE_NAME_SIGNS","LONGEST_NOTE_NAME","NO_WORTH_SIGNS","LONGEST_WORTH","MOST_FIGURES","GIVEN_NAME","GIVEN_WORTH","GIVEN_HOUSE","GIVEN_PATH","GIVEN_UNTIL","GIVEN_LASTS","GIVEN_SAFE","GIVEN_REACH","GIVEN_PARTS","is_note_name","is_worth","is_reach","is_given","need_given","is_written_moment","what_is_told","read_given","NOTE_NAME","NOTE_WORTH","NOTE_HOUSE","NOTE_EXACT","NOTE_PATH","NOTE_ENDS","NOTE_SAFE","NOTE_REACH","NOTE_MADE","NOTE_USED","NOTE_PARTS","is_open","is_exact","keeps_its_mark","why_refused","is_note","house_for","path_for","end_for","made","key","has_ended","MOST_NOTES","is_jar","is_by_made","has_no_key_twice","need_jar","need_no_more_than_a_jar_has","swept","without_ended","forgotten","put","read_what_is_given","verdict","word_of","shadows","taken","take_in","merged","place_of","later_of","when_last","Desk","_law_cell","_law_drawn","_law_name","_law_table","_law_path","_law_ask","_law_jar","_law_given","_law_text","_law_swept","_law_refused","_law_told","_law_new","_law_next"].map b_)
def UW{e d:Type}{o:θ%1}{f:θ->e}{g:θ->d}{a:e}{b:d}(h:o.map f=Z a)(i:o.map g=Z b):o.map (λs=>(f s,g s))=Z (a,b):=by cases o with|none=>cases h|some x=>cases h;cases i;rfl
set_option maxRecDepth 100000 in
def Q7(w:y_):(TR.openQ acj p9_ w 10704).map (openSeen VQ VL (abQ p9_.main.body) (λs=>recOk [] s) L)=Z (openGood VQ VL):=by lk
set_option maxRecDepth 100000 in
def Lv(w:y_):(TR.openQ acj p9_ w 10704).map (λs=>KAa.map s.heap.get?)=Z ((KKa w.params).map λp=>Z p.2):=by lk
set_option maxRecDepth 100000 in
def Lw(w:y_):(TR.openQ acj p9_ w 10704).map (λs=>KAb.map s.heap.get?)=Z ((KKb w.params).map λp=>Z p.2):=by lk
def CO{b a:Type}{o:θ%1}{f:θ->b->a}{A B:b%0}{X Y:a%0}(d:o.map (λs=>A.map (f s))=Z X)(e:o.map (λs=>B.map (f s))=Z Y):o.map (λs=>(A++B).map (f s))=Z (X++Y):=by cases o with|none=>cases d|some x=>cases d;cases e;simp
def Q8(w:y_):(TR.openQ acj p9_ w 10704).map (λs=>KA.map s.heap.get?)=Z ((KK w.params).map λp=>Z p.2):=by show(TR.openQ acj p9_ w 10704).map (λs=>(KAa++KAb).map s.heap.get?)=Z ((KKa w.params++KKb w.params).map λp=>Z p.2);rw[WU];exact CO (f:=λs:h_=>s.heap.get?) (Lv w) (Lw w)
def left:LeftO p9_ VQ VL (λs=>recOk [] s) (Hook.obs (ad7 KK KA KA_ok)) (Hook.val (ad7 KK KA KA_ok)) 10704:=λw=>TR.openQ_map (UW (Q7 w) (Q8 w))
end G
set_option Elab.async false
set_option linter.all false
set_option maxRecDepth 100000
noncomputable section
open PySem PySem.Spec PyProof.Rows
namespace L2
abbrev ü:=Sum Int Str
def w6:ü->B->Bool|.inl k,v=>Value.isInt k v|.inr x,v=>Y_ x v
def UX(w:y_):ü->Int|.inl k=>hashInt k|.inr x=>hashStr w x
def cz:∀{k:ü}{v:B},w6 k v=L->(∃i t,k=Z5 i/\v=abk i t)\/(∃x t,k=aaX x/\v=Yp x t)|.inl i,v,h=>by obtain⟨t,e⟩:=Value.isInt_shape (k:=i) (v:=v) h;exact .inl ⟨i,t,rfl,e⟩|.inr x,v,h=>by obtain⟨t,e⟩:=acp (x:=x) (v:=v) h;exact .inr ⟨x,t,rfl,e⟩
def yy(i:Int)(t:Tok):w6 (.inl i) (.int i t)=L:=by simp[w6,Value.isInt]
def yz(x:Str)(t:Tok):w6 (.inr x) (.str x t)=L:=by simp[w6,Y_]
def Lx(a b:Int):o_ ((Z5 a:ü)=Z5 b)=(a==b):=by
 by_cases e:a=b;·subst e;simp
 ·have h:¬(Z5 a:ü)=Z5 b:=λq=>e (Sum.inl.inj q);rw[decide_eq_false h];exact(beq_eq_false_iff_ne.mpr e).symm
def Ly(a b:Str):o_ ((aaX a:ü)=aaX b)=o_ (a=b):=by
 by_cases e:a=b;·subst e;simp
 ·have h:¬(aaX a:ü)=aaX b:=λq=>e (Sum.inr.inj q);rw[decide_eq_false h,decide_eq_false e]
def Lz(a:Int)(b:Str):o_ ((Z5 a:ü)=aaX b)=D:=decide_eq_false (λq=>nomatch q)
def LA(a:Str)(b:Int):o_ ((aaX a:ü)=Z5 b)=D:=decide_eq_false (λq=>nomatch q)
def dR(f:n_)(w:y_):PySem.KeyKind f w ü where
 is:=w6;hash:=UX w;inj:=λv a b o m=>by
  rcases cz o with⟨i,t,rfl,rfl⟩|⟨x,t,rfl,rfl⟩
  · rcases cz m with⟨j,u,rfl,e⟩|⟨y,u,rfl,e⟩;·injection e with d _;rw[d]
    ·exact nomatch e
  · rcases cz m with⟨j,u,rfl,e⟩|⟨y,u,rfl,e⟩;·exact nomatch e
    ·injection e with d _;rw[d]
 byValue:=λk v h=>by rcases cz h with⟨i,t,rfl,rfl⟩|⟨x,t,rfl,rfl⟩<;>rfl
 pyHash:=λg h=>by
  rcases cz g with⟨i,t,rfl,rfl⟩|⟨x,t,rfl,rfl⟩;·exact wpAny_pyHash_int h
  ·exact wpAny_pyHash_str h
 eqBool:=λn g h=>by
  rcases cz n with⟨i,t,rfl,rfl⟩|⟨x,t,rfl,rfl⟩
  · rcases cz g with⟨j,u,rfl,rfl⟩|⟨y,u,rfl,rfl⟩;·rw[Lx]at h;exact wpAny_eqBool_int h
    ·rw[Lz]at h;exact acG i t y u _ _ _ _ h
  · rcases cz g with⟨j,u,rfl,rfl⟩|⟨y,u,rfl,rfl⟩;·rw[LA]at h;exact acF x t j u _ _ _ _ h
    ·rw[Ly]at h;exact wpAny_eqBool_str h
 «strs»:=λk x t v h=>by
  rcases cz h with⟨i,u,rfl,e⟩|⟨y,u,rfl,e⟩;·exact nomatch e
  ·injection e with d _;subst d;cases v<;>rfl
def ut(a:n_)(w:y_)(i:Int)(t:Tok):(dR a w).is (.inl i) (.int i t)=L:=yy i t
def uu(a:n_)(w:y_)(x:Str)(t:Tok):(dR a w).is (.inr x) (.str x t)=L:=yz x t
inductive V where|non|bl(b:Bool)|int(i:Int)|str(x:Str)|byt(b:Array UInt8)|flt(b:UInt64)|ref(a:O)|ty(n:String)deriving DecidableEq
def â:V->B->Prop|.non,u=>u=J_|.bl b,u=>u=T_ b|.int i,u=>∃t,u=abk i t|.str x,u=>∃t,u=Yp x t|.byt b,u=>∃t,u=Value.bytes b t|.flt b,u=>∃t,u=ady b t|.ref a,u=>u=C_ a|.ty n,u=>u=r_ n
abbrev Ú:V%0->B%0->Prop:=adV â
variable{ν:V%0}{ξ:B%0}
def Ú.length(r:Ú ν ξ):ν.length=ξ.length:=abc r
def Ú.get:∀{a:V%0}{us:B%0}{i:Nat}{x:V},Ú a us->a[i]?=Z x->∃u,us[i]?=Z u/\â x u|_,_,_,_,.nil,e=>by simp at e|_,_,0,_,.cons r _,e=>by simp at e;subst e;exact⟨_,rfl,r⟩|_,_,i+1,x,.cons _ t,e=>by obtain⟨u,d,b⟩:=Ú.get (i:=i) (x:=x) t (by simpa using e);exact⟨u,by simpa using d,b⟩
def Ú.set{x:V}{u:B}(r:â x u):∀{a:V%0}{us:B%0}(i:Nat),Ú a us->Ú (a.set i x) (us.set i u)|_,_,_,.nil=>.nil|_,_,0,.cons _ t=>.cons r t|_,_,i+1,.cons q t=>.cons q (Ú.set r i t)
def Ú.append:∀{b a:V%0}{us d:B%0},Ú b us->Ú a d->Ú (b++a) (us++d)|_,_,_,_,.nil,s=>s|_,_,_,_,.cons r t,s=>.cons r (Ú.append t s)
def Ú.take:∀{a:V%0}{us:B%0}(n:Nat),Ú a us->Ú (a.take n) (us.take n)|_,_,0,_=>.nil|_,_,_+1,.nil=>.nil|_,_,n+1,.cons r t=>.cons r (Ú.take n t)
def Ú.drop:∀{a:V%0}{us:B%0}(n:Nat),Ú a us->Ú (a.drop n) (us.drop n)|_,_,0,r=>r|_,_,_+1,.nil=>.nil|_,_,n+1,.cons _ t=>Ú.drop n t
def ę:V%1->B%1->Prop|some v,Z u=>â v u|none,U=>True|_,_=>False
def KV:(θ×V)%0->(θ×B)%0->Prop:=adV λ(p:θ×V)(q:θ×B)=>p.1=q.1/\â p.2 q.2
def kV:ü->V|.inl i=>.int i|.inr x=>.str x
inductive HO where|lst(xs:V%0)|tup(xs:V%0)|dK(kvs:(ü×V)%0)|dT(kvs:(ü%0×V)%0)|set(S:Int->Bool)(n:Nat)|ins(C dx:O)(fs:(Str×V)%0)|own(x:O)|xd(fs:(Str×V)%0)|met(f x:O)|rng(lo hi:Int)|frz(o:Obj)(u:HO)|tbl(ps:Array B)|ext(φ:O_->Prop)
abbrev Hp:=O->HO%1
def æ(H:Hp)(a:O)(o:HO):Hp:=λb=>if b=a then Z o else H b
variable{h:Hp}{e:O}
def az{o:HO}:æ h e o e=Z o:=by unfold æ;rw[if_pos rfl]
variable{z:O}
def ay{o:HO}(a:z≠e):æ h e o z=h z:=by unfold æ;rw[if_neg a]
def yA{o u:HO}:æ (æ h e o) e u=æ h e u:=by funext b;unfold æ;split<;>rfl
def Q9{o u:HO}(a:h e=Z o)(f:h z=Z u)(d:o≠u):e≠z:=by intro b;subst b;rw[a]at f;exact d (Wj f)
def aF{o:HO}(a:h e=Z o)(d:h z=U):e≠z:=by intro b;subst b;rw[a]at d;cases d
def í(P:n_)(w:y_)(H:Hp)(h:O_)(a:O):HO->Prop|.lst e=>e.length<=sizeLine/\∃(d:B%0)(n:Nat),Ú e d/\h.get? a=Z {cls:=.type "list",data:=.seq d.toArray n}|.tup e=>e.length<=sizeLine/\∃d:B%0,Ú e d/\adZ h a d.toArray|.dK b=>b.length<=sizeLine/\(a==Yc)=D/\∃i,KV b i/\h.DictOf (dR P w) a i|.dT b=>b.length<=sizeLine/\(a==Yc)=D/\∃e:(ü%0×O×B)%0,adV (λ(p:ü%0×V)(q:ü%0×O×B)=>p.1=q.1/\H q.2.1=Z (.tup (p.1.map kV))/\â p.2 q.2.2) b e/\∃o z Q,h.get? a=Z o/\o.ExactDict/\o.data=.dict z Q/\z.toList=e.map (entryOfKey (abi (dR P w)))/\(e.map (·.1)).Nodup|.set S n=>h.SetOf (intKind P w) a S n|.ins C j fs=>H j=Z (.own a)/\fs.length<=1000/\j≠a/\h.get? a=Z (XD C j)/\∃g,h.Ns1 j g/\(∀f,ę (fs.lookup f) (g f))/\acT g (fs.map (·.1))|.own _=>∃o,h.get? a=Z o|.xd fs=>∃g,h.Ns1 a g/\∀f,ę (fs.lookup f) (g f)|.rng lo I=>∃t u v,h.get? a=Z {cls:=.type "range",data:=.fields #[.int lo t,.int I u,.int 1 v]}|.frz o u=>h.get? a=Z o/\í P w H h a u|.tbl E=>∃m:Array B,h.get? a=Z {cls:=.none,data:=.fields m}/\TriplesOk m.toList/\∀pos v,codeAmong pos m.toList=Z v->∃c r i q t A,v=.ref c/\H c=Z (.frz r (.ext λ_=>True))/\r.data=.fields i/\i[1]?=Z (.str q t)/\E[0]?=Z (.str q A)|.met f x=>h.get? a=Z (aa1 (.ref f) (.ref x))|.ext k=>k h/\(∃o,h.get? a=Z o)/\∀y s:O_,k y->(∀o,y.get? a=Z o->s.get? a=Z o)->k s
def ĕ(P:n_)(w:y_)(H:Hp)(h:O_):Prop:=∀a o,H a=Z o->í P w H h a o
variable{Q:O_}
def í.lt{o:HO}(x:í s r h Q e o):e<Q.objs.size:=by cases o with|lst d=>obtain⟨_,_,_,_,a⟩:=x;exact z_ a|tup d=>obtain⟨_,_,_,p⟩:=x;exact p.lt|dK b=>obtain⟨_,_,_,_,o,_,_,a,_⟩:=x;exact z_ a|dT b=>obtain⟨_,_,_,_,o,_,_,a,_⟩:=x;exact z_ a|set S n=>obtain⟨o,_,_,_,a,_⟩:=x;exact z_ a|ins C m fs=>obtain⟨_,_,_,a,_⟩:=x;exact z_ a|own y=>obtain⟨_,a⟩:=x;exact z_ a|xd fs=>obtain⟨_,⟨_,_,_,a,_⟩,_⟩:=x;exact z_ a|rng lo k=>obtain⟨_,_,_,a⟩:=x;exact z_ a|frz j u=>obtain⟨a,_⟩:=x;exact z_ a|tbl i=>obtain⟨_,a,_⟩:=x;exact z_ a|met f y=>exact z_ (show Q.get? e=Z _ from x)|ext g=>obtain⟨_,⟨_,a⟩,_⟩:=x;exact z_ a
def Paired.mapP{h g:Type}{F G:h->g->Prop}:∀{e:h%0}{d:g%0},adV F e d->(∀a b,F a b->G a b)->adV G e d|_,_,.nil,_=>.nil|_,_,.cons r t,f=>.cons (f _ _ r) (Paired.mapP t f)
variable{Δ:Hp}
def í.stay{h':O_}{o:HO}(x:í s r h Q e o)(k:∀b u,(b=e\/h b=Z (.own e))->Q.get? b=Z u->h'.get? b=Z u)(ho:∀b,h b=Z (.own e)->Δ b=Z (.own e))(ht:∀b A,h b=Z (.tup A)->Δ b=Z (.tup A))(hf:∀b o u,h b=Z (.frz o u)->Δ b=Z (.frz o u):=by first|exactλ_ _ _ q=>q|(intro c _ _ q;rw[ay (aF q (by assumption))];exact q)):í s r Δ h' e o:=by induction o with|lst A=>obtain⟨z,w,n,g,a⟩:=x;exact⟨z,w,n,g,k _ _ (.inl rfl) a⟩|tup A=>obtain⟨z,w,g,i,a,c⟩:=x;exact⟨z,w,g,i,k _ _ (.inl rfl) a,c⟩|dK a'=>obtain⟨z,y,E,g,i,j,m,a,c⟩:=x;exact⟨z,y,E,g,i,j,m,k _ _ (.inl rfl) a,c⟩|dT a'=>obtain⟨z,y,A,g,i,j,m,a,c⟩:=x;exact⟨z,y,A,Paired.mapP g λp q z=>⟨z.1,ht _ _ z.2.1,z.2.2⟩,i,j,m,k _ _ (.inl rfl) a,c⟩|set S n=>obtain⟨i,j,m,t,a,c⟩:=x;exact⟨i,j,m,t,k _ _ (.inl rfl) a,c⟩|ins C dx fs=>obtain⟨d,z,ne,a,I,⟨H,j,m,e2,c⟩,g⟩:=x;exact⟨ho _ d,z,ne,k _ _ (.inl rfl) a,I,⟨H,j,m,k _ _ (.inr d) e2,c⟩,g⟩|own y=>obtain⟨i,a⟩:=x;exact⟨i,k _ _ (.inl rfl) a⟩|xd fs=>obtain⟨I,⟨H,j,m,a,c⟩,g⟩:=x;exact⟨I,⟨H,j,m,k _ _ (.inl rfl) a,c⟩,g⟩|rng lo hi=>obtain⟨t,u,v,a⟩:=x;exact⟨t,u,v,k _ _ (.inl rfl) a⟩|frz i u ih=>obtain⟨a,q⟩:=x;exact⟨k _ _ (.inl rfl) a,ih q⟩|tbl ps=>obtain⟨qs,a,tr,ch⟩:=x;exact⟨qs,k e _ (.inl rfl) a,tr,λpos v hv=>let⟨c,oc,E,q,t,t',e1,e2,g⟩:=ch pos v hv;⟨c,oc,E,q,t,t',e1,hf _ _ _ e2,g⟩⟩|met f y=>have a:Q.get? e=Z (aa1 (.ref f) (.ref y)):=x;show h'.get? e=Z (aa1 (.ref f) (.ref y));exact k e _ (.inl rfl) a|ext φ=>obtain⟨p,⟨o,a⟩,st⟩:=x;exact⟨st _ _ p λo q=>k _ _ (.inl rfl) q,⟨o,k _ _ (.inl rfl) a⟩,st⟩
def ĕ.lt{P:n_}{w:y_}{H:Hp}{h:O_}{a:O}{o:HO}(x:ĕ P w H h)(e:H a=Z o):a<h.objs.size:=(x a o e).lt
def ĕ.fresh(x:ĕ s r h Q)(a:Q.objs.size<=e):h e=U:=by cases q:h e with|none=>rfl|some u=>exact absurd (R_ (x.lt q) a) (Xb _)
def ĕ.kept{h':O_}(x:ĕ s r h Q)(k:∀b u,Q.get? b=Z u->h'.get? b=Z u):ĕ s r h h':=λa o e=>(x a o e).stay (λb u _ q=>k b u q) (λ_ q=>q) λ_ _ q=>q
def ĕ.laid{h':O_}{a:O}{o:HO}(x:ĕ s r h Q)(k:∀b u,Q.get? b=Z u->h'.get? b=Z u)(i:Q.objs.size<=a)(d:í s r (æ h a o) h' a o):ĕ s r (æ h a o) h':=λb u e=>by
 have f:=x.fresh i;by_cases g:b=a;·subst g;rw[az]at e;cases e;exact d
 ·rw[ay g]at e;exact(x b u e).stay (λc v _ q=>k c v q) (λc q=>by rw[ay (aF q f)];exact q) λc j q=>by rw[ay (aF q f)];exact q
def Rd(H:Hp)(a:O)(u:HO):Prop:=H a=Z u\/∃o,H a=Z (.frz o u)
def Rd.ok{u:HO}(a:Rd h e u)(x:ĕ s r h Q):í s r h Q e u:=by
 rcases a with a|⟨o,a⟩;·exact x e u a
 ·obtain⟨_,q⟩:=x e _ a;exact q
def Mut:HO%1->Prop|some (.lst _)=>True|some (.dK _)=>True|some (.dT _)=>True|some (.set _ _)=>True|some (.ins _ _ _)=>True|some (.ext _)=>True|_=>False
def ĕ.write{h':O_}{x e:O}{o:HO}(H:ĕ s r h Q)(g:Mut (h x))(E:e=x\/h e=Z (.own x))(k:∀b u,b≠e->Q.get? b=Z u->h'.get? b=Z u)(w:∃u,h'.get? e=Z u)(p:í s r (æ h x o) h' x o):ĕ s r (æ h x o) h':=λb u q=>by
 have f:∀c y,h c=Z (.own y)->c≠x:=λc y a z=>by subst z;rw[a]at g;exact g
 have i:∀c j,h c=Z (.tup j)->c≠x:=λc j a z=>by subst z;rw[a]at g;exact g
 by_cases n:b=x;·subst n;rw[az]at q;cases q;exact p
 · rw[ay n]at q;by_cases d:b=e
   · have A:h b=Z (.own x):=by
      rcases E with z|z;·exact absurd (d.trans z) n
      ·rw[d];exact z
     rw[q]at A;cases A;obtain⟨v,I⟩:=w;exact⟨v,by rw[d];exact I⟩
   · refine(H b u q).stay (λc v m a=>k c v ?_ a) (λc a=>by rw[ay (f c b a)];exact a) (λc j a=>by rw[ay (i c j a)];exact a) λc _ _ a=>by rw[ay (λz=>by subst z;rw[a]at g;exact g)];exact a
     rcases m with rfl|m;·exact d
     · rintro rfl;rcases E with z|z;·exact f c b m z
       ·rw[m]at z;cases z;exact n rfl
structure Un(fs ex:O%0)(H H':Hp)(h h':O_):Prop where
 keep:∀b o,h.get? b=Z o->H b=U->b∉fs->b∉ex->h'.get? b=Z o
 slot:∀b o,h.get? b=Z o->H b=U->b∈fs->b∉ex->∃sl,h'.get? b=Z {o with slots:=sl}free:∀b o,h.get? b=Z o->H b=U->b∉ex->H' b=U
 there:∀b o,h.get? b=Z o->b∉ex->∃o',h'.get? b=Z o'
 tups:∀b xs,H b=Z (.tup xs)->H' b=Z (.tup xs)frzs:∀b o u,H b=Z (.frz o u)->H' b=Z (.frz o u)tbls:∀b ps,H b=Z (.tbl ps)->∃more,H' b=Z (.tbl (ps++more))
variable{υ:O%0}
def Un.any{g:O%0}{f:O_}(u:Un υ g h Δ Q f){b:O}{a:Obj}(q:Q.get? b=Z a)(n:h b=U)(d:b∉g):∃i,f.get? b=Z {a with slots:=i}:=by
 by_cases e:b∈υ;·exact u.slot b a q n e d
 ·exact⟨a.slots,u.keep b a q n e d⟩
def Un.kept{d:O%0}{h':O_}(k:∀b u,Q.get? b=Z u->h'.get? b=Z u):Un υ d h h Q h':=⟨λb a q _ _ _=>k b a q,λb a q _ _ _=>⟨a.slots,k b a q⟩,λ_ _ _ n _=>n,λb a q _=>⟨a,k b a q⟩,λ_ _ q=>q,λ_ _ _ q=>q,λ_ e q=>⟨#[],by rw[q];simp⟩⟩
def Un.refl{a:O%0}:Un υ a h h Q Q:=Un.kept λ_ _ q=>q
def Un.laid{g:O%0}{h':O_}{a:O}{o:HO}(k:∀b u,Q.get? b=Z u->h'.get? b=Z u)(f:Q.objs.size<=a)(d:h a=U):Un υ g h (æ h a o) Q h' where
 keep:=λb u q _ _ _=>k b u q;slot:=λb u q _ _ _=>⟨u.slots,k b u q⟩;free:=λb u q n _=>by rw[ay (V7 (R_ (z_ q) f))];exact n
 there:=λb u q _=>⟨u,k b u q⟩;tups:=λb e q=>by rw[ay (aF q d)];exact q
 frzs:=λb u e q=>by rw[ay (aF q d)];exact q
 tbls:=λb i q=>⟨#[],by rw[ay (aF q d),q];simp⟩
def Un.write{v:O%0}{h':O_}{x e:O}{o:HO}(d:Mut (h x))(s:e=x\/h e=Z (.own x))(k:∀b u,b≠e->Q.get? b=Z u->h'.get? b=Z u)(g:∃u,h'.get? e=Z u):Un υ v h (æ h x o) Q h':=by
 have i:∀b,h b=U->b≠x:=λb n z=>by subst z;rw[n]at d;exact d
 have j:∀b,h b=U->b≠e:=λb n z=>by
  subst z;rcases s with r|r;·exact i b n r
  ·rw[n]at r;cases r
 have f:∀b u,h b=Z u->¬Mut (Z u)->b≠x:=λb u q p z=>by subst z;rw[q]at d;exact p d
 refine⟨λb u q n _ _=>k b u (j b n) q,λb u q n _ _=>⟨u.slots,k b u (j b n) q⟩,λb u q n _=>by rw[ay (i b n)];exact n,λb u q _=>?_,λb m q=>by rw[ay (f b _ q λz=>z)];exact q,λb u m q=>by rw[ay (f b _ q λz=>z)];exact q,λb w q=>⟨#[],by rw[ay (f b _ q λz=>z),q];simp⟩⟩;by_cases a:b=e;·subst a;exact g
 ·exact⟨u,k b u a q⟩
def trk(h:O_)(H:Hp):O%0:=(uk h.objs.size).filter λa=>(H a).isSome
def CP(h:O_)(H:Hp):O_:=adC h (trk h H)
def yC(h:O_)(H:Hp):(CP h H).objs.size=h.objs.size:=PySem.W.hideAll_size _ _
variable{Å:Obj}
def CQ(a:Q.get? e=Z Å)(n:h e=U):(CP Q h).get? e=Z Å:=aap _ a λb=>by have q:(h e).isSome=L:=(Wp.mp b).2;rw[n]at q;simp at q
def He(a:(CP Q h).get? e=Z Å):Q.get? e=Z Å/\h e=U:=by have b:Q.get? e=Z Å:=YA (trk Q h) a;refine⟨b,?_⟩;cases q:h e with|none=>rfl|some x=>have d:e∈trk Q h:=Wp.mpr ⟨Wf.mpr (z_ b),by simp[q]⟩;have z:(CP Q h).get? e=U:=Xj (trk Q h) d;rw[z]at a;cases a
def Hh(g h:O_)(b:O):(O×Obj)%0:=(uk h.objs.size).filterMap λa=>if a=b\/(g.get? a).isSome=L then U else(h.get? a).map λo=>(a,o)
def rest(g h:O_)(a d:O):(O×Obj)%0:=(Hh g h a).filter λp=>o_ (p.1≠d)
structure Mod(K:d_)(mg:Str->B%1)(base:O_):Prop where
 kin:K.In base
 glob:base.Ns E_ mg
 blt:∃mb,base.Ns aaG mb/\∀x:Str,x≠"__name__"->mb x=W0 x
 nolimit:base.NoLimit
structure C where
 prog:n_
 w:y_
 K:d_
 mg:Str->B%1
 base:O_
 A:B_
 N:Str%0
 s₀:h_
 H₀:Hp
 env:Env
 outer:Env%0
 stack:Env%0
 ex:O%0
 fn:Str->Bool
 calm:Bool
 pn:List (O×Obj)xe:B->h_->Prop
def frs(l:Env%0):O%0:=l.filterMap (·.frame)
abbrev C.fs(X:C):O%0:=frs X.outer
def Vis(a:Xk)(x:Str):Prop:=a.names.lookup x=Z .local\/a.names.lookup x=Z .cell\/a.names.lookup x=Z .free
def Ŏ(a:Xk)(x:Str):Prop:=a.names.lookup x=Z .local\/a.names.lookup x=Z .cell
def UY(a:Env)(h:O_)(m:Str->B%1)(x:Str)(u:B):Prop:=(a.kindOf x=Z .local/\m x=Z u)\/((a.kindOf x=Z .cell\/a.kindOf x=Z .free)/\∃c,a.cells.lookup x=Z c/\h.IsCell c (Z u))
structure C.Ok(X:C):Prop where
 mod:Mod X.K X.mg X.base
 kind:X.env.scope.kind=.function
 glob:X.env.globals=E_
 blt:X.env.builtins=aaG
 above:X.s₀.heap.objs.size<=X.env.locals
 inj:∀x y c,X.env.cells.lookup x=Z c->X.env.cells.lookup y=Z c->x=y
 has:∀x,(X.env.kindOf x=Z .cell\/X.env.kindOf x=Z .free)->∃c,X.env.cells.lookup x=Z c
 cab:∀x c,X.fn x=L->X.env.cells.lookup x=Z c->X.s₀.heap.objs.size<=c
 hd:X.calm=L->X.A.handled=U
 frames:X.A.frames=Z X.stack
 stk:X.stack=X.outer\/(X.stack=X.env::X.outer/\X.env.frame=Z X.env.locals)exf:∀b∈X.ex,b≠X.env.locals/\∀x c,X.env.cells.lookup x=Z c->c≠b
 bs:∀b o,X.base.get? b=Z o->X.s₀.heap.get? b=Z o/\X.H₀ b=U
 bsz:X.base.objs.size<=X.s₀.heap.objs.size
 noex:∀b o,X.base.get? b=Z o->b∉X.ex
 exfs:∀b∈X.ex,b∉X.fs
 funs:X.s₀.heap.FunFrames X.base X.outer
 frf:∀b∈X.fs,X.H₀ b=U
structure Õ(X:C)(f':(O×Obj)%0)(σ:Option V%0)(H:Hp)(s:h_):Prop where
 ok:X.Ok
 os:s.os=X.s₀.os
 bare:aay s.gens
 base:Un X.fs X.ex X.H₀ H X.s₀.heap s.heap
 loc:∃m,s.heap.Ns X.env.locals m/\∀(i:Nat)(x:Str)(v:V),X.N[i]?=Z x->σ[i]?=Z (Z v)->Vis X.env.scope x->∃u,â v u/\UY X.env s.heap m x u
 cell:∀x c,X.env.cells.lookup x=Z c->∃v,s.heap.IsCell c v
 free:H X.env.locals=U
 freeC:∀x c,X.env.cells.lookup x=Z c->H c=U
 pin:∀p∈X.pn++f',s.heap.get? p.1=Z p.2/\H p.1=U/\p.1≠X.env.locals/\p.1∉X.fs/\∀v,p.2.data≠.cell v
 hok:ĕ X.prog X.w H s.heap
 len:σ.length=X.N.length
variable{a:C}
def C.Ok.nofr(d:a.Ok){b:O}{o:Obj}(e:a.base.get? b=Z o):b∉a.fs:=λf=>by have:=(d.funs.mem f).1;rw[e]at this;cases this
variable{ε:(O×Obj)%0}{Ì:Option V%0}
def Õ.bs(I:Õ a ε Ì h f):∀b o,a.base.get? b=Z o->f.heap.get? b=Z o/\h b=U:=λb o e=>⟨I.base.keep b o (I.ok.bs b o e).1 (I.ok.bs b o e).2 (I.ok.nofr e) (I.ok.noex b o e),I.base.free b o (I.ok.bs b o e).1 (I.ok.bs b o e).2 (I.ok.noex b o e)⟩
def Õ.bk(I:Õ a ε Ì h f):∀b o,a.base.get? b=Z o->f.heap.get? b=Z o:=λb o e=>(I.bs b o e).1
def Õ.mod(I:Õ a ε Ì h f):Mod a.K a.mg a.base:=I.ok.mod
def Õ.kIn(I:Õ a ε Ì h f):a.K.In f.heap:=I.ok.mod.kin.keeps I.bk
def Õ.lt(I:Õ a ε Ì h f):a.env.locals<f.heap.objs.size:=let⟨_,b,_⟩:=I.loc;b.lt
def Õ.sz(I:Õ a ε Ì h f):a.s₀.heap.objs.size<=f.heap.objs.size:=Wa I.ok.above (aaz I.lt)
def Õ.nofs(I:Õ a ε Ì h f){b:O}(d:f.heap.objs.size<=b):b∉a.fs:=λg=>by obtain⟨_,o,e,_⟩:=I.ok.funs.mem g;exact absurd (R_ (z_ e) (Wa I.sz d)) (Xb _)
def Õ.cne(I:Õ a ε Ì h f):∀x c,a.env.cells.lookup x=Z c->c≠a.env.locals:=λx c e z=>by obtain⟨v,o,g,i⟩:=I.cell x c e;obtain⟨m,⟨j,k,n,b,d,_⟩,_⟩:=I.loc;rw[z,b]at g;cases g;rw[d]at i;cases i
def Õ.funs(I:Õ a ε Ì h f):f.heap.FunFrames a.base a.outer:=by
 have all:∀(l:Env%0),(∀b∈frs l,b∈a.fs)->a.s₀.heap.FunFrames a.base l->f.heap.FunFrames a.base l:=by intro l;induction l with|nil=>intro _ _;trivial|cons w r m=>intro k s;obtain⟨u,⟨d,o,g,q,p,v⟩,n⟩:=s;have j:d∈a.fs:=k d (by unfold frs;rw[Y9,g];exact pi);obtain⟨y,e⟩:=I.base.slot d o p (I.ok.frf d j) j λz=>I.ok.exfs d z j;exact⟨u,⟨d,_,g,q,e,v⟩,m (λb i=>k b (by unfold frs;rw[Y9,g];exact s_ _ i)) n⟩
 exact all a.outer (λ_ i=>i) I.ok.funs
def Õ.stack(I:Õ a ε Ì h f):f.heap.FunFrames a.base a.stack:=by
 rcases I.ok.stk with e|⟨e,d⟩;·rw[e];exact I.funs
 ·rw[e];obtain⟨m,b,_⟩:=I.loc;refine .cons (by rw[I.ok.kind];decide) d b ?_ I.funs;exact Z_ (Wa I.ok.bsz I.ok.above)
def Õ.stkSub(I:Õ a ε Ì h f):∀b∈frs a.stack,b∈a.env.locals::a.fs:=λb d=>by
 rcases I.ok.stk with e|⟨e,g⟩;·rw[e]at d;exact s_ _ d
 ·rw[e]at d;unfold frs at d;rw[Y9,g]at d;exact d
def Õ.stkFree(I:Õ a ε Ì h f):∀b∈frs a.stack,h b=U:=λb d=>by
 rcases v_.mp (I.stkSub b d)with e|d;·rw[e];exact I.free
 ·obtain⟨_,o,g,_⟩:=I.ok.funs.mem d;exact I.base.free b o g (I.ok.frf b d) λz=>I.ok.exfs b z d
def Õ.step{g':Array adX}{t':Nat}{d':Drawn}{ch:O%0}(I:Õ a ε Ì h f)(w:∀b∈ch,(b∈a.ex\/a.s₀.heap.objs.size<=b)/\b≠a.env.locals/\(∀x c,a.env.cells.lookup x=Z c->c≠b)/\∀p∈a.pn++ε,p.1≠b)(y:∀b o,b≠a.env.locals->b∉a.fs->b∉ch->f.heap.get? b=Z o->h b=U->Q.get? b=Z o)(a':∀b o,b≠a.env.locals->b∈a.fs->b∉ch->f.heap.get? b=Z o->h b=U->∃sl,Q.get? b=Z {o with slots:=sl})(j:∀b o,b∉ch->f.heap.get? b=Z o->h b=U->Δ b=U)(b':∀b o,b∉ch->f.heap.get? b=Z o->∃o',Q.get? b=Z o')(e':∀b xs,h b=Z (.tup xs)->Δ b=Z (.tup xs))(l':∀b o u,h b=Z (.frz o u)->Δ b=Z (.frz o u))(i':∀b ps,h b=Z (.tbl ps)->∃k',Δ b=Z (.tbl (ps++k')))(ns:∀m,f.heap.Ns a.env.locals m->Q.Ns a.env.locals m)(n':ĕ a.prog a.w Δ Q)(hg:aay g'):Õ a ε Ì Δ {f with heap:=Q,gens:=g',drawn:=d',toks:=t'}:=by
 have c':∀b o,a.s₀.heap.get? b=Z o->b≠a.env.locals:=λb o e=>V7 (R_ (z_ e) I.ok.above);have H:∀b o,a.s₀.heap.get? b=Z o->b∉a.ex->b∉ch:=λb o e g hb=>by
  rcases(w b hb).1 with z|z;·exact g z
  ·exact absurd (R_ (z_ e) z) (Xb _)
 have A:∀x c,a.env.cells.lookup x=Z c->∀v,f.heap.IsCell c v->Q.IsCell c v:=λx c e v⟨o,ho,hd⟩=>by
  have s:c∉ch:=λz=>(w c z).2.2.1 x c e rfl;by_cases hc:c∈a.fs;·obtain⟨sl,q⟩:=a' c o (I.cne x c e) hc s ho (I.freeC x c e);exact⟨_,q,hd⟩
  ·exact⟨o,y c o (I.cne x c e) hc s ho (I.freeC x c e),hd⟩
 refine⟨I.ok,I.os,hg,⟨λb o e n hb g=>?_,λb o e n hb g=>?_,λb o e n g=>?_,λb o e g=>?_,λb xs e=>e' b xs (I.base.tups b xs e),λb o xs e=>l' b o xs (I.base.frzs b o xs e),λb ps e=>?_⟩,?_,λx c e=>?_,?_,λx c e=>?_,λp hp=>?_,n',I.len⟩;·exact y b o (c' b o e) hb (H b o e g) (I.base.keep b o e n hb g) (I.base.free b o e n g)
 ·obtain⟨sl,E⟩:=I.base.slot b o e n hb g;obtain⟨m',e2⟩:=a' b _ (c' b o e) hb (H b o e g) E (I.base.free b o e n g);exact⟨m',e2⟩
 ·obtain⟨o',E⟩:=I.base.there b o e g;exact j b o' (H b o e g) E (I.base.free b o e n g)
 ·obtain⟨o',E⟩:=I.base.there b o e g;exact b' b o' (H b o e g) E
 ·obtain⟨m1,E⟩:=I.base.tbls b ps e;obtain⟨m2,e2⟩:=i' b _ E;exact⟨m1++m2,by rw[e2,acN]⟩
 · obtain⟨m,hn,hl⟩:=I.loc;refine⟨m,ns m hn,λi x v E e2 e3=>?_⟩;obtain⟨u,r,l⟩:=hl i x v E e2 e3;refine⟨u,r,?_⟩;rcases l with l|⟨k,c,e,z⟩;·exact .inl l
   ·exact .inr ⟨k,c,e,A x c e _ z⟩
 ·obtain⟨v,z⟩:=I.cell x c e;exact⟨v,A x c e v z⟩
 ·obtain⟨m,⟨o,_,_,ho,_⟩,_⟩:=I.loc;exact j _ o (λz=>(w _ z).2.1 rfl) ho I.free
 ·obtain⟨v,o,ho,hd⟩:=I.cell x c e;exact j c o (λz=>(w c z).2.2.1 x c e rfl) ho (I.freeC x c e)
 ·obtain⟨e,n,ne,nf,d⟩:=I.pin p hp;have s:p.1∉ch:=λz=>(w p.1 z).2.2.2 p hp rfl;exact⟨y p.1 p.2 ne nf s e n,j p.1 p.2 s e n,ne,nf,d⟩
def Õ.un{h':O_}{t':Nat}(I:Õ a ε Ì h f)(u:Un a.fs [] h Δ f.heap h')(i:ĕ a.prog a.w Δ h'):Õ a ε Ì Δ {f with heap:=h',toks:=t'}:=by obtain⟨m,⟨o,E,H,p,r⟩,_⟩:=id I.loc;obtain⟨w,v⟩:=u.any p I.free ∅;exact I.step (g':=f.gens) (d':=f.drawn) (ch:=[]) (λ_ z=>nomatch z) (λb o _ g _ e n=>u.keep b o e n g ∅) (λb o _ g _ e n=>u.slot b o e n g ∅) (λb o _ e n=>u.free b o e n ∅) (λb o _ e=>u.there b o e ∅) u.tups u.frzs u.tbls (λA s=>by obtain⟨y,j,k,d,q⟩:=s;rw[p]at d;cases d;exact⟨_,j,k,v,q⟩) i I.bare
def Õ.call{h':O_}{g':Array adX}{t':Nat}{d':Drawn}{ch:O%0}(I:Õ a ε Ì h f)(u:Un (frs a.stack) ch h Δ f.heap h')(k:ĕ a.prog a.w Δ h')(A:aay g')(i:∀b∈ch,(b∈a.ex\/a.s₀.heap.objs.size<=b)/\b≠a.env.locals/\(∀x c,a.env.cells.lookup x=Z c->c≠b)/\∀p∈a.pn++ε,p.1≠b):Õ a ε Ì Δ {f with heap:=h',gens:=g',drawn:=d',toks:=t'}:=by obtain⟨m,⟨o,es,ep,v,r⟩,_⟩:=id I.loc;obtain⟨H,j⟩:=u.any v I.free λz=>(i _ z).2.1 rfl;exact I.step (ch:=ch) i (λb o j E d e n=>u.keep b o e n (λz=>(v_.mp (I.stkSub b z)).elim j E) d) (λb o _ _ d e n=>u.any e n d) (λb o d e n=>u.free b o e n d) (λb o d e=>u.there b o e d) u.tups u.frzs u.tbls (λm' y=>by obtain⟨Q,q,s,g,w⟩:=y;rw[v]at g;cases g;exact⟨_,q,s,j,w⟩) k A
def Õ.turned{h':O_}{t':Nat}{it:O}(I:Õ a ε Ì h f)(k:∀b o,b≠it->f.heap.get? b=Z o->h'.get? b=Z o)(s:h it=U)(i:it≠a.env.locals)(H:it∈a.ex\/a.s₀.heap.objs.size<=it)(E:∀x c,a.env.cells.lookup x=Z c->c≠it)(A:∀p∈a.pn++ε,p.1≠it):Õ a ε Ì h {f with heap:=h',toks:=t'}:=by
 have g:∀b u,h b=Z u->b≠it:=λb u e z=>by rw[z,s]at e;cases e
 refine I.step (g':=f.gens) (d':=f.drawn) (ch:=[it]) (λb y=>?_) (λb o _ _ d e _=>k b o (λz=>d (by simp[z])) e) (λb o _ _ d e _=>⟨o.slots,k b o (λz=>d (by simp[z])) e⟩) (λ_ _ _ _ n=>n) (λb o d e=>⟨o,k b o (λz=>d (by simp[z])) e⟩) (λ_ _ e=>e) (λ_ _ _ e=>e) (λb ps e=>⟨#[],by rw[e];simp⟩) (λm w=>?_) (λb u e=>?_) I.bare
 · have e:b=it:=by simpa using y
   subst e;exact⟨H,i,E,A⟩
 ·obtain⟨o,Q,ep,j,r⟩:=w;exact⟨o,Q,ep,k _ o (WO i) j,r⟩
 · refine(I.hok b u e).stay (λc v d q=>k c v ?_ q) (λ_ q=>q) λ_ _ q=>q;rcases d with z|z;·rw[z];exact g b u e
   ·exact g c _ z
def Õ.tok(I:Õ a ε Ì h f)(t:Nat):Õ a ε Ì h {f with toks:=t}:=I.un (h':=f.heap) (t':=t) Un.refl I.hok
def Õ.kept{h':O_}{t':Nat}(I:Õ a ε Ì h f)(k:∀b u,f.heap.get? b=Z u->h'.get? b=Z u):Õ a ε Ì h {f with heap:=h',toks:=t'}:=I.un (Un.kept k) (I.hok.kept k)
def Õ.laid{X:C}{g:(O×Obj)%0}{f:Option V%0}{H:Hp}{s:h_}{h':O_}{a:O}{o:HO}{t':Nat}(I:Õ X g f H s)(k:∀b u,s.heap.get? b=Z u->h'.get? b=Z u)(d:s.heap.objs.size<=a)(e:í X.prog X.w (æ H a o) h' a o):Õ X g f (æ H a o) {s with heap:=h',toks:=t'}:=I.un (Un.laid k d (I.hok.fresh d)) (I.hok.laid k d e)
def Õ.write{h':O_}{x e:O}{o:HO}{t':Nat}(I:Õ a ε Ì h f)(i:Mut (h x))(j:e=x\/h e=Z (.own x))(k:∀b u,b≠e->f.heap.get? b=Z u->h'.get? b=Z u)(d:∃u,h'.get? e=Z u)(g:í a.prog a.w (æ h x o) h' x o):Õ a ε Ì (æ h x o) {f with heap:=h',toks:=t'}:=I.un (Un.write i j k d) (I.hok.write i j k d g)
def Õ.pins_of{pins':(O×Obj)%0}(I:Õ a ε Ì h f)(b:∀p∈pins',f.heap.get? p.1=Z p.2/\h p.1=U/\p.1≠a.env.locals/\p.1∉a.fs/\∀v,p.2.data≠.cell v):Õ a pins' Ì h f:=⟨I.ok,I.os,I.bare,I.base,I.loc,I.cell,I.free,I.freeC,λp d=>(V8.mp d).elim (λz=>I.pin p (P_ _ z)) (b p),I.hok,I.len⟩
variable{H:Str%0}
def pP(d:H.Nodup){i j:Nat}{x:Str}(a:H[i]?=Z x)(b:H[j]?=Z x):i=j:=by obtain⟨h,f⟩:=F_.mp a;obtain⟨g,e⟩:=F_.mp b;exact(ado d).mp (f.trans e.symm)
variable{Ë:Yr}{I:B_}{χ:B->h_->Prop}{d:Str}{ψ:V}{Α:B}
def yD{Q:Unit->h_->Prop}(g:Õ a ε Ì h f)(hN:a.N.Nodup)(hi:a.N[b]?=Z d)(hx:Ŏ a.env.scope d)(r:â ψ Α)(v:∀s',Õ a ε (Ì.set b (Z ψ)) h s'->(∃s,X4 s f.heap s'.heap/\(s=a.env.locals\/a.env.cells.lookup d=Z s))->Q Unit.unit s')(hf:a.fn d=L\/a.env.scope.names.lookup d=Z .local:=by first|exact .inl rfl|exact .inr rfl|assumption):w_ Ë I (storeName a.env d Α) Q χ f:=by
 obtain⟨m,hn,hl⟩:=id g.loc;have l':(a.env.scope.kind==.class||(a.env.scope.kind==.module&&a.env.locals !=a.env.globals))=D:=by rw[g.ok.kind];rfl
 have b':b<Ì.length:=by rw[g.len];exact(F_.mp hi).1
 have cne:=g.cne;have E:∀{s:O}{h':O_},(∃o,f.heap.get? s=Z o/\h s=U)->X4 s f.heap h'->ĕ a.prog a.w h h':=λ{s h'}ha w i ob e=>by
  obtain⟨_,_,a'⟩:=ha;refine(g.hok i ob e).stay (λc w' H q=>(w.2 c ?_).trans q) (λ_ q=>q) λ_ _ q=>q;rintro rfl;rcases H with rfl|H;·rw[a']at e;cases e
  ·rw[a']at H;cases H
 rcases hx with hk|hk
 · refine wpAny_storeName_local hk hn (λh' n' w=>?_) l';obtain⟨oL,_,_,m',_⟩:=id hn;refine v _ ⟨g.ok,g.os,g.bare,⟨λi o e n hb hx=>?_,λi o e n hb hx=>?_,g.base.free,λi o e hx=>?_,g.base.tups,g.base.frzs,g.base.tbls⟩,⟨_,n',λj y v' A e2 e3=>?_⟩,λy c e=>?_,g.free,g.freeC,λp hp=>?_,E ⟨oL,m',g.free⟩ w,by simpa using g.len⟩ ⟨_,w,.inl rfl⟩;·exact(w.2 i (V7 (R_ (z_ e) g.ok.above))).trans (g.base.keep i o e n hb hx)
   ·obtain⟨sl,A⟩:=g.base.slot i o e n hb hx;exact⟨sl,(w.2 i (V7 (R_ (z_ e) g.ok.above))).trans A⟩
   ·obtain⟨o',A⟩:=g.base.there i o e hx;exact⟨o',(w.2 i (V7 (R_ (z_ e) g.ok.above))).trans A⟩
   · by_cases hj:j=b;·subst hj;rw[hi]at A;cases A;rw[A_ b']at e2;cases e2;exact⟨Α,r,.inl ⟨hk,by simp⟩⟩
     · rw[p_ (WO hj)]at e2;obtain⟨u',r',q⟩:=hl j y v' A e2 e3;refine⟨u',r',?_⟩;rcases q with⟨k,e⟩|⟨k,c,e,z⟩;·refine .inl ⟨k,?_⟩;have:y≠d:=λe=>hj (pP hN A (e▸hi));simp[this,e]
       ·exact .inr ⟨k,c,e,z.sameBut w (cne y c e)⟩
   ·obtain⟨w',z⟩:=g.cell y c e;exact⟨w',z.sameBut w (cne y c e)⟩
   ·obtain⟨e,n,ne,nf,u⟩:=g.pin p hp;exact⟨(w.2 p.1 ne).trans e,n,ne,nf,u⟩
 · have d':a.fn d=L:=by
    rcases hf with z|z;·exact z
    ·rw[z]at hk;cases hk
   obtain⟨c,H⟩:=g.ok.has d (.inl hk);obtain⟨w',z⟩:=g.cell d c H;refine wpAny_storeName_cell g.ok.kind hk H z (λh' i' w=>?_);obtain⟨oc,e',k'⟩:=id z;refine v {f with heap:=h'} ⟨g.ok,g.os,g.bare,⟨λi o e n hb hx=>?_,λi o e n hb hx=>?_,g.base.free,λi o e hx=>?_,g.base.tups,g.base.frzs,g.base.tbls⟩,⟨m,hn.sameBut w (WO (cne d c H)),λj y v' A e2 e3=>?_⟩,λy c' e=>?_,g.free,g.freeC,λp hp=>?_,E ⟨oc,e',g.freeC d c H⟩ w,by simpa using g.len⟩ ⟨c,w,.inr H⟩;·exact(w.2 i (V7 (R_ (z_ e) (g.ok.cab d c d' H)))).trans (g.base.keep i o e n hb hx)
   ·obtain⟨sl,A⟩:=g.base.slot i o e n hb hx;exact⟨sl,(w.2 i (V7 (R_ (z_ e) (g.ok.cab d c d' H)))).trans A⟩
   ·obtain⟨o',A⟩:=g.base.there i o e hx;exact⟨o',(w.2 i (V7 (R_ (z_ e) (g.ok.cab d c d' H)))).trans A⟩
   · by_cases hj:j=b;·subst hj;rw[hi]at A;cases A;rw[A_ b']at e2;cases e2;exact⟨Α,r,.inr ⟨.inl hk,c,H,i'⟩⟩
     · rw[p_ (WO hj)]at e2;obtain⟨u',r',q⟩:=hl j y v' A e2 e3;refine⟨u',r',?_⟩;rcases q with q|⟨k,c',e,z'⟩;·exact .inl q
       ·refine .inr ⟨k,c',e,z'.sameBut w ?_⟩;rintro rfl;exact hj (pP hN A (g.ok.inj _ _ _ e H▸hi))
   · by_cases g':c'=c;·subst g';exact⟨_,i'⟩
     ·obtain⟨w2,z2⟩:=g.cell y c' e;exact⟨w2,z2.sameBut w g'⟩
   ·obtain⟨e,n,ne,nf,u⟩:=g.pin p hp;refine⟨(w.2 p.1 ?_).trans e,n,ne,nf,u⟩;intro q;rw[q,e']at e;have q':oc=p.2:=Wj e;exact u w' (by rw[<-q'];exact k')
def mj{Q:Unit->h_->Prop}(g:Õ a ε Ì h f)(n:a.N.Nodup)(k:a.N[b]?=Z d)(j:Ŏ a.env.scope d)(r:â ψ Α)(e:∀i,Õ a ε (Ì.set b (Z ψ)) h i->Q Unit.unit i)(m:a.fn d=L\/a.env.scope.names.lookup d=Z .local:=by first|exact .inl rfl|exact .inr rfl|assumption):w_ Ë I (storeName a.env d Α) Q χ f:=yD g n k j r (λi o _=>e i o) m
def Õ.call'{s':h_}{ch:O%0}(I:Õ a ε Ì h f)(k:s'.os=f.os)(u:Un (frs a.stack) ch h Δ f.heap s'.heap)(d:ĕ a.prog a.w Δ s'.heap)(m:aay s'.gens)(g:∀b∈ch,(b∈a.ex\/a.s₀.heap.objs.size<=b)/\b≠a.env.locals/\(∀x c,a.env.cells.lookup x=Z c->c≠b)/\∀p∈a.pn++ε,p.1≠b):Õ a ε Ì Δ s':=by obtain⟨q,n,o,i,j⟩:=s';have e:j=f.os:=k;subst e;exact I.call (g':=n) (t':=i) (d':=o) u d m g
abbrev XK:=B->O%1->Hp->Prop
abbrev St:=Option V%0
abbrev VK:=V->Hp->Prop
abbrev TE:=St->Hp->VK->Prop
abbrev TT:=St->Hp->(Bool->Hp->Prop)->Prop
abbrev TA:=St->Hp->(V%0->Hp->Prop)->Prop
structure vD where
 nx:St->Hp->Prop
 rt:VK
 bk:St->Hp->Prop:=λ_ _=>False
 ct:St->Hp->Prop:=λ_ _=>False
abbrev TS:=vD->St->Hp->Prop
def EP(X:C)(e:(O×Obj)%0)(b:St)(Q:VK)(u:B)(d:h_):Prop:=∃v a,Õ X e b a d/\â v u/\Q v a
def TP(X:C)(f:(O×Obj)%0)(d:St)(Q:Bool->Hp->Prop)(b:Bool)(e:h_):Prop:=∃a,Õ X f d a e/\Q b a
def AP(X:C)(g:(O×Obj)%0)(d:St)(Q:V%0->Hp->Prop)(e:B%0)(f:h_):Prop:=∃a b,Õ X g d b f/\Ú a e/\Q a b
def SP(X:C)(g:(O×Obj)%0)(a:vD)(f:Flow)(e:h_):Prop:=match f with|.next=>∃b d,Õ X g b d e/\a.nx b d|.brk=>∃b d,Õ X g b d e/\a.bk b d|.cont=>∃b d,Õ X g b d e/\a.ct b d|.ret u=>∃v b d,Õ X g b d e/\â v u/\a.rt v d
def PE(X:C)(e:t_)(t:TE):Prop:=∀(b:(O×Obj)%0)(s:h_)(a:St)(H:Hp)(Q:VK),Õ X b a H s->t a H Q->w_ (D_ X.prog X.w) X.A (eval e X.env) (EP X b a Q) X.xe s
def PT(X:C)(e:t_)(t:TT):Prop:=∀(b:(O×Obj)%0)(s:h_)(a:St)(H:Hp)(Q:Bool->Hp->Prop),Õ X b a H s->t a H Q->w_ (D_ X.prog X.w) X.A (isTrue e X.env (eval e X.env)) (TP X b a Q) X.xe s
def PW(X:C)(e:t_)(t:TT):Prop:=∀(Ď:Sem B)(b:(O×Obj)%0)(s:h_)(a:St)(H:Hp)(Q:Bool->Hp->Prop),Õ X b a H s->t a H Q->w_ (D_ X.prog X.w) X.A (isTrue e X.env Ď) (TP X b a Q) X.xe s
def PA(X:C)(d:t_%0)(t:TA):Prop:=∀(pos:Pos)(b:(O×Obj)%0)(s:h_)(a:St)(H:Hp)(Q:V%0->Hp->Prop),Õ X b a H s->t a H Q->w_ (D_ X.prog X.w) X.A (spliced (V6 pos (j_ d X.env))) (AP X b a Q) X.xe s
def PS(X:C)(e:WA)(t:TS):Prop:=∀(d:(O×Obj)%0)(s:h_)(b:St)(H:Hp)(a:vD),Õ X d b H s->t a b H->w_ (D_ X.prog X.w) X.A (exec e X.env) (SP X d a) X.xe s
def ŋ(X:C)(e:WA%0)(t:TS):Prop:=∀(d:(O×Obj)%0)(s:h_)(b:St)(H:Hp)(a:vD),Õ X d b H s->t a b H->w_ (D_ X.prog X.w) X.A (execs e X.env) (SP X d a) X.xe s
def ê{t:Sem θ}{Q b:θ->h_->Prop}(h:w_ Ë I t Q χ f)(d:∀a f,Q a f->b a f):w_ Ë I t b χ f:=Wr h d λ_ _ x=>x
def yF(i:Nat):TE:=λa H Q=>∃v,a[i]?=Z (Z v)/\Q v H
def tC(v:V):TE:=λ_ H Q=>Q v H
variable{o:Pos}
def yG(A:a.N[b]?=Z d)(q:Vis a.env.scope d)(j:(d==("__debug__":Str))=D:=by decide)(k:(d==("__classdict__":Str))=D:=by decide):PE a (.Name d o) (yF b):=by
 intro E s p H Q I h;obtain⟨v,e,h⟩:=h;obtain⟨m,w,z⟩:=I.loc;obtain⟨u,r,l⟩:=z b d v A e q;have i:EP a E p Q u s:=⟨v,H,I,r,h⟩;rcases l with⟨g,y⟩|⟨g,c,n,f⟩;·exact wpAny_Name (wpAny_loadName_local I.ok.kind g w y i) j
 · rcases g with g|g;·exact wpAny_Name (wpAny_loadName_cell I.ok.kind g n f i) j
   ·exact wpAny_Name (wpAny_loadName_free I.ok.kind g n f i k) j
def LC{i j b}:PE a (.Constant (.int i) j b) (tC (.int i)):=λ_ _ _ H _ I h=>wpAny_Constant_int ⟨.int i,H,I.tok _,⟨_,rfl⟩,h⟩
def Ra{b j d}:PE a (.Constant (.bool b) j d) (tC (.bl b)):=λ_ _ _ H _ I h=>Constant_bool ⟨.bl b,H,I,rfl,h⟩
def LD{j b}:PE a (.Constant .none j b) (tC .non):=λ_ _ _ H _ I h=>Constant_none ⟨.non,H,I,rfl,h⟩
def LF{x j b}:PE a (.Constant (.str x) j b) (tC (.str x)):=λ_ _ _ H _ I h=>Calls.Constant_str ⟨.str x,H,I.tok _,⟨_,rfl⟩,h⟩
def Gl(X:C)(x:Str):Prop:=X.env.kindOf x=Z .globalImplicit
variable{Ψ:St}{Î:B->h_->Prop}
def j9(I:Õ a ε Ψ h f)(g:Gl a d)(e:a.mg d=Z Α)(b:Î Α f)(i:(d==("__debug__":Str))=D:=by decide):w_ (D_ a.prog a.w) a.A (eval (.Name d o) a.env) Î χ f:=aaM I.ok.kind g (Calls.loadGlobal_global (by rw[I.ok.glob];exact I.mod.glob.keeps I.bk) e b) i
def j3(I:Õ a ε Ψ h f)(j:Gl a d)(i:a.mg d=U)(e:W0 d=Z Α)(b:Î Α f)(g:d≠"__name__":=by decide)(k:(d==("__debug__":Str))=D:=by decide):w_ (D_ a.prog a.w) a.A (eval (.Name d o) a.env) Î χ f:=by obtain⟨p,n,m⟩:=I.mod.blt;exact aaM I.ok.kind j (Calls.loadGlobal_builtin (by rw[I.ok.glob];exact I.mod.glob.keeps I.bk) i (by rw[I.ok.blt];exact n.keeps I.bk) ((m d g).trans e) b) k
def uv(e:Gl a d)(b:a.mg d=Z Α)(r:â ψ Α)(f:(d==("__debug__":Str))=D:=by decide):PE a (.Name d o) (tC ψ):=λ_ _ _ H _ I h=>j9 I e b ⟨ψ,H,I,r,h⟩ f
def yH(g:Gl a d)(f:a.mg d=U)(b:W0 d=Z Α)(r:â ψ Α)(e:d≠"__name__":=by decide)(i:(d==("__debug__":Str))=D:=by decide):PE a (.Name d o) (tC ψ):=λ_ _ _ H _ I h=>j3 I g f b ⟨ψ,H,I,r,h⟩ e i
def tB(t:TE):TT:=λa H Q=>t a H λx b=>∃c,x=.bl c/\Q c b
variable{g:t_}{Φ:TE}
def LG(h:PE a g Φ)(j:∀Ď,isTrue g a.env Ď=(do let v<-Ď;ack g.pos;Zd [v] (truthy v)):=by intro _;rfl):PT a g (tB Φ):=by intro k s b H Q I i;refine isTrue_plain (ê (h k s b H _ I i) λv o⟨x,n,m,e,f⟩=>?_) (j _);obtain⟨d,rfl,q⟩:=f;cases e;exact WZ ⟨n,m,q⟩
def UZ(t u:TT):TT:=λa H Q=>t a H λc b=>if c=L then u a b Q else Q D b
def tOr(t u:TT):TT:=λa H Q=>t a H λc b=>if c=L then Q L b else u a b Q
def U0(t:TT):TT:=λa H Q=>t a H λc b=>Q (!c) b
def Hi{b:TT}(f:PT a g b):PW a (.BoolOp .And [g] o) b:=by intro j i s d H Q I h;refine isTrue_and (ê (f i s d H Q I h) λc k e=>?_);cases c with|true=>exact isTrue_and_nil e|false=>exact e
def LH{b:TT}(f:PT a g b):PW a (.BoolOp .Or [g] o) b:=by intro j i s d H Q I h;refine isTrue_or (ê (f i s d H Q I h) λc k e=>?_);cases c with|false=>exact isTrue_or_nil e|true=>exact e
variable{y:t_}{u:t_%0}
def LJ{e b:TT}(q:PT a g e)(p:PW a (.BoolOp .And (y::u) o) b):PW a (.BoolOp .And (g::y::u) o) (UZ e b):=by intro m i s d H Q I h;refine isTrue_and (ê (q i s d H _ I h) λc n⟨k,j,f⟩=>?_);cases c with|true=>exact p m i n d k Q j f|false=>exact⟨k,j,f⟩
def Rb{e b:TT}(q:PT a g e)(p:PW a (.BoolOp .Or (y::u) o) b):PW a (.BoolOp .Or (g::y::u) o) (tOr e b):=by intro m i s d H Q I h;refine isTrue_or (ê (q i s d H _ I h) λc n⟨k,j,f⟩=>?_);cases c with|true=>exact⟨k,j,f⟩|false=>exact p m i n d k Q j f
def LK{b:TT}(e:PT a g b):PT a (.UnaryOp .Not g o) (U0 b):=by intro f s d H Q I h;exact isTrue_not (e f s d H (λc i=>Q (!c) i) I h)
def Rc(e d:TE):TE:=λa H Q=>e a H λx b=>∃c,x=.bl c/\if c=L then d a b Q else Q (.bl D) b
def U1(e d:TE):TE:=λa H Q=>e a H λx b=>∃c,x=.bl c/\if c=L then Q (.bl L) b else d a b Q
def Re(b:TE):TE:=λa H Q=>b a H λx d=>∃c,x=.bl c/\Q (.bl (!c)) d
def LL{d}(h:PE a g Φ):PE a (.BoolOp d [g] o) Φ:=λf s b H Q I e=>BoolOp_one (h f s b H Q I e)
def LM{e:TE}(p:PE a g Φ)(n:PE a (.BoolOp .And (y::u) o) e):PE a (.BoolOp .And (g::y::u) o) (Rc Φ e):=by intro f s d H Q I h;refine BoolOp_and (ê (p f s d H _ I h) λv k⟨x,j,i,m,b⟩=>?_);obtain⟨c,rfl,b⟩:=b;cases m;refine WZ ?_;cases c with|true=>exact n f k d j Q i b|false=>exact⟨.bl D,j,i,rfl,b⟩
def Rf{e:TE}(p:PE a g Φ)(n:PE a (.BoolOp .Or (y::u) o) e):PE a (.BoolOp .Or (g::y::u) o) (U1 Φ e):=by intro f s d H Q I h;refine BoolOp_or (ê (p f s d H _ I h) λv k⟨x,j,i,m,b⟩=>?_);obtain⟨c,rfl,b⟩:=b;cases m;refine WZ ?_;cases c with|false=>exact n f k d j Q i b|true=>exact⟨.bl L,j,i,rfl,b⟩
def LN(f:PE a g Φ):PE a (.UnaryOp .Not g o) (Re Φ):=by intro i s d H Q I h;refine UnaryOp_ (ê (f i s d H _ I h) λv m⟨x,k,j,e,b⟩=>?_);obtain⟨c,rfl,b⟩:=b;cases e;exact not_of (WZ ⟨.bl (!c),k,j,rfl,b⟩)
def tIf(t:TT)(e d:TE):TE:=λa H Q=>t a H λc b=>if c=L then e a b Q else d a b Q
variable{Ê:t_}
def vF{f:TE}{i:TT}(p:PT a Ê i)(r:PE a g Φ)(q:PE a y f):PE a (.IfExp Ê g y o) (tIf i Φ f):=by intro e s b H Q I h;refine wpAny_IfExp (ê (p e s b H _ I h) λd j⟨n,m,k⟩=>?_);cases d with|true=>exact r e j b n Q m k|false=>exact q e j b n Q m k
def č(K:d_)(H:Hp)(a:O)(d:V%0):Prop:=Rd H a (.lst d)\/∃(o:Obj)(b:Array B)(n:Nat),K.lookup a=Z o/\o.cls=.type "list"/\o.dict=U/\o.data=.seq b n/\b.size<=sizeLine/\Ú d b.toList
def Ā(K:d_)(H:Hp)(a:O)(d:V%0):Prop:=Rd H a (.tup d)\/∃(o:Obj)(b:Array B)(n:Nat),K.lookup a=Z o/\o.cls=.type "tuple"/\o.data=.seq b n/\b.size<=sizeLine/\Ú d b.toList
def U4:B->V%1|.none=>Z .non|.bool b=>Z (.bl b)|.int i _=>Z (.int i)|.str x _=>Z (.str x)|.bytes b _=>Z (.byt b)|.float b _=>Z (.flt b)|.ref a=>Z (.ref a)|.type n=>Z (.ty n)|_=>U
def â.abs(r:â ψ Α):U4 Α=Z ψ:=by cases ψ with|non=>cases r;rfl|bl _=>cases r;rfl|int _=>obtain⟨t,rfl⟩:=r;rfl|str _=>obtain⟨t,rfl⟩:=r;rfl|byt _=>obtain⟨t,rfl⟩:=r;rfl|flt _=>obtain⟨t,rfl⟩:=r;rfl|ref _=>cases r;rfl|ty _=>cases r;rfl
def â.inj{y:V}(r:â ψ Α)(q:â y Α):ψ=y:=Wj (r.abs.symm.trans q.abs)
def Ú.inj:∀{b a:V%0}{us:B%0},Ú b us->Ú a us->b=a|_,_,_,.nil,.nil=>rfl|_,_,_,.cons r t,.cons e d=>by rw[r.inj e,Ú.inj t d]
variable{q:d_}
def č.of(a:h e=Z (.lst ν)):č q h e ν:=.inl (.inl a)
def Ā.of(a:h e=Z (.tup ν)):Ā q h e ν:=.inl (.inl a)
def Õ.list(I:Õ a ε Ψ h f)(b:č a.K h e ν):∃g:B%0,Ú ν g/\PlainL f.heap e g.toArray/\ν.length<=sizeLine:=by
 rcases b with b|⟨o,g,n,j,m,k,i,p,r⟩;·obtain⟨z,g,n,r,d⟩:=b.ok I.hok;exact⟨g,r,⟨_,n,d,rfl,rfl,rfl⟩,z⟩
 ·refine⟨g.toList,r,⟨o,n,I.kIn e o j,m,k,by simpa using i⟩,?_⟩;have d:=r.length;simp![WX]at d;omega
def Õ.tuple(I:Õ a ε Ψ h f)(b:Ā a.K h e ν):∃g:B%0,Ú ν g/\adZ f.heap e g.toArray/\ν.length<=sizeLine:=by
 rcases b with b|⟨o,g,n,j,k,i,m,r⟩;·obtain⟨z,g,r,p⟩:=b.ok I.hok;exact⟨g,r,p,z⟩
 ·refine⟨g.toList,r,⟨o,I.kIn e o j,k,n,by simpa using i⟩,?_⟩;have d:=r.length;simp![WX]at d;omega
def Õ.list_inj{k:V%0}(I:Õ a ε Ψ h f)(b:č a.K h e ν)(s:č a.K h e k):ν=k:=by
 obtain⟨j,r,⟨o,n,g,_,_,d⟩,_⟩:=I.list b;obtain⟨i,q,⟨v,w,m,_,_,p⟩,_⟩:=I.list s;rw[g]at m;cases m;rw[d]at p;injection p with u _;have:j=i:=by simpa using congrArg Array.toList u
 subst this;exact r.inj q
def Õ.tuple_inj{k:V%0}(I:Õ a ε Ψ h f)(b:Ā a.K h e ν)(s:Ā a.K h e k):ν=k:=by
 obtain⟨j,r,⟨o,g,_,n,d⟩,_⟩:=I.tuple b;obtain⟨i,q,⟨v,m,_,w,p⟩,_⟩:=I.tuple s;rw[g]at m;cases m;rw[d]at p;injection p with u _;have:j=i:=by simpa using congrArg Array.toList u
 subst this;exact r.inj q
abbrev C.wish(X:C)(E:B->h_->Prop):C:={X with xe:=E}
abbrev C.nox(X:C):C:=X.wish λ_ _=>False
def C.Ok.wish(b:a.Ok)(E:B->h_->Prop):(a.wish E).Ok:=⟨b.mod,b.kind,b.glob,b.blt,b.above,b.inj,b.has,b.cab,b.hd,b.frames,b.stk,b.exf,b.bs,b.bsz,b.noex,b.exfs,b.funs,b.frf⟩
def C.Ok.unwish(b:(a.wish χ).Ok):a.Ok:=⟨b.mod,b.kind,b.glob,b.blt,b.above,b.inj,b.has,b.cab,b.hd,b.frames,b.stk,b.exf,b.bs,b.bsz,b.noex,b.exfs,b.funs,b.frf⟩
def Õ.wish(I:Õ a ε Ψ h f)(E:B->h_->Prop):Õ (a.wish E) ε Ψ h f:=⟨I.ok.wish E,I.os,I.bare,I.base,I.loc,I.cell,I.free,I.freeC,I.pin,I.hok,I.len⟩
def Õ.unwish(I:Õ (a.wish χ) ε Ψ h f):Õ a ε Ψ h f:=⟨I.ok.unwish,I.os,I.bare,I.base,I.loc,I.cell,I.free,I.freeC,I.pin,I.hok,I.len⟩
def SP.unwish{d:vD}{b:Flow}(h:SP (a.wish χ) ε d b f):SP a ε d b f:=by cases b with|next=>obtain⟨e,g,I,q⟩:=h;exact⟨e,g,I.unwish,q⟩|brk=>obtain⟨e,g,I,q⟩:=h;exact⟨e,g,I.unwish,q⟩|cont=>obtain⟨e,g,I,q⟩:=h;exact⟨e,g,I.unwish,q⟩|ret u=>obtain⟨v,e,g,I,r,q⟩:=h;exact⟨v,e,g,I.unwish,r,q⟩
variable{À:WA%0}
def ŋ.nox{t:TS}(h:ŋ a.nox À t):ŋ a À t:=λf s d H b I e=>Wr (h f s d H b (I.wish _) e) (λ_ _ q=>q.unwish) λ_ _ z=>Wg z
def Rg:TS:=λa b H=>a.nx b H
def U5(t u:TS):TS:=λa b H=>t {a with nx:=u a} b H
def uw:ŋ a [] Rg:=λ_ _ b H _ I h=>abO ⟨b,H,I,h⟩
variable{Γ:WA}
def gT{t u:TS}(k:PS a Γ t)(j:ŋ a À u):ŋ a (Γ::À) (U5 t u):=by intro e s g H b I h;refine wpAny_execs_cons (ê (k e s g H {b with nx:=u b} I h) λf i q=>?_);cases f with|next=>obtain⟨d,n,m,q⟩:=q;exact j e i d n b m q|ret v=>exact q|brk=>exact q|cont=>exact q
def pQ{t:TS}(e:PS a Γ t):ŋ a [Γ] t:=by intro g s d H b I h;refine wpAny_execs_cons (ê (e g s d H b I h) λf i q=>?_);cases f with|next=>exact abO q|ret v=>exact q|brk=>exact q|cont=>exact q
def Õ.quiet(I:Õ a ε Ψ h f):interactive a.env=D:=by simp[interactive,I.ok.kind]
def Rh(d:TE):TS:=λa b H=>d b H λ_ e=>a.nx b e
def ux(i:PE a g Φ)(f:WD g U o.line a.env=pure D:=by rfl):PS a (.Expr g o) (Rh Φ):=by intro j s d H b I h;exact wpAny_Expr_any (ê (i j s d H _ I h) λv n⟨x,m,k,p,e⟩=>⟨d,m,k,e⟩) I.quiet f
def U6(d:TE):TS:=λa b H=>d b H a.rt
def yI(i:PE a g Φ):PS a (.Return (Z g) o) (U6 Φ):=by intro j s d H b I h;exact wpAny_Return_some (ê (i j s d H _ I h) λv n⟨x,m,k,e,f⟩=>⟨x,d,m,k,e,f⟩)
def U7(c:TT)(t u:TS):TS:=λa d H=>c d H λb e=>if b=L then t a d e else u a d e
def CS{t u:TS}{b:WA%0}{j:TT}(q:PT a g j)(v:ŋ a À t)(r:ŋ a b u):PS a (.If g À b o) (U7 j t u):=by intro i s f H e I h;refine wpAny_If (ê (q i s f H _ I h) λd k⟨p,n,m⟩=>?_);cases d with|true=>exact v i k f p e n m|false=>exact r i k f p e n m
abbrev TG:=V->St->Hp->(St->Hp->Prop)->Prop
abbrev TGs:=V%0->St->Hp->(St->Hp->Prop)->Prop
def PG(X:C)(a:t_)(t:TG):Prop:=∀(e:(O×Obj)%0)(s:h_)(d:St)(H:Hp)(v:V)(u:B)(Q:St->Hp->Prop),Õ X e d H s->â v u->t v d H Q->w_ (D_ X.prog X.w) X.A (Ye a X.env u) (λ_ g=>∃b f,Õ X e b f g/\Q b f) X.xe s
def ţ(X:C)(g:t_%0)(t:TGs):Prop:=∀(e:(O×Obj)%0)(s:h_)(b:St)(H:Hp)(d:V%0)(us:B%0)(Q:St->Hp->Prop),Õ X e b H s->Ú d us->t d b H Q->w_ (D_ X.prog X.w) X.A (assignInOrder ((V_ g X.env).map (·.2)) us) (λ_ h=>∃a f,Õ X e a f h/\Q a f) X.xe s
abbrev Ri:=V->V->V->Hp->(Hp->Prop)->Prop
def Ua(X:C)(t:Ri):Prop:=∀(e:(O×Obj)%0)(s:h_)(a:St)(H:Hp)(o i v:V)(b d u:B)(Q:Hp->Prop),Õ X e a H s->â o b->â i d->â v u->t o i v H Q->w_ (D_ X.prog X.w) X.A (setItem b d u) (λ_ g=>∃f,Õ X e a f g/\Q f) X.xe s
def w8(i:Nat):TG:=λv a H Q=>Q (a.set i (Z v)) H
def iO(i:a.N.Nodup)(f:a.N[b]?=Z d)(e:Ŏ a.env.scope d)(g:a.fn d=L\/a.env.scope.names.lookup d=Z .local:=by first|exact .inl rfl|exact .inr rfl|assumption):PG a (.Name d o) (w8 b):=by intro n s k H v u Q I r h;exact wpAny_assign_Name (mj I i f e r (λm j=>⟨_,H,j,h⟩) g)
def U8:TGs:=λb a H Q=>b=[]/\Q a H
def Rj(t:TG)(u:TGs):TGs:=λd b H Q=>∃v r,d=v::r/\t v b H λa e=>u r a e Q
def yJ:ţ a [] U8:=by intro f s b H d us Q I r h;obtain⟨e,h⟩:=h;subst e;cases r;exact assignInOrder_nil ⟨b,H,I,h⟩
def pR{t:TG}{b:TGs}(o:PG a g t)(n:ţ a u b)(m:(V_ (g::u) a.env).map (·.2)=Ye g a.env::(V_ u a.env).map (·.2):=by rfl):ţ a (g::u) (Rj t b):=by intro e s f H y us Q I r h;obtain⟨v,z,p,h⟩:=h;subst p;cases r with|cons r j=>rw[m];refine assignInOrder_cons (ê (o e s f H _ _ _ I r h) λ_ i⟨d,w,q,k⟩=>?_);exact n e i d w _ _ Q q j k
def U9(K:d_)(n:Nat)(t:TGs):TG:=λv d H Q=>∃a b,v=.ref a/\Ā K H a b/\b.length=n/\t b d H Q
variable{j:Nat}
def yK{t:TGs}(hc:a.calm=L)(h:ţ a u t)(E:(V_ u a.env).length=j:=by rfl)(m:(V_ u a.env).findIdx? (·.1)=U:=by rfl):PG a (.Tuple u b o) (U9 a.K j t):=by intro q s n H v g Q I r k;obtain⟨i,w,e1,A,hl,k⟩:=k;subst e1;cases r;obtain⟨a',p,z,hz⟩:=I.tuple A;refine assign_Tuple_tuple (I.ok.hd hc) z (by simp[E,<-hl,p.length]) m λh' y=>?_;have I1:Õ a q n H {s with heap:=h'}:=I.kept (t':=s.toks) λf d e=>y f d (V7 (z_ e)) e;exact h q _ n H w _ Q I1 (by simpa using p) k
def Va(b d:TE)(t:Ri):TG:=λv a H Q=>b a H λo g=>d a g λi f=>t o i v f λe=>Q a e
def LO{j:TE}{t:Ri}(E:PE a g Φ)(hi:PE a y j)(A:Ua a t)(ha:∀v,Ye (.Subscript g y o) a.env v=(do
 let d<-Zd [v] (eval g a.env)let e<-Zd [v,d] (eval y a.env)ack o
 Zd [v,d,e] (setItem d e v)release [v,d,e] []):=by intro _;rfl):PG a (.Subscript g y o) (Va Φ j t):=by intro i s f H v u Q I r h;rw[ha];refine e_ (WN (ê (E i s f H _ I h) λd m⟨x,H1,I1,p,z⟩=>?_));refine e_ (WN (ê (hi i m f H1 _ I1 z) λe k⟨b,H2,I2,n,w⟩=>?_));refine e_ (acv (e_ (WN (ê (A i k f H2 x b v d e u _ I2 p n r w) λ_ s3⟨H3,I3,q⟩=>?_))));exact wpAny_release ⟨f,H3,I3,q⟩
def Ub(d:TE)(g:TG):TS:=λa b H=>d b H λx e=>g x b e a.nx
def yL{b:TG}(r:PE a y Φ)(p:PG a g b)(n:aa_ [g] y o.line a.env=pure D:=by rfl)(m:aba [g] y a.env=pure U:=by rfl)(u:(V_ [g] a.env).map (·.2)=[Ye g a.env]:=by rfl):PS a (.Assign [g] y o) (Ub Φ b):=by intro f s e H d I h;refine wpAny_Assign_stores (ê (r f s e H _ I h) λv i⟨x,z,w,j,k⟩=>?_) n m;rw[u];exact ê (p f i e z x v _ w j k) λ_ A q=>q
variable{w:Pos}
def oH(r:a.N.Nodup)(n:a.N[b]?=Z d)(k:Ŏ a.env.scope d)(q:PE a g Φ)(m:WD g (Z (.Name d w)) o.line a.env=pure D:=by rfl)(p:a.fn d=L\/a.env.scope.names.lookup d=Z .local:=by first|exact .inl rfl|exact .inr rfl|assumption):PS a (.Assign [.Name d w] g o) (Ub Φ (w8 b)):=by intro u s f H e I h;refine wpAny_Assign_Name (ê (q u s f H _ I h) λv s1⟨y,E,A,i,j⟩=>?_) m;exact mj A r n k i (λQ z=>⟨_,E,z,j⟩) p
structure It where
 go:Nat->Hp->Prop
 yld:Nat->Hp->V->Hp->Prop
 stop:Nat->Hp->Prop
def um(X:C)(a:(O×Obj)%0)(H:Hp)(b:O):Prop:=H b=U/\b≠X.env.locals/\b∉X.fs/\(b∈X.ex\/X.s₀.heap.objs.size<=b)/\(∀x c,X.env.cells.lookup x=Z c->c≠b)/\∀p∈X.pn++a,p.1≠b
def Õ.fpOk(I:Õ a ε Ψ h f)(d:f.heap.objs.size<=e)(i:Δ e=U):um a ε Δ e:=by
 refine⟨i,Y3 (R_ I.lt d),I.nofs d,.inr (Wa I.sz d),λx c b z=>?_,λp g z=>?_⟩;·obtain⟨v,q⟩:=I.cell x c b;exact absurd (R_ q.lt (by rw[z];exact d)) (Xb _)
 ·exact absurd (R_ (z_ (I.pin p g).1) (by rw[z];exact d)) (Xb _)
structure yM(P:n_)(w:y_)(K:d_)(tg:t_)(J:It)(fp:O%0)(it:O)(tn:Nat->O_->Prop):Prop where
 mem:it∈fp
 obj:∀i h,tn i h->∀b∈fp,∃o,h.get? b=Z o/\∀v,o.data≠.cell v
 keep:∀i h h',tn i h->(∀b∈fp,∀o,h.get? b=Z o->h'.get? b=Z o)->tn i h'
 item:∀(X:C),X.prog=P->X.w=w->X.K=K->X.calm=L->∀(i:Nat)(f':(O×Obj)%0)(s:h_)(σ:St)(H:Hp)(E:B->h_->Prop),Õ X f' σ H s->(∀b∈fp,um X f' H b)->tn i s.heap->J.go i H->w_ (D_ P w) X.A (ů (.ref it)) (λr s1=>∃u,r=Z u/\w_ (D_ P w) X.A (aai tg (.ref it) u) (λ_ s2=>∃x H',Õ X f' σ H' s2/\â x u/\J.yld i H x H'/\tn (i+1) s2.heap/\∀b∈fp,H' b=U) E s1) E s
 done:∀(X:C),X.prog=P->X.w=w->X.K=K->X.calm=L->∀(i:Nat)(f':(O×Obj)%0)(s:h_)(σ:St)(H:Hp)(E:B->h_->Prop),Õ X f' σ H s->(∀b∈fp,um X f' H b)->tn i s.heap->J.stop i H->w_ (D_ P w) X.A (ů (.ref it)) (λr s1=>r=U/\Õ X f' σ H s1) E s
 self:∀(A:B_)(i:Nat)(s:h_)(Q:B->h_->Prop)(E:B->h_->Prop),tn i s.heap->Q (.ref it) s->w_ (D_ P w) A (pyIter (.ref it)) Q E s
abbrev TI:=St->Hp->(It->Hp->Prop)->Prop
def PIE(X:C)(h:(O×Obj)%0)(i:St)(j:t_)(R:It->Hp->Prop)(d:B)(f:h_):Prop:=∃(it:O)(g:O%0)(e:Nat->O_->Prop)(J:It)(a:Hp),d=.ref it/\Õ X h i a f/\yM X.prog X.w X.K j J g it e/\e 0 f.heap/\(∀b∈g,um X h a b)/\R J a
def PI(X:C)(f a:t_)(e:TI):Prop:=∀(d:(O×Obj)%0)(s:h_)(b:St)(H:Hp)(R:It->Hp->Prop),Õ X d b H s->e b H R->w_ (D_ X.prog X.w) X.A (eval a X.env) (λv g=>w_ (D_ X.prog X.w) X.A (pyIter v) (PIE X d b f R) X.xe g) X.xe s
def CU{n:String}{b:Array B}{Q:Unit->h_->Prop}(d:f.heap.get? e=Z Å)(k:Å.cls=.type n)(j:Å.data=.fields b)(i:["enumerate","zip","dict_itemiterator","dict_reverseitemiterator","odict_iterator","itertools.zip_longest","itertools.pairwise"].contains n=D)(a:Q Unit.unit f):w_ Ë I (aai g (.ref e) Α) Q χ f:=by unfold aai;cases g<;>first|exact k_ a|(cases Α<;>first|exact k_ a|(refine e_ (wpAny_load d ?_);rw[k,j];show w_ Ë I (if(["enumerate","zip","dict_itemiterator","dict_reverseitemiterator","odict_iterator","itertools.zip_longest","itertools.pairwise"].contains n&&b[0]?==Z (ż _))=L then _ else _) Q χ f;rw[if_neg (by intro h;rw[i,Bool.false_and]at h;cases h)];exact k_ a))
def Itl(K:d_)(a:O):It:=⟨λi H=>∃b x,č K H a b/\b[i]?=Z x,λi H x d=>d=H/\∀b,č K H a b->b[i]?=Z x,λi H=>∃b,č K H a b/\b.length<=i⟩
def Itt(K:d_)(a:O):It:=⟨λi H=>∃b x,Ā K H a b/\b[i]?=Z x,λi H x d=>d=H/\∀b,Ā K H a b->b[i]?=Z x,λi H=>∃b,Ā K H a b/\b.length<=i⟩
def Itr(a:Int)(n:Nat):It:=⟨λi _=>i<n,λi H x b=>b=H/\x=.int (a+i),λi _=>n<=i⟩
def yN(a j:O):yM s r q g (Itl q a) [j] j (λi h=>h.IsListIter j a i)where
 mem:=by simp
 obj:=λi h st b m=>by
  have e:b=j:=by simpa using m
  subst e;obtain⟨o,e,c,d⟩:=st;exact⟨o,e,λv z=>by rw[d]at z;cases z⟩
 keep:=λi h A st k=>st.at λo e=>k j ∅ o e;item:=by intro X hP hw hK hc i f' f σ H E I y st hg;subst hP hw hK;obtain⟨xs,x,w,hx⟩:=hg;obtain⟨a',Q,p,hz⟩:=I.list w;obtain⟨u,hu,ru⟩:=Q.get hx;obtain⟨f0,f1,R,f3,f4,f5⟩:=y j ∅;refine wpAny_pyNext_list_item st p.isList (x:=u) (by simpa using hu) λA n sb=>?_;have I1:Õ X f' σ H {f with heap:=A}:=I.turned (t':=f.toks) (λb o m e=>(sb.2 b m).trans e) f0 f1 f3 f4 f5;obtain⟨o,e,c,d⟩:=id n;exact⟨u,rfl,CU (f:={f with heap:=A}) e c d #v[] ⟨x,H,I1,ru,⟨rfl,λys hy=>by rw[I.list_inj hy w];exact hx⟩,n,λb m=>(y b m).1⟩⟩
 done:=by intro X hP hw hK hc i f' f σ H E I y st hg;subst hP hw hK;obtain⟨xs,w,hx⟩:=hg;obtain⟨a',Q,p,hz⟩:=I.list w;obtain⟨f0,f1,R,f3,f4,f5⟩:=y j ∅;have hl:=Q.length;exact wpAny_pyNext_list_end (I.ok.hd hc) st p.isList (by simp;omega) λA eb=>⟨rfl,I.turned (t':=f.toks) (λb o m e=>eb b o m e) f0 f1 f3 f4 f5⟩
 self:=λ_ _ _ _ _ st h=>wpAny_pyIter_listiter st h
def oJ(a j:O):yM s r q g (Itt q a) [j] j (λi h=>h.IsTupleIter j a i)where
 mem:=by simp
 obj:=λi h st b m=>by
  have e:b=j:=by simpa using m
  subst e;obtain⟨o,e,c,d⟩:=st;exact⟨o,e,λv z=>by rw[d]at z;cases z⟩
 keep:=λi h Q st k=>st.at λo e=>k j ∅ o e;item:=by intro X hP hw hK hc i f' f σ H E I A st hg;subst hP hw hK;obtain⟨xs,x,y,hx⟩:=hg;obtain⟨n,rv,p,hz⟩:=I.tuple y;obtain⟨u,hu,ru⟩:=rv.get hx;obtain⟨f0,f1,R,f3,f4,f5⟩:=A j ∅;refine wpAny_pyNext_tuple_item st (show f.heap.IsTuple a n.toArray from p) (x:=u) (by simpa using hu) λQ w sb=>?_;have I1:Õ X f' σ H {f with heap:=Q}:=I.turned (t':=f.toks) (λb o m e=>(sb.2 b m).trans e) f0 f1 f3 f4 f5;obtain⟨o,e,c,d⟩:=id w;exact⟨u,rfl,CU (f:={f with heap:=Q}) e c d #v[] ⟨x,H,I1,ru,⟨rfl,λys hy=>by rw[I.tuple_inj hy y];exact hx⟩,w,λb m=>(A b m).1⟩⟩
 done:=by intro X hP hw hK hc i f' f σ H E I A st hg;subst hP hw hK;obtain⟨xs,y,hx⟩:=hg;obtain⟨n,rv,p,hz⟩:=I.tuple y;obtain⟨f0,f1,R,f3,f4,f5⟩:=A j ∅;have hl:=rv.length;exact wpAny_pyNext_tuple_end (I.ok.hd hc) st (show f.heap.IsTuple a n.toArray from p) (by simp;omega) λQ eb=>⟨rfl,I.turned (t':=f.toks) (λb o m e=>eb b o m e) f0 f1 f3 f4 f5⟩
 self:=λ_ _ _ _ _ st h=>wpAny_pyIter_tupleiter st h
def w9(d:O)(m:Int)(n:Nat):yM s r q g (Itr m n) [d] d (λi h=>IsRangeIter h d (m+(i:Nat)*1) ((n:Int)-(i:Nat)) 1)where
 mem:=by simp
 obj:=λi h st b f=>by
  have e:b=d:=by simpa using f
  subst e;exact⟨_,st,λv z=>by have z':W3 _=Data.cell v:=z;cases z'⟩
 keep:=λi h u st k=>k d ∅ _ st;item:=by intro X Q w hK A i f' a σ H E I p st y;subst Q w hK;obtain⟨f0,f1,R,f3,f4,f5⟩:=p d ∅;have W:=Walks.range (prog:=X.prog) (w:=X.w) (I.ok.hd A) d m 1 n;refine W.item i a _ _ y st λv u tk hv j kk=>?_;obtain⟨t,rfl⟩:=hv;have I1:Õ X f' σ H {a with heap:=u,toks:=tk}:=I.turned (λb o f e=>kk b o (by simpa using f) e) f0 f1 f3 f4 f5;refine⟨_,rfl,CU (f:={a with heap:=u,toks:=tk}) (n:="range_iterator") j rfl rfl #v[] ⟨.int (m+i),H,I1,⟨t,?_⟩,⟨rfl,rfl⟩,j,λb f=>(p b f).1⟩⟩;rw[Int.mul_one]
 done:=by intro X Q w hK A i f' a σ H E I p st y;subst Q w hK;obtain⟨f0,f1,R,f3,f4,f5⟩:=p d ∅;exact wpAny_pyNext_range_end (I.ok.hd A) st (by have:n<=i:=y;omega) λu eb=>⟨rfl,I.turned (t':=a.toks) (λb o f e=>eb b o f e) f0 f1 f3 f4 f5⟩
 self:=λ_ _ _ _ _ st h=>wpAny_pyIter_rangeiter st h
def Vb(K:d_)(f:TE):TI:=λd H R=>f d H λx b=>∃a,x=.ref a/\(∃e,Ā K b a e)/\R (Itt K a) b
def LP(u:PE a y Φ):PI a g y (Vb a.K Φ):=by
 intro z s k H R I h;refine ê (u z s k H _ I h) λv f⟨x,A,i,m,n⟩=>?_;obtain⟨d,e,⟨E,r⟩,q⟩:=n;subst e;cases m;obtain⟨j,Q,p,hz⟩:=i.tuple r;refine Zi (show f.heap.IsTuple d j.toArray from p) ?_;refine⟨f.heap.objs.size,[f.heap.objs.size],_,_,A,rfl,i.kept (t':=f.toks) λb o e=>l_ _ e,oJ d _,⟨_,xy _ rfl,rfl,rfl⟩,λb w=>?_,q⟩;have e:b=f.heap.objs.size:=by simpa using w
 subst e;exact i.fpOk (rl _) (i.hok.fresh (rl _))
variable{m Ε:Int}
def vG{R:It->Hp->Prop}{t u v:Tok}(I:Õ a ε Ψ h f)(r:-(2^62)<=m)(p:m<2^62)(n:-(2^62)<=Ε)(k:Ε<2^62)(q:R (Itr m (Ε-m).toNat) h):w_ (D_ a.prog a.w) a.A (pyIter (.ref f.heap.objs.size)) (PIE a ε Ψ g R) χ {f with heap:=f.heap.push {cls:=.type "range",data:=.fields #[.int m t,.int Ε u,.int 1 v]},toks:=b}:=by
 refine wpAny_pyIter_range (IsRange.new ..) (small_one r p n k) ?_;have i:Õ a ε Ψ h {f with heap:=f.heap.push {cls:=.type "range",data:=.fields #[.int m t,.int Ε u,.int 1 v]},toks:=b}:=I.kept λd o e=>l_ _ e;refine⟨(f.heap.push {cls:=.type "range",data:=.fields #[.int m t,.int Ε u,.int 1 v]}).objs.size,[(f.heap.push {cls:=.type "range",data:=.fields #[.int m t,.int Ε u,.int 1 v]}).objs.size],_,_,h,rfl,i.kept (t':=b) λd o e=>l_ _ e,w9 _ m (Ε-m).toNat,?_,λd j=>?_,q⟩
 · have w:m+((0:Nat):Int)*1=m:=by simp
   have s:(((Ε-m).toNat:Nat):Int)-((0:Nat):Int)=Builtin.Range.rangeSize m Ε 1:=by rw[rangeSize_one];split<;>omega
   show IsRangeIter _ _ (m+((0:Nat):Int)*1) ((((Ε-m).toNat:Nat):Int)-((0:Nat):Int)) 1;rw[w,s];exact xy _ rfl
 · have e:d=(f.heap.push {cls:=.type "range",data:=.fields #[.int m t,.int Ε u,.int 1 v]}).objs.size:=by simpa using j
   subst e;exact i.fpOk (rl _) (i.hok.fresh (rl _))
def Rk(d:TA):TI:=λa H R=>d a H λb e=>∃j:Int,b=[.int j]/\-(2^62)<=j/\j<2^62/\R (Itr 0 j.toNat) e
def Rl(d:TA):TI:=λa H R=>d a H λb e=>∃i j:Int,b=[.int i,.int j]/\(-(2^62)<=i/\i<2^62/\-(2^62)<=j/\j<2^62)/\R (Itr i (j-i).toNat) e
def rO{d:TA}(u:Gl a "range")(p:a.mg "range"=U)(v:PA a [y] d)(n:j_ [y] a.env=[(D,eval y a.env)]:=by rfl):PI a g (.Call (.Name "range" o) [y] [] w) (Rk d):=by intro z s f H R I h;refine Call_ (j3 I u p boot_range (W1 (ê (v w z s f H _ I h) λus Q⟨E,H1,A,k,b⟩=>?_) n rfl));obtain⟨j,e,b,m,q⟩:=b;subst e;cases k with|cons r i=>cases i;obtain⟨t,rfl⟩:=r;exact call_range_1 (vG A () () b m (by simpa using q))
def yO{k:TA}(Q:Gl a "range")(E:a.mg "range"=U)(ha:PA a [y,Ê] k)(A:j_ [y,Ê] a.env=[(D,eval y a.env),(D,eval Ê a.env)]:=by rfl)(b:j_ [Ê] a.env=[(D,eval Ê a.env)]:=by rfl):PI a g (.Call (.Name "range" o) [y,Ê] [] w) (Rl k):=by intro f' s m H R I h;refine Call_ (j3 I Q E boot_range (W1 (ê (ha w f' s m H _ I h) λus s1⟨vs,H1,I1,n,f⟩=>?_) (by rw[A,b]) (by rw[b];rfl)));obtain⟨i,j,e,⟨f,z,v,u⟩,q⟩:=f;subst e;cases n with|cons r d=>cases d with|cons p d=>cases d;obtain⟨t,rfl⟩:=r;obtain⟨t',rfl⟩:=p;exact call_range_2 (vG I1 f z v u q)
def Vc(j:TI)(g:TG)(k:TS):TS:=λa b H=>j b H λJ o=>∃W:Nat->Nat->St->Hp->Prop,(∃m,W 0 m b o)/\∀i m b H,W i m b H->(J.stop i H/\a.nx b H)\/(J.go i H/\∃N:St->Hp->Prop,(∀e d,N e d->∃h,h<m/\W (i+1) h e d)/\∀x d,J.yld i H x d->g x b d λf n=>k {a with nx:=N,ct:=N,bk:=a.nx} f n)
def gl(a:O%0)(h:O_):(O×Obj)%0:=a.filterMap λb=>(h.get? b).map λo=>(b,o)
def fF(b:e∈υ)(a:Q.get? e=Z Å):(e,Å)∈gl υ Q:=aaS.mpr ⟨e,b,by rw[a];rfl⟩
def mH{p:O×Obj}(a:p∈gl υ Q):p.1∈υ/\Q.get? p.1=Z p.2:=by obtain⟨b,d,e⟩:=aaS.mp a;cases q:Q.get? b with|none=>rw[q]at e;cases e|some o=>rw[q]at e;have f:(b,o)=p:=Wj e;subst f;exact⟨d,q⟩
def Õ.pinned{fp:O%0}(I:Õ a ε Ψ h f)(m:∀b∈fp,um a ε h b)(k:∀b∈fp,∃o,f.heap.get? b=Z o/\∀v,o.data≠.cell v):Õ a (ε++gl fp f.heap) Ψ h f:=I.pins_of λp j=>(V8.mp j).elim (λz=>I.pin p (on _ z)) λz=>by obtain⟨g,e⟩:=mH z;obtain⟨n,f1,R,_⟩:=m p.1 g;obtain⟨o,i,d⟩:=k p.1 g;rw[e]at i;cases i;exact⟨e,n,f1,R,d⟩
def Õ.unpinned{b:(O×Obj)%0}(I:Õ a (ε++b) Ψ h f):Õ a ε Ψ h f:=I.pins_of λp d=>I.pin p (on _ (P_ _ d))
def rP{wi:TI}{k:TG}{tb:TS}(hp:YK (D_ a.prog a.w) a.A a.env a.xe)(hc:a.calm=L)(hi:PI a g y wi)(hg:PG a g k)(w:ŋ a À tb)(hs:∀x,Wd y a.env x=pure x:=by intro _;rfl):PS a (.For g y À [] o) (Vc wi k tb):=by
 intro f' s σ H p I h;refine wpAny_For (ê (hi f' s σ H _ I h) λv s1 h1=>ê h1 λl' s2 h2=>?_) hs;obtain⟨it,fp,tn,J,H2,e,I2,T,h',R,W,⟨m0,w0⟩,turn⟩:=h2;subst e;have a':∀{H':Hp},(∀b∈fp,H' b=U)->∀b∈fp,um a f' H' b:=λhn b w=>⟨hn b w,(R b w).2⟩;refine codeAny_forLoop_any (λn s'=>∃i Q H',Õ a f' Q H' s'/\tn i s'.heap/\(∀b∈fp,H' b=U)/\W i n Q H') ?_ m0 ⟨0,σ,H2,I2,h',λb w=>(R b w).1,w0⟩;rintro n s3⟨i,E,H3,I3,c',d',w3⟩;rcases turn i n E H3 w3 with⟨e',qn⟩|⟨go,N,hN,step⟩;·refine Zc hp (ê (T.done a rfl rfl rfl hc i f' s3 E H3 a.xe I3 (a' d') c' e') λr s4⟨hr,I4⟩=>?_);subst hr;exact abO ⟨E,H3,I4,qn⟩
 · refine Zc hp (ê (T.item a rfl rfl rfl hc i f' s3 E H3 a.xe I3 (a' d') c' go) λr s4⟨u,hr,h4⟩=>?_);subst hr;refine Zc hp (ê h4 λ_ s5⟨x,H5,I5,r5,y5,b',i'⟩=>?_);have k':=I5.pinned (a' i') (T.obj _ _ b');refine Zc hp (ê (hg _ s5 E H5 x u _ k' r5 (step x H5 y5)) λ_ s6⟨g',H6,I6,q6⟩=>?_);refine Zc hp (ê (w _ s6 g' H6 _ I6 q6) λf s7 q7=>?_);have again:∀{q:St}{A:Hp},Õ a (f'++gl fp s5.heap) q A s7->N q A->∃m,m<n/\∃i Q H',Õ a f' Q H' s7/\tn i s7.heap/\(∀b∈fp,H' b=U)/\W i m Q H':=λ{q A}z n7=>by obtain⟨m',hm,w7⟩:=hN q A n7;refine⟨m',hm,i+1,q,A,z.unpinned,T.keep _ _ _ b' λb w j e=>(z.pin (b,j) (on _ (on _ (fF w e)))).1,λb w=>?_,w7⟩;obtain⟨j,e,d⟩:=T.obj _ _ b' b w;exact(z.pin (b,j) (on _ (on _ (fF w e)))).2.1
   cases f with|next=>obtain⟨q,A,z,n7⟩:=q7;exact again z n7|cont=>obtain⟨q,A,z,n7⟩:=q7;exact again z n7|brk=>obtain⟨q,A,z,q7⟩:=q7;exact⟨q,A,z.unpinned,q7⟩|ret v=>obtain⟨x7,q,A,z,r7,q7⟩:=q7;exact⟨x7,q,A,z.unpinned,r7,q7⟩
abbrev R2:=V->V->Hp->VK->Prop
def ă(X:C)(f:B->B->Sem B)(r:R2):Prop:=∀(b:(O×Obj)%0)(s:h_)(a:St)(H:Hp)(x y:V)(v u:B)(Q:VK),Õ X b a H s->â x v->â y u->r x y H Q->w_ (D_ X.prog X.w) X.A (f v u) (EP X b a Q) X.xe s
def UnR(X:C)(f:B->Sem B)(r:V->Hp->VK->Prop):Prop:=∀(b:(O×Obj)%0)(s:h_)(a:St)(H:Hp)(x:V)(v:B)(Q:VK),Õ X b a H s->â x v->r x H Q->w_ (D_ X.prog X.w) X.A (f v) (EP X b a Q) X.xe s
def l4(X:C)(f:B)(r:V%0->Hp->VK->Prop):Prop:=∀(d:(O×Obj)%0)(s:h_)(a:St)(H:Hp)(b:V%0)(us:B%0)(Q:VK),Õ X d a H s->Ú b us->r b H Q->w_ (D_ X.prog X.w) X.A (call f us) (EP X d a Q) X.xe s
def tOp(r:R2)(d b:TE):TE:=λa H Q=>d a H λx f=>b a f λy e=>r x y e Q
def tUn(r:V->Hp->VK->Prop)(b:TE):TE:=λa H Q=>b a H λx d=>r x d Q
def rI(C:Int->Int->Prop)(g:Int->Int->V):R2:=λx y H Q=>∃i j,x=.int i/\y=.int j/\C i j/\Q (g i j) H
def ű(g:Int->Int->V):R2:=λx y H Q=>∃i j,x=.int i/\y=.int j/\Q (g i j) H
def rU(g:Int->V):V->Hp->VK->Prop:=λx H Q=>∃i,x=.int i/\Q (g i) H
def Rm{o:TE}(ha:PE a g Φ)(E:PE a y o){m:(O×Obj)%0}{s:h_}{d:St}{H:Hp}{R:V->V->Hp->Prop}(I:Õ a m d H s)(h:Φ d H λx n=>o d n λb e=>R x b e){Q:B->h_->Prop}{f:B->B->Sem B}(A:∀v u k x b e,Õ a m d e k->â x v->â b u->R x b e->w_ (D_ a.prog a.w) a.A (f v u) Q a.xe k):w_ (D_ a.prog a.w) a.A (eval g a.env) (λv j=>w_ (D_ a.prog a.w) a.A (eval y a.env) (λu i=>w_ (D_ a.prog a.w) a.A (f v u) Q a.xe i) a.xe j) a.xe s:=by refine ê (ha m s d H _ I h) λv p⟨x,n,I1,r,z⟩=>?_;refine ê (E m p d n _ I1 z) λu k⟨b,e,I2,q,w⟩=>?_;exact A v u k x b e I2 r q w
def LQ{d:TE}{e:Operator}{r:R2}(m:ă a (Xn e) r)(p:PE a g Φ)(n:PE a y d):PE a (.BinOp g e y o) (tOp r Φ d):=by intro w s f H Q I h;exact wpAny_BinOp (Rm p n I h λv u i x b A z k j q=>m w i f A x b v u Q z k j q)
def Rn{d:UnaryOp}{r:V->Hp->VK->Prop}(k:UnR a (unaryOp d) r)(m:PE a g Φ):PE a (.UnaryOp d g o) (tUn r Φ):=by intro e s b H Q I h;exact UnaryOp_ (ê (m e s b H _ I h) λv f⟨x,p,n,i,j⟩=>k e f b p x v Q n i j)
def opI{f:B->B->Sem B}{b:Int->Int->Prop}{g:Int->Int->Int}(d:∀(i j:Int)(t u:Tok)(s:h_)(Q:B->h_->Prop)(E:B->h_->Prop),b i j->Q (.int (g i j) s.toks) {s with toks:=s.toks+1}->w_ (D_ a.prog a.w) a.A (f (.int i t) (.int j u)) Q E s):ă a f (rI b λi j=>.int (g i j)):=by intro p s o H x y v u Q I m k h;obtain⟨i,j,rfl,rfl,n,q⟩:=h;obtain⟨t,rfl⟩:=m;obtain⟨e,rfl⟩:=k;exact d i j t e s _ _ n ⟨.int (g i j),H,I.tok _,⟨_,rfl⟩,q⟩
def Uc{f:B->B->Sem B}{g:Int->Int->Int}(b:∀(i j:Int)(t u:Tok)(s:h_)(Q:B->h_->Prop)(E:B->h_->Prop),Q (.int (g i j) s.toks) {s with toks:=s.toks+1}->w_ (D_ a.prog a.w) a.A (f (.int i t) (.int j u)) Q E s):ă a f (ű λi j=>.int (g i j)):=by intro n s m H x y v u Q I k e h;obtain⟨i,j,rfl,rfl,q⟩:=h;obtain⟨t,rfl⟩:=k;obtain⟨d,rfl⟩:=e;exact b i j t d s _ _ ⟨.int (g i j),H,I.tok _,⟨_,rfl⟩,q⟩
def Ro{f:B->B->Sem B}{g:Int->Int->Bool}(b:∀(i j:Int)(t u:Tok)(s:h_)(Q:B->h_->Prop)(E:B->h_->Prop),Q (.bool (g i j)) s->w_ (D_ a.prog a.w) a.A (f (.int i t) (.int j u)) Q E s):ă a f (ű λi j=>.bl (g i j)):=by intro n s m H x y v u Q I k e h;obtain⟨i,j,rfl,rfl,q⟩:=h;obtain⟨t,rfl⟩:=k;obtain⟨d,rfl⟩:=e;exact b i j t d s _ _ ⟨.bl (g i j),H,I,rfl,q⟩
def Ud(i j:Int):Prop:=0<j/\j<1073741824
def ŝ(i j:Int):Prop:=(-(2^64)<i/\i<2^64)\/(-(2^64)<j/\j<2^64)
def ŝ.ok(h:ŝ m Ε):IntMulOk m Ε:=by
 rcases h with⟨b,a⟩|⟨b,a⟩;·exact .of_left (intBits_le_64 b a)
 ·exact .of_right (intBits_le_64 b a)
def op_add:ă a (Xn .Add) (ű λi j=>.int (i+j)):=Uc λ_ _ _ _ _ _ _ q=>add_int q
def LR:ă a (Xn .Sub) (ű λi j=>.int (i-j)):=Uc λ_ _ _ _ _ _ _ q=>sub_int q
def FQ:ă a (Xn .Mult) (rI ŝ λi j=>.int (i*j)):=opI λ_ _ _ _ _ _ _ b q=>mul_int q b.ok
def Hj:ă a (Xn .FloorDiv) (rI Ud λi j=>.int (i/j)):=opI λi j _ _ _ _ _ b q=>by have e:(0:Int)<j:=b.1;have d:j<1073741824:=b.2;exact floordiv_int () (by rw[Int.fdiv_eq_ediv_of_nonneg i ()];exact q) (.inl (PyProof.noPylong_small ()))
def LS:ă a (Xn .Mod) (rI (λ_ j=>0<j) λi j=>.int (i%j)):=opI λi j _ _ _ _ _ b q=>by have d:(0:Int)<j:=b;exact mod_int' () (by rw[Int.fmod_eq_emod_of_nonneg i ()];exact q)
def unI{f:B->Sem B}{g:Int->Int}(b:∀(i:Int)(t:Tok)(s:h_)(Q:B->h_->Prop)(E:B->h_->Prop),Q (.int (g i) s.toks) {s with toks:=s.toks+1}->w_ (D_ a.prog a.w) a.A (f (.int i t)) Q E s):UnR a f (rU λi=>.int (g i)):=by intro j s e H x v Q I d h;obtain⟨i,rfl,q⟩:=h;obtain⟨t,rfl⟩:=d;exact b i t s _ _ ⟨.int (g i),H,I.tok _,⟨_,rfl⟩,q⟩
def LU:UnR a (unaryOp .USub) (rU λi=>.int (-i)):=unI λ_ _ _ _ _ q=>neg_int q
def Rp:V->V->Bool|.non,.non=>L|.non,.int _=>L|.int _,.non=>L|.non,.bl _=>L|.bl _,.non=>L|.non,.str _=>L|.str _,.non=>L|.int _,.int _=>L|.bl _,.bl _=>L|.str _,.str _=>L|.byt _,.byt _=>L|.int _,.str _=>L|.str _,.int _=>L|.bl _,.str _=>L|.str _,.bl _=>L|_,_=>D
def rEq:R2:=λx y H Q=>Rp x y=L/\Q (.bl (o_ (x=y))) H
def rNe:R2:=λx y H Q=>Rp x y=L/\Q (.bl (!o_ (x=y))) H
def uy:o_ (V.int m=V.int Ε)=(m==Ε):=by rw[Xf];simp
variable{δ È:Bool}
def yQ:o_ (V.bl δ=V.bl È)=(δ==È):=by rw[Xf];simp
variable{p:Str}
def uz:o_ (V.str d=V.str p)=(d==p):=by rw[Xf];simp
def yR{i j:Array UInt8}:o_ (V.byt i=V.byt j)=(i.toList==j.toList):=by rw[Xf];cases i;cases j;simp
variable{Ò:VK}
def bF(I:Õ a ε Ψ h f)(q:Ò (.bl δ) h)(e:δ=È):EP a ε Ψ Ò (.bool È) f:=by subst e;exact⟨.bl δ,h,I,rfl,q⟩
def op_eq:ă a (Wh .Eq) rEq:=by intro k s g H x y v u Q I f b h;obtain⟨e,q⟩:=h;cases x with
 |non=>cases f;cases y with|non=>cases b;exact PySem.EqNone.eq_none_none (bF I q ∅)|bl j=>cases b;exact PySem.EqNone.eq_none_bool (bF I q ∅)|int j=>obtain⟨d,rfl⟩:=b;exact PySem.EqNone.eq_none_int (bF I q ∅)|str j=>obtain⟨d,rfl⟩:=b;exact PySem.EqNone.eq_none_str (bF I q ∅)|_=>exact absurd (show D=L from e) q_
 |bl i=>cases f;cases y with|non=>cases b;exact PySem.EqNone.eq_bool_none (bF I q ∅)|bl j=>cases b;exact eq_bool (bF I q yQ)|str j=>obtain⟨d,rfl⟩:=b;exact PySem.EqMixed.eq_bool_str (bF I q ∅)|_=>exact absurd (show D=L from e) q_
 |int i=>obtain⟨t,rfl⟩:=f;cases y with|non=>cases b;exact PySem.EqNone.eq_int_none (bF I q ∅)|int j=>obtain⟨d,rfl⟩:=b;exact eq_int (bF I q uy)|str j=>obtain⟨d,rfl⟩:=b;exact PySem.EqMixed.eq_int_str (bF I q ∅)|_=>exact absurd (show D=L from e) q_
 |str i=>obtain⟨t,rfl⟩:=f;cases y with|non=>cases b;exact PySem.EqNone.eq_str_none (bF I q ∅)|bl j=>cases b;exact PySem.EqMixed.eq_str_bool (bF I q ∅)|int j=>obtain⟨d,rfl⟩:=b;exact PySem.EqMixed.eq_str_int (bF I q ∅)|str j=>obtain⟨d,rfl⟩:=b;exact eq_str (bF I q uz)|_=>exact absurd (show D=L from e) q_
 |byt i=>obtain⟨t,rfl⟩:=f;cases y with|byt j=>obtain⟨d,rfl⟩:=b;exact PySem.W.eq_bytes (bF I q yR)|_=>exact absurd (show D=L from e) q_
 |_=>cases y<;>exact absurd (show D=L from e) q_
def op_ne:ă a (Wh .NotEq) rNe:=by intro k s g H x y v u Q I f b h;obtain⟨e,q⟩:=h;cases x with
 |non=>cases f;cases y with|non=>cases b;exact PySem.EqNone.ne_none_none (bF I q ∅)|bl j=>cases b;exact PySem.EqNone.ne_none_bool (bF I q ∅)|int j=>obtain⟨d,rfl⟩:=b;exact PySem.EqNone.ne_none_int (bF I q ∅)|str j=>obtain⟨d,rfl⟩:=b;exact PySem.EqNone.ne_none_str (bF I q ∅)|_=>exact absurd (show D=L from e) q_
 |bl i=>cases f;cases y with|non=>cases b;exact PySem.EqNone.ne_bool_none (bF I q ∅)|bl j=>cases b;exact ne_bool (bF I q (congrArg not yQ))|str j=>obtain⟨d,rfl⟩:=b;exact PySem.EqMixed.ne_bool_str (bF I q ∅)|_=>exact absurd (show D=L from e) q_
 |int i=>obtain⟨t,rfl⟩:=f;cases y with|non=>cases b;exact PySem.EqNone.ne_int_none (bF I q ∅)|int j=>obtain⟨d,rfl⟩:=b;exact ne_int (bF I q (congrArg not uy))|str j=>obtain⟨d,rfl⟩:=b;exact PySem.EqMixed.ne_int_str (bF I q ∅)|_=>exact absurd (show D=L from e) q_
 |str i=>obtain⟨t,rfl⟩:=f;cases y with|non=>cases b;exact PySem.EqNone.ne_str_none (bF I q ∅)|bl j=>cases b;exact PySem.EqMixed.ne_str_bool (bF I q ∅)|int j=>obtain⟨d,rfl⟩:=b;exact PySem.EqMixed.ne_str_int (bF I q ∅)|str j=>obtain⟨d,rfl⟩:=b;exact ne_str (bF I q (congrArg not uz))|_=>exact absurd (show D=L from e) q_
 |byt i=>obtain⟨t,rfl⟩:=f;cases y with|byt j=>obtain⟨d,rfl⟩:=b;exact PySem.W.ne_bytes (bF I q (congrArg not yR))|_=>exact absurd (show D=L from e) q_
 |_=>cases y<;>exact absurd (show D=L from e) q_
def op_lt:ă a (Wh .Lt) (ű λi j=>.bl (o_ (i<j))):=Ro λ_ _ _ _ _ _ _ q=>lt_int q
def op_le:ă a (Wh .LtE) (ű λi j=>.bl (o_ (i<=j))):=Ro λ_ _ _ _ _ _ _ q=>le_int q
def LV:ă a (Wh .Gt) (ű λi j=>.bl (o_ (j<i))):=Ro λ_ _ _ _ _ _ _ q=>gt_int q
def yS:ă a (Wh .Lt) (λx y H Q=>∃i j,x=.str i/\y=.str j/\Q (.bl (o_ (i.cps.toList<j.cps.toList))) H):=by intro g s e H x y v u Q I d b h;obtain⟨i,j,rfl,rfl,q⟩:=h;obtain⟨t,rfl⟩:=d;obtain⟨f,rfl⟩:=b;exact lt_str (bF I q rfl)
def op_in_str:ă a (Wh .In) (λx y H Q=>∃i j,x=.str i/\y=.str j/\Q (.bl (!(Wq j i 0 j.length 1).isEmpty)) H):=by intro g s e H x y v u Q I d b h;obtain⟨i,j,rfl,rfl,q⟩:=h;obtain⟨t,rfl⟩:=d;obtain⟨f,rfl⟩:=b;exact in_str (bF I q rfl)
def FU:ă a (Wh .Is) (λx y H Q=>y=.non/\Q (.bl (o_ (x=.non))) H):=by intro f s e H x y v u Q I b d h;obtain⟨rfl,q⟩:=h;cases d;refine is_none_gen (bF I q ?_);cases x<;>first|(cases b;rfl)|(obtain⟨t,rfl⟩:=b;rfl)
def yT:ă a (Wh .IsNot) (λx y H Q=>y=.non/\Q (.bl (!o_ (x=.non))) H):=by intro f s e H x y v u Q I b d h;obtain⟨rfl,q⟩:=h;cases d;refine isnot_none_gen (bF I q ?_);cases x<;>first|(cases b;rfl)|(obtain⟨t,rfl⟩:=b;rfl)
def ă.or{f:B->B->Sem B}{r g:R2}(h:ă a f r)(j:ă a f g):ă a f (λx y H Q=>r x y H Q\/g x y H Q):=by
 intro i s b H x y v u Q I e d q;rcases q with q|q;·exact h i s b H x y v u Q I e d q
 ·exact j i s b H x y v u Q I e d q
def Ue(b:t_){a:adz}(h:a≠.In:=by decide)(d:a≠.NotIn:=by decide):Wc a b=D:=by
 have f:(a==CmpOp.In)=D:=by cases a<;>first|rfl|exact absurd rfl h
 have e:(a==CmpOp.NotIn)=D:=by cases a<;>first|rfl|exact absurd rfl d
 cases b<;>simp[Wc,f,e]
def Hk{e:TE}{d:adz}{r:R2}(m:ă a (Wh d) r)(w:PE a g Φ)(p:PE a y e)(n:Wc d y=D):PE a (.Compare g [d] [y] o) (tOp r Φ e):=by intro z s f H Q I h;exact wpAny_Compare1 (Rm w p I h λv u i x b E A k j q=>m z i f E x b v u Q A k j q) n
def LW(t:TE):TT:=λa H Q=>t a H λx b=>∃k,x=.bl k/\Q k b
def yU{j:TE}{f:adz}{r:R2}(ho:ă a (Wh f) r)(ha:PE a g Φ)(hb:PE a y j)(hm:Wc f y=D):PT a (.Compare g [f] [y] o) (LW (tOp r Φ j)):=by intro i s d H Q I h;refine wpAny_isTrue_Compare1 (ê (ha i s d H _ I h) λv n⟨x,H1,I1,w,q1⟩=>ê (hb i n d H1 _ I1 q1) λu m⟨b,H2,I2,q,E⟩=>ê (ho i m d H2 x b v u _ I2 w q E) λc s3⟨z,H3,I3,p,k,e,A⟩=>?_) hm;subst e;cases p;exact WZ ⟨H3,I3,A⟩
def yV(r h:R2)(g f e:TE):TE:=λa H Q=>g a H λx m=>f a m λy j=>r x y j λz b=>∃k,z=.bl k/\(if k=L then e a b λd i=>h y d i Q else Q (.bl D) b)
def CV{q p:TE}{m f:adz}{r A:R2}(ho:ă a (Wh m) r)(n:ă a (Wh f) A)(ha:PE a g Φ)(hb:PE a y q)(hc:PE a Ê p)(hm:lastMarks [m,f] [y,Ê]=D:=by with_unfolding_all rfl):PT a (.Compare g [m,f] [y,Ê] o) (LW (yV r A Φ q p)):=by intro j s i H Q I h;refine isTrue_chain (ê (ha j s i H _ I h) λv s1⟨x,H1,I1,r1,q1⟩=>test_link (ê (hb j s1 i H1 _ I1 q1) λu s2⟨b,H2,I2,w,q2⟩=>ê (ho j s2 i H2 x b v u _ I2 r1 w q2) λd s3⟨z,H3,I3,r3,k,e,E⟩=>?_)) hm;subst e;cases r3;refine WZ ?_;cases k with|false=>obtain⟨k',e',q'⟩:=E;cases e';exact ite_ff ⟨H3,I3,q'⟩|true=>refine ite_tt (test_last (ê (hc j s3 i H3 _ I3 E) λw' s4⟨z',H4,I4,r4,q4⟩=>ê (n j s4 i H4 b z' u w' _ I4 w r4 q4) λd' s5⟨z2,H5,I5,r5,k2,e2,q5⟩=>?_));subst e2;cases r5;exact WZ ⟨H5,I5,q5⟩
def rQ:(sizeLine:Nat)<2^63:=by rw[Zq];decide
def op_add_str:ă a (Xn .Add) (λx y H Q=>∃i j,x=.str i/\y=.str j/\i.length+j.length<=sizeLine/\Q (.str (i++j)) H):=by intro m s g H x y v u Q I e d h;obtain⟨i,j,rfl,rfl,f,q⟩:=h;obtain⟨t,rfl⟩:=e;obtain⟨b,rfl⟩:=d;exact add_str (λb k=>⟨.str (i++j),H,I.tok _,⟨_,rfl⟩,q⟩) f
def iP(r:Ú [ψ] ξ):∃u,ξ=[u]/\â ψ u:=by cases r with|cons b a=>cases a;exact⟨_,rfl,b⟩
def CW{y:V}(r:Ú [ψ,y] ξ):∃u a,ξ=[u,a]/\â ψ u/\â y a:=by cases r with|cons f e=>cases e with|cons d b=>cases b;exact⟨_,_,rfl,f,d⟩
def yW(e:a.calm=L):l4 a (.builtin "max") (λd H Q=>∃i j,d=[.int i,.int j]/\Q (.int (if j>i then j else i)) H):=by
 intro p s f H d us Q I r h;obtain⟨i,j,rfl,q⟩:=h;obtain⟨u,g,rfl,⟨t,rfl⟩,⟨n,rfl⟩⟩:=CW r;refine max_two_ints (I.ok.hd e) λo m k=>⟨_,H,I.kept k,?_,q⟩;by_cases b:j>i;·rw[if_pos b,if_pos b];exact⟨_,rfl⟩
 ·rw[if_neg b,if_neg b];exact⟨_,rfl⟩
def yX(e:a.calm=L):l4 a (.builtin "min") (λd H Q=>∃i j,d=[.int i,.int j]/\Q (.int (if j<i then j else i)) H):=by
 intro p s f H d us Q I r h;obtain⟨i,j,rfl,q⟩:=h;obtain⟨u,g,rfl,⟨t,rfl⟩,⟨n,rfl⟩⟩:=CW r;refine min_two_ints (I.ok.hd e) λo m k=>⟨_,H,I.kept k,?_,q⟩;by_cases b:j<i;·rw[if_pos b,if_pos b];exact⟨_,rfl⟩
 ·rw[if_neg b,if_neg b];exact⟨_,rfl⟩
def Vd(K:d_)(x:V)(H:Hp)(n:Nat):Prop:=match x with|.str y=>y.length<=sizeLine/\n=y.length|.byt y=>y.size<=sizeLine/\n=y.size|.ref p=>(∃a,č K H p a/\n=a.length)\/∃a,Ā K H p a/\n=a.length|_=>False
def CY:l4 a (.builtin "len") (λb H Q=>∃x n,b=[x]/\Vd a.K x H n/\Q (.int n) H):=by intro A s v H b us Q I r h;obtain⟨x,n,rfl,e,q⟩:=h;obtain⟨u,rfl,g⟩:=iP r;have z:=rQ;have w:sizeLine=16777216:=Zq;cases x with
 |str y=>obtain⟨t,rfl⟩:=g;obtain⟨o,f⟩:y.length<=sizeLine/\n=y.length:=e;subst f;exact len_str () ⟨.int _,H,I.tok _,⟨_,rfl⟩,q⟩|byt y=>obtain⟨t,rfl⟩:=g;obtain⟨o,f⟩:y.size<=sizeLine/\n=y.size:=e;subst f;exact PySem.W.len_bytes () ⟨.int _,H,I.tok _,⟨_,rfl⟩,q⟩|ref p=>
 cases g;have f:(∃b,č a.K H p b/\n=b.length)\/∃b,Ā a.K H p b/\n=b.length:=e;rcases f with⟨b,j,f⟩|⟨b,j,f⟩;·subst f;obtain⟨k,i,pl,m⟩:=I.list j;have d:=i.length;exact Calls.call_len_list pl.isList (by simp![H_];omega) ⟨.int b.length,H,I.tok _,⟨_,by simp![H_];rw[d]⟩,q⟩
 ·subst f;obtain⟨k,i,pl,m⟩:=I.tuple j;have d:=i.length;exact len_tuple pl (by simp![H_];omega) ⟨.int b.length,H,I.tok _,⟨_,by simp![H_];rw[d]⟩,q⟩|_=>exact(show False from e).elim
structure ř(h:O_)(x dx C:O)(mA:Str->B%1):Prop where
 obj:h.get? x=Z (XD C dx)ns:h.Ns1 dx mA
 ne:dx≠x
variable{Ζ:Str->B%1}
def yY(n:Q.Ns1 e Ζ):∃g,Q.get? e=Z g/\∀d,aaH d g=Z (Ζ d):=by
 obtain⟨o,h,s,j,p,m,_,k⟩:=n;refine⟨o,j,λd=>?_⟩;have b:=k d;unfold nsFind findBy at b;rw[<-Array.find?_toList]at b;unfold aaH;rw[p];dsimp!;split;·rename_i y q;rw[q]at b;exact congrArg Z b
 · rename_i q;rw[q]at b;have a:h.toList.any (·.refKey)=D:=by rw[ac7];intro y i;obtain⟨z,t,f⟩:=m y (X8.mp i);simp[DictEntry.refKey,f]
   have r:¬h.toList.any (·.refKey)=L:=by rw[a];exact q_
   rw[if_neg r];exact congrArg Z b
def ř.look{C:O}(I:ř Q e z C Ζ):∃b,PySem.W.InstAt Q e (XD C z) C (Z b)/\∀a,aaH a b=Z (Ζ a):=let⟨b,d,f⟩:=yY I.ns;⟨b,⟨I.obj,rfl,rfl,d⟩,f⟩
def Hl{C:O}(X:q.In f.heap)(a:ř f.heap e z C Ζ)(k:Y0 q C d=L)(j:ZA q C=L)(m:WR q (.ref C) d=Z U)(g:Ζ d=Z Α)(b:adb Α=L)(h:Î Α {f with toks:=f.toks+1}):w_ (D_ s r) I (getAttr (.ref e) d δ) Î χ f:=by obtain⟨n,J,i⟩:=a.look;exact PySem.W.get_value X J (aao k).1 (PySem.W.findObj_own j m rfl (by rw[i,g])) b h
def CZ{C a:O}{i:Sem Bool}{Q:B×B%0->h_->Prop}(X:q.In f.heap)(b:ř f.heap e z C Ζ)(g:Y0 q C d=L)(o:WR q (.ref C) d=Z (Z (.ref a)))(m:abB q (.ref a)=L)(k:Ζ d=U)(h:Q (.ref a,[.ref e]) f):w_ (D_ s r) I (acl (.ref e) d i) Q χ f:=by obtain⟨j,J,n⟩:=b.look;exact PySem.W.method_fn X J (aao g).1 (aao g).2 o (beq_iff_eq.mp m) (by show(aaH d j).map (·.isSome)=Z D;rw[n,k];rfl) h
def Hm{C:O}{Q:Unit->h_->Prop}(X:q.In f.heap)(a:ř f.heap e z C Ζ)(w:WR q (.ref C) "__setattr__"=Z (Z (.builtin "object.__setattr__")))(A:aa0 q C=L)(v:abR q C d=Z U)(E:ZA q C=L)(u:acT Ζ H)(a':H.length<=sizeLine)(h:∀j,ř j e z C (λy=>if y=d then Z Α else Ζ y)->X4 z f.heap j->Q Unit.unit {f with heap:=j,toks:=f.toks+2}):w_ (D_ s r) I (setAttr (.ref e) d Α) Q χ f:=by obtain⟨od,J,hl⟩:=a.look;refine PySem.W.set_plain X J w (PySem.W.osa_open (s:={f with toks:=f.toks+1}) (r:=U) X J A v λb=>?_);obtain⟨cd,hc,n⟩:=PySem.W.any_some E;have p:f.heap.get? e=Z ⟨.ref C,Z z,.plain,#[]⟩:=a.obj;refine e_ (k_ (e_ (e_ (wpAny_loadPart p (e_ (PySem.W.Looks.here (s:={f with toks:=f.toks+1}) (PySem.W.looks_clsIn X hc) ?_))))));rw[n];refine k_ (a:=Z z) (e_ (k_ (e_ ?_)));refine wpAny_nsSet1 (s:={f with toks:=f.toks+1}) a.ns λj i g=>?_;obtain⟨oD,b',c',k,m,o⟩:=i.count (PySem.Within.cons d Α u);refine e_ (wpAny_lookBehind k (by rw[m];exact pastItsLine_dict (Wa o (by rw[Wb];omega))) ?_);exact k_ (h _ ⟨(g.2 _ (WO a.ne)).trans a.obj,i,a.ne⟩ g)
def C7{R:aca->h_->Prop}{b:(Str×B)%0}(X:q.In f.heap)(i:adB q e=L)(j:WR q (.ref e) "__init__"=Z (Z (.ref z)))(k:PySem.W.typeIn q (.ref z)=Z (.type "function"))(h:Yl (D_ s r) (I.under (.builtin "type.__call__" ⟨.ref e::ξ,b⟩)) (.call (.ref z) ⟨.ref (f.heap.objs.size+1)::ξ,b⟩) (PySem.W.InitBack (f.heap.objs.size+1) R) {f with heap:=(f.heap.push W9).push (XD e f.heap.objs.size)}):Yl (D_ s r) I (.call (.ref e) ⟨ξ,b⟩) R f:=by obtain⟨m,g,d,t,os⟩:=f;exact PySem.W.make_core (PySem.W.makes_of X i) (PySem.W.looks_findIn X j) (λa=>PySem.W.bind_fn X a k) (.inl rfl) h
def oK(f:Str)(v:V):(Str×V)%0->(Str×V)%0|[]=>[(f,v)]|(g,x)::r=>if g=f then(g,v)::r else(g,x)::oK f v r
def mI(f g:Str)(v:V):∀fs:(Str×V)%0,(oK f v fs).lookup g=if g=f then Z v else fs.lookup g
 |[]=>by
  show Zu g [(f,v)]=_;by_cases h:g=f;·have a:(g==f)=L:=beq_iff_eq.mpr h;simp![Zu,a,if_pos h]
  ·have a:(g==f)=D:=beq_eq_false_iff_ne.mpr h;simp![Zu,a,if_neg h]|(k,x)::r=>by
  have d:=mI f g v r;rw[show oK f v ((k,x)::r)=(if k=f then(k,v)::r else(k,x)::oK f v r)from rfl];by_cases b:k=f
  · rw[if_pos b];by_cases h:g=k;·have a:(g==k)=L:=beq_iff_eq.mpr h;simp![Zu,a,if_pos (h.trans b)]
    ·have a:(g==k)=D:=beq_eq_false_iff_ne.mpr h;simp![Zu,a,if_neg (λe:g=f=>h (e.trans b.symm))]
  · rw[if_neg b];by_cases h:g=k;·have a:(g==k)=L:=beq_iff_eq.mpr h;simp![Zu,a,if_neg (λe:g=f=>b (h.symm.trans e))]
    ·have a:(g==k)=D:=beq_eq_false_iff_ne.mpr h;simp![Zu,a];exact d
def mJ(f:Str)(v:V):∀fs:(Str×V)%0,f∈(oK f v fs).map (·.1)/\∀g,g∈fs.map (·.1)->g∈(oK f v fs).map (·.1)
 |[]=>⟨by simp[oK],λg h=>by simp at h⟩|(k,x)::r=>by
  obtain⟨b,i2⟩:=mJ f v r;rw[show oK f v ((k,x)::r)=(if k=f then(k,v)::r else(k,x)::oK f v r)from rfl];by_cases a:k=f;·rw[if_pos a];subst a;exact⟨by simp,λg h=>by simpa using h⟩
  · rw[if_neg a];refine⟨?_,λg h=>?_⟩;·rw[G_];exact s_ _ b
    · rw[G_]at h⊢;rcases v_.mp h with e|e;·exact v_.mpr (.inl e)
      ·exact s_ _ (i2 g e)
def mK(f:Str)(v:V):∀fs:(Str×V)%0,(oK f v fs).length<=fs.length+1
 |[]=>by simp[oK]|(k,x)::r=>by
  have b:=mK f v r;rw[show oK f v ((k,x)::r)=(if k=f then(k,v)::r else(k,x)::oK f v r)from rfl];by_cases a:k=f;·rw[if_pos a,Wb,Wb];omega
  ·rw[if_neg a,Wb,Wb];omega
def ę.some_of{o:B%1}(r:ę (Z ψ) o):∃u,o=Z u/\â ψ u:=by cases o with|none=>exact(show False from r).elim|some u=>exact⟨u,rfl,r⟩
def ę.none_of{o:B%1}(r:ę U o):o=U:=by cases o with|none=>rfl|some u=>exact(show False from r).elim
def yZ(r:â ψ Α):adb Α=L:=by cases ψ with|non=>cases(show Α=J_ from r);rfl|bl b=>cases(show Α=T_ b from r);rfl|int i=>obtain⟨t,e⟩:=(show∃t,Α=abk i t from r);cases e;rfl|str x=>obtain⟨t,e⟩:=(show∃t,Α=Yp x t from r);cases e;rfl|byt b=>obtain⟨t,e⟩:=(show∃t,Α=Value.bytes b t from r);cases e;rfl|flt b=>obtain⟨t,e⟩:=(show∃t,Α=ady b t from r);cases e;rfl|ref a=>cases(show Α=C_ a from r);rfl|ty n=>cases(show Α=r_ n from r);rfl
def pS{k:O}{j:(Str×V)%0}(m:ĕ s r h Q)(g:h e=Z (.ins z k j)):∃i,ř Q e k z i/\(∀f,ę (j.lookup f) (i f))/\acT i (j.map (·.1))/\j.length<=1000/\h k=Z (.own e):=by obtain⟨d,a,ne,o,i,n,b,q⟩:=(show í s r h Q e (.ins z k j)from m e _ g);exact⟨i,⟨o,n,ne⟩,b,q,a,d⟩
structure ŷ(K:d_)(C:O):Prop where
 pg:Y0 K C adf=L
 hd:ZA K C=L
 po:aa0 K C=L
 sa:WR K (.ref C) "__setattr__"=Z (Z (.builtin "object.__setattr__"))
def ŷ.get(c:ŷ q e)(f:Str):Y0 q e f=L:=c.pg
def Ĝ(K:d_)(C:O)(f:Str):Prop:=WR K (.ref C) f=Z U
def Ĝ.taker(n:Ĝ q e d):abR q e d=Z U:=by unfold abR;rw[show WR q (.ref e) d=Z U from n];rfl
structure Lf(K:d_)(C:O)(m:Str)(f:O):Prop where
 at_:WR K (.ref C) m=Z (Z (.ref f))fn:abB K (.ref f)=L
 kp:WG K (.ref f)=L
def xf{s:O}{o:(Str×V)%0}(b:Õ a ε Ψ h f)(i:h e=Z (.ins z s o))(c:ŷ a.K z)(n:Ĝ a.K z d)(l:o.lookup d=Z ψ)(g:∀u k,Õ a ε Ψ h k->â ψ u->Î u k):w_ (D_ a.prog a.w) I (getAttr (.ref e) d δ) Î χ f:=by obtain⟨p,j,r,_,_,_⟩:=pS b.hok i;obtain⟨u,q,m⟩:=ę.some_of (ψ:=ψ) (o:=p d) (by rw[<-l];exact r d);exact Hl b.kIn j (c.get d) c.hd n q (yZ m) (g u _ (b.tok _) m)
def oM{s:O}{n:(Str×V)%0}{g:O}{o:Sem Bool}{Q:B×B%0->h_->Prop}(b:Õ a ε Ψ h f)(j:h e=Z (.ins z s n))(c:ŷ a.K z)(k:Lf a.K z d g)(l:n.lookup d=U)(i:Q (.ref g,[.ref e]) f):w_ (D_ a.prog a.w) I (acl (.ref e) d o) Q χ f:=by obtain⟨p,m,r,_,_,_⟩:=pS b.hok j;have q:p d=U:=ę.none_of (by rw[<-l];exact r d);exact CZ b.kIn m (c.get d) k.at_ k.fn q i
def xg{u:O}{s:(Str×V)%0}{Q:Unit->h_->Prop}(k:Õ a ε Ψ h f)(m:h e=Z (.ins z u s))(c:ŷ a.K z)(n:Ĝ a.K z d)(hl:s.length<1000)(ry:â ψ Α)(p:∀y,Õ a ε Ψ (æ h e (.ins z u (oK d ψ s))) y->Q Unit.unit y):w_ (D_ a.prog a.w) I (setAttr (.ref e) d Α) Q χ f:=by
 obtain⟨A,j,r,w,_,E⟩:=pS k.hok m;have hz:(s.map (·.1)).length<=sizeLine:=by rw[S_,Zq];omega
 refine Hm k.kIn j c.sa c.po n.taker c.hd w hz λh' v H=>p _ ?_;have hd:∃o,h'.get? u=Z o:=let⟨o,_,_,e',_⟩:=v.ns;⟨o,e'⟩;refine k.write (x:=e) (e:=u) (by rw[m];exact X9) (.inr E) (λb q hb i=>(H.2 b hb).trans i) hd ?_;refine⟨by rw[ay j.ne];exact E,?_,j.ne,v.obj,_,v.ns,λg=>?_,λg hg=>?_⟩;·have:=mK d ψ s;omega
 · show ę ((oK d ψ s).lookup g) (if g=d then Z Α else A g);rw[mI];by_cases q:g=d;·rw[if_pos q,if_pos q];exact ry
   ·rw[if_neg q,if_neg q];exact r g
 · by_cases q:g=d;·rw[q];exact(mJ d ψ s).1
   ·refine(mJ d ψ s).2 g (w g λi=>hg ?_);show(if g=d then Z Α else A g)=U;rw[if_neg q];exact i
def Õ.made(I:Õ a ε Ψ h f):Õ a ε Ψ (æ (æ h f.heap.objs.size (.own (f.heap.objs.size+1))) (f.heap.objs.size+1) (.ins e f.heap.objs.size [])) {f with heap:=(f.heap.push W9).push (XD e f.heap.objs.size)}:=by
 have g:(f.heap.push W9).get? f.heap.objs.size=Z W9:=xy f.heap rfl;have m:((f.heap.push W9).push (XD e f.heap.objs.size)).get? (f.heap.objs.size+1)=Z (XD e f.heap.objs.size):=by have:=xy (f.heap.push W9) (o:=XD e f.heap.objs.size) rfl;rwa[WB]at this
 have k:(f.heap.push W9).Ns f.heap.objs.size (λ_=>U):=⟨W9,#[],_,g,rfl,(λd j=>absurd j ∅),λ_=>rfl⟩;have n:=I.laid (a:=f.heap.objs.size) (o:=.own (f.heap.objs.size+1)) (h':=f.heap.push W9) (t':=f.toks) (λb u q=>l_ _ q) (rl _) ⟨_,g⟩;refine n.laid (a:=f.heap.objs.size+1) (o:=.ins e f.heap.objs.size []) (t':=f.toks) (λb u q=>l_ _ q) (aaA (WB _ _)) ?_;have ne:f.heap.objs.size≠f.heap.objs.size+1:=V7 (abv _);refine⟨by rw[ay ne,az],Wm _,ne,m,λ_=>U,(Heap.Ns1.of_empty k).at λo q=>l_ _ q,λ_=>X9,λy i=>absurd rfl i⟩
def Hn{b:Env}(i:Wz g d b (eval g b)=eval g b)(h:w_ (D_ s r) I (eval g b) (λa e=>w_ (D_ s r) I (getAttr a d L) Î χ e) χ f):w_ (D_ s r) I (eval (.Attribute g d o) b) Î χ f:=Attribute_any_ h (by rw[arm_eval_Attribute,i])
def Ve(K:d_)(e:TE)(f:Str):TE:=λd H Q=>e d H λx b=>∃a C g fs v,x=.ref a/\b a=Z (.ins C g fs)/\ŷ K C/\Ĝ K C f/\fs.lookup f=Z v/\Q v b
def Vf(K:d_)(i h:TE)(f:Str):TS:=λb d H=>h d H λy j=>i d j λx g=>∃a C e fs,x=.ref a/\g a=Z (.ins C e fs)/\ŷ K C/\Ĝ K C f/\fs.length<1000/\b.nx d (æ g a (.ins C e (oK f y fs)))
def FX(k:PE a g Φ)(m:Wz g d a.env (eval g a.env)=eval g a.env):PE a (.Attribute g d o) (Ve a.K Φ d):=by intro p s f H Q I h;refine Hn m (ê (k p s f H _ I h) λu s1⟨x,A,z,i,b,e,dx,fs,v,r,w,c,n,l,q⟩=>?_);subst r;obtain rfl:u=C_ b:=i;exact xf z w c n l λE s2 y j=>⟨v,A,y,j,q⟩
def LX{k:TE}(ha:PE a g Φ)(E:PE a y k)(Q:WD y (Z (.Attribute g d w)) o.line a.env=pure D):PS a (.Assign [.Attribute g d w] y o) (Vf a.K Φ k d):=by intro m s j H f I h;refine plainObj_wpAny_Assign_Attribute (ê (E m s j H _ I h) λu p⟨e,H1,I1,r,q⟩=>ê (ha m p j H1 _ I1 q) λA s2⟨x,H2,I2,v,b,i,dx,fs,ex,ea,c,n,l,z⟩=>?_) Q;subst ex;obtain rfl:A=C_ b:=v;exact xg I2 ea c n l r λs3 I3=>⟨j,_,I3,z⟩
inductive vH(K:d_)(H:Hp):V->B->Prop where|non:vH K H .non (.type "NoneType")|bl(x:Bool):vH K H (.bl x) (.type "bool")|int(i:Int):vH K H (.int i) (.type "int")|str(x:Str):vH K H (.str x) (.type "str")|flt(x:UInt64):vH K H (.flt x) (.type "float")|lst{a:O}{xs:V%0}(e:H a=Z (.lst xs)):vH K H (.ref a) (.type "list")|frz{a:O}{o:Obj}{xs:V%0}(e:H a=Z (.frz o (.lst xs))):vH K H (.ref a) (.type "list")|tup{a:O}{xs:V%0}(e:H a=Z (.tup xs)):vH K H (.ref a) (.type "tuple")|dK{a:O}{kvs:(ü×V)%0}(e:H a=Z (.dK kvs)):vH K H (.ref a) (.type "dict")|dT{a:O}{kvs:(ü%0×V)%0}(e:H a=Z (.dT kvs)):vH K H (.ref a) (.type "dict")|ins{a C dx:O}{fs:(Str×V)%0}(e:H a=Z (.ins C dx fs))(cl:ŷ K C)(ha:WR K (.ref C) "__class__"=Z (Z (.builtin "object.__class__")))(hn:PySem.W.specialIn K (.builtin "object.__class__") "__get__"=Z (Z (.builtin "getset_descriptor.__get__")))(htk:PySem.W.takesIn K (.builtin "object.__class__")=Z L)(hm:PySem.W.mroIn K C (.type "object")=Z L):vH K H (.ref a) (.ref C)
def za{u t:B}(d:Õ a ε Ψ h f)(m:â ψ u)(Q:vH a.K h ψ t)(e:Yo a.K t Α=Z δ)(g:∀tk,Î (.bool δ) {f with toks:=tk}):w_ (D_ a.prog a.w) I (call (.builtin "isinstance") [u,Α]) Î χ f:=by cases Q with|non=>cases(show u=J_ from m);exact W4 PySem.W.kitx_none d.kIn X9 e (λz=>nomatch z) g|bl y=>cases(show u=T_ y from m);exact W4 PySem.W.kitx_bool d.kIn X9 e (λz=>nomatch z) g|int i=>obtain⟨t,q⟩:=(show∃t,u=abk i t from m);cases q;exact W4 PySem.W.kitx_int d.kIn X9 e (λz=>nomatch z) g|str y=>obtain⟨t,q⟩:=(show∃t,u=Yp y t from m);cases q;exact W4 PySem.W.kitx_str d.kIn X9 e (λz=>nomatch z) g|flt y=>obtain⟨t,q⟩:=(show∃t,u=ady y t from m);cases q;exact W4 PySem.W.kitx_float d.kIn X9 e (λz=>nomatch z) g|@lst b w r=>cases(show u=C_ b from m);obtain⟨_,_,n,_,s⟩:=(show í a.prog a.w h f.heap b (.lst w)from d.hok b _ r);exact W4 acU d.kIn ⟨_,s,rfl⟩ e (λz=>nomatch z) g|@frz b ob w r=>cases(show u=C_ b from m);obtain⟨_,_,_,n,_,s⟩:=(show í a.prog a.w h f.heap b (.frz ob (.lst w))from d.hok b _ r);exact W4 acU d.kIn ⟨_,s,rfl⟩ e (λz=>nomatch z) g|@tup b w r=>cases(show u=C_ b from m);obtain⟨_,_,_,p⟩:=(show í a.prog a.w h f.heap b (.tup w)from d.hok b _ r);obtain⟨o,s,A,_⟩:=p;exact W4 PySem.W.kitx_tuple d.kIn ⟨o,s,A⟩ e (λz=>nomatch z) g|@dK b v r=>cases(show u=C_ b from m);obtain⟨_,_,vs,_,p⟩:=(show í a.prog a.w h f.heap b (.dK v)from d.hok b _ r);obtain⟨o,es,ep,s,A,_⟩:=p;exact W4 acV d.kIn ⟨o,s,A.1⟩ e (λz=>nomatch z) g|@dT b v r=>cases(show u=C_ b from m);obtain⟨_,_,w,_,o,es,ep,s,A,_⟩:=(show í a.prog a.w h f.heap b (.dT v)from d.hok b _ r);exact W4 acV d.kIn ⟨o,s,A.1⟩ e (λz=>nomatch z) g|@ins b k dx fs r H ha hn E hm=>cases(show u=C_ b from m);obtain⟨mA,j,_⟩:=pS d.hok r;obtain⟨od,J,_⟩:=j.look;exact W4 (PySem.W.kitx_own (H.get _) H.hd ha hn E hm) d.kIn J e (λz=>nomatch z) g
structure å(k:Nat)(A:B_):Prop where
 hd:A.handled=U
 dp:A.depth+3*k+5<recursionLimit
 un:A.units+16*k+200<cLine
 gd:A.guards=Z []
def å.mono(r:å j I)(h:b<=j):å b I:=⟨r.hd,by have:=r.dp;omega,by have:=r.un;omega,r.gd⟩
def å.deeper(r:å (b+1) I)(a:Env):å b (I.deeper a):=⟨r.hd,by have:=r.dp;show I.depth+1+3*b+5<_;omega,by have:=r.un;show I.units+3+16*b+200<_;omega,r.gd⟩
def å.in1(r:å (b+1) I):å b I.in1:=⟨r.hd,by have:=r.dp;show I.depth+3*b+5<_;omega,by have:=r.un;show I.units+1+16*b+200<_;omega,r.gd⟩
def xh{a:(Str×B)%0}:(I.under (.builtin "type.__call__" ⟨.ref e::ξ,a⟩)).depth=I.depth+1:=by first|rfl|simp[abI,Code.weight,Code.isCreation,Code.isGuard,Code.isCaller,Code.frames,acY,guardIds]
def xj{a:(Str×B)%0}:(I.under (.builtin "type.__call__" ⟨.ref e::ξ,a⟩)).units=I.units+1:=by first|rfl|simp[abI,Code.cUnits,Code.frames,acY]
def å.make(r:å (b+1) I)(C:O)(a:B%0)(d:(Str×B)%0):å b (I.under (.builtin "type.__call__" ⟨.ref C::a,d⟩)):=⟨r.hd,by have:=r.dp;rw[xh];omega,by have:=r.un;rw[xj];omega,by have:=r.gd;simp[abI,Code.guards,Code.isGuard,guardIds,pushGuards,this]⟩
def å.depth(r:å b I):I.depth<recursionLimit:=by have:=r.dp;omega
def å.units(r:å b I):I.units+64<cLine:=by have:=r.un;omega
def å.units0(r:å b I):I.units<cLine:=by have:=r.un;omega
def Uf:TA:=λ_ H Q=>Q [] H
def Rq(e:TE)(d:TA):TA:=λa H Q=>e a H λx g=>d a g λb f=>Q (x::b) f
def oN:PA a [] Uf:=λ_ _ _ _ H Q I h=>ZI ⟨[],H,I,.nil,h⟩
def ij{t:TA}(q:PE a g Φ)(p:PA a u t)(o:g%8:=by rfl):PA a (g::u) (Rq Φ t):=by intro pos e s d H Q I h;rw[o];show w_ _ _ (spliced ((D,eval g a.env)::V6 pos (j_ u a.env))) _ _ s;refine YC (ê (q e s d H _ I h) λb i⟨x,y,v,k,n⟩=>?_);exact ê (p pos e i d y _ v n) λus z⟨f,w,r,j,m⟩=>⟨x::f,w,r,.cons k j,m⟩
def Vg(t:TA):TE:=λd H Q=>t d H λa b=>a.length<=sizeLine/\∀p,b p=U->Q (.ref p) (æ b p (.tup a))
def Vh(t:TA):TE:=λd H Q=>t d H λa b=>a.length<=sizeLine/\∀p,b p=U->Q (.ref p) (æ b p (.lst a))
def LY{t:TA}{m}(h:PA a u t):PE a (.Tuple u m o) (Vg t):=by intro v s j H Q I n;refine wpAny_Tuple_spliced (ê (h o v s j H _ I n) λus f⟨k,i,g,r,z,q⟩=>⟨by rw[<-r.length];exact z,?_⟩);have p:i f.heap.objs.size=U:=g.hok.fresh (rl _);refine⟨.ref f.heap.objs.size,æ i f.heap.objs.size (.tup k),g.laid (t':=f.toks) (λb d e=>l_ _ e) (rl _) ?_,rfl,q _ p⟩;exact⟨z,us,r,⟨_,xy _ rfl,rfl,_,rfl⟩⟩
def zb{t:TA}(h:PA a u t):PE a (.List u o) (Vh t):=by intro p s j H Q I m;refine wpAny_List_spliced (ê (h o p s j H _ I m) λus f⟨k,i,g,r,z,q⟩=>⟨by rw[<-r.length];exact z,?_⟩);have n:i f.heap.objs.size=U:=g.hok.fresh (rl _);refine⟨.ref f.heap.objs.size,æ i f.heap.objs.size (.lst k),g.laid (t':=f.toks) (λb d e=>l_ _ e) (rl _) ?_,rfl,q _ n⟩;exact⟨z,us,0,r,xy _ rfl⟩
abbrev Sp:=V%0->Hp->VK->XK->Prop
abbrev ō:=Env%0->Hp->h_->XK->B->h_->Prop
structure Ń(P:n_)(w:y_)(K:d_)(mg:Str->B%1)(base:O_)(A:B_)(outer:Env%0)(s:h_)(H:Hp):Prop where
 frames:A.frames=Z outer
 mod:Mod K mg base
 bs:∀b o,base.get? b=Z o->s.heap.get? b=Z o/\H b=U
 bsz:base.objs.size<=s.heap.objs.size
 funs:s.heap.FunFrames base outer
 frf:∀b∈frs outer,H b=U
 hok:ĕ P w H s.heap
 bare:aay s.gens
def CE(a:Env%0)(P:n_)(w:y_)(H:Hp)(s:h_)(Q:VK)(u:B)(b:h_):Prop:=∃v d,b.os=s.os/\aay b.gens/\Un (frs a) [] H d s.heap b.heap/\ĕ P w d b.heap/\â v u/\Q v d
def CR(d:ō)(a:Env%0)(P:n_)(w:y_)(H:Hp)(s:h_)(Q:VK)(E:XK)(r:aca)(b:h_):Prop:=match r with|.ok (.ret u)=>CE a P w H s Q u b|.ok _=>False|.error e=>d a H s E e b
structure ö(P:n_)(w:y_)(K:d_)(mg:Str->B%1)(base:O_)(CX:ō)(k:Nat)(f:O)(fd:WE)(ps:Str%0)(sp:Sp):Prop where
 len:∀vs H Q E,sp vs H Q E->vs.length=ps.length
 run:∀(A:B_)(outer:Env%0)(s:h_)(H:Hp)(args:Args)(us:B%0)(vs:V%0)(Q:VK)(E:XK),å k A->Ń P w K mg base A outer s H->abH s fd args (ps.zip us)->Ú vs us->sp vs H Q E->Yl (D_ P w) A (.call (.ref f) args) (CR CX outer P w H s Q E) s
variable{Æ:WE}
def ö.mono{m:ō}{k:Sp}(F:ö s r q Ζ Q m b e Æ H k)(h:b<=j):ö s r q Ζ Q m j e Æ H k:=⟨F.len,λA g a f i us n d E o=>F.run A g a f i us n d E (o.mono h)⟩
def Ń.make{a:Env%0}(e:Ń s r q Ζ Q I a f h)(C:O)(b:B%0)(d:(Str×B)%0):Ń s r q Ζ Q (I.under (.builtin "type.__call__" ⟨.ref C::b,d⟩)) a f h:=⟨by first|exact e.frames|(simpa[abI,Code.envs,acY,pushEnvs]using e.frames),e.mod,e.bs,e.bsz,e.funs,e.frf,e.hok,e.bare⟩
def Õ.env0(I:Õ a ε Ψ h f):Ń a.prog a.w a.K a.mg a.base a.A a.stack f h:=⟨I.ok.frames,I.ok.mod,I.bs,Wa I.ok.bsz I.sz,I.stack,I.stkFree,I.hok,I.bare⟩
def Õ.after{j:h_}(I:Õ a ε Ψ h f)(e:CE a.stack a.prog a.w h f Ò Α j):EP a ε Ψ Ò Α j:=by obtain⟨v,o,os,i,un,m,r,q⟩:=e;obtain⟨n,g,d,t,k⟩:=j;obtain rfl:k=f.os:=os;exact⟨v,o,I.call (h':=n) (g':=g) (d':=d) (t':=t) (ch:=[]) un m i (λb z=>absurd z ∅),r,q⟩
def Rr(e:Sp)(a:V%0)(E:XK)(t:TA):TE:=λb H Q=>t b H λd f=>e (d++a) f Q E
def LZ(C:O)(m:Str)(h:Sp)(b:V%0)(E:XK)(g:TE)(t:TA):TE:=λd H Q=>g d H λx e=>∃a i fs,x=.ref a/\e a=Z (.ins C i fs)/\fs.lookup m=U/\t d e λf j=>h (x::(f++b)) j Q E
def Rt(C:O)(g:Sp)(d:V%0)(E:XK)(t:TA):TE:=λe H Q=>t e H λf b=>∀x a,b x=U->b a=U->a≠x->g (.ref x::(f++d)) (æ (æ b a (.own x)) x (.ins C a [])) (λv h=>v=.non/\Q (.ref x) h) E
def õ(K:d_)(d:WE)(a:Str%0)(b:B%0):Prop:=∀(s:h_)(us:B%0),K.In s.heap->(us++b).length=a.length->abH s d ⟨us,[]⟩ (a.zip (us++b))
def õ.all(h:∀us:B%0,us.length=H.length->acS Æ ⟨us,[]⟩=pure (H.zip us)):õ q Æ H []:=λs us _ a=>by rw[Xe]at a⊢;exact .of_eq (h us a)
def kz(f:ō)(X:C)(E:XK):Prop:=∀(d:(O×Obj)%0)(b:St)(H:Hp)(s:h_)(e:B)(a:h_),Õ X d b H s->f X.stack H s E e a->X.xe e a
def zc{o:ō}{m:Sp}{E:XK}{i:B%0}{k:V%0}(F:ö a.prog a.w a.K a.mg a.base o b e Æ H m)(s:å b a.A)(y:õ a.K Æ H ξ)(w:Ú ν ξ)(q:kz o a E)(I:Õ a ε Ψ h f)(r:Ú k i)(d:m (k++ν) h Ò E):w_ (D_ a.prog a.w) a.A (call (.ref e) i) (EP a ε Ψ Ò) a.xe f:=by
 have n:Ú (k++ν) (i++ξ):=r.append w;have v:(i++ξ).length=H.length:=by rw[<-n.length];exact F.len _ _ _ _ d
 refine ZY (Yz (F.run a.A a.stack f h ⟨i,[]⟩ (i++ξ) (k++ν) Ò E s I.env0 (y f i I.kIn v) n d) λr p j=>?_);cases r with|error g=>exact q ε Ψ h f g p I j|ok z=>cases z with|ret u=>exact I.after j|next=>exact Wg j|brk=>exact Wg j|cont=>exact Wg j
def mL{n:ō}{k:Sp}{E:XK}{t:TA}(F:ö a.prog a.w a.K a.mg a.base n b e Æ H k)(y:å b a.A)(hg:Gl a d)(z:a.mg d=Z (.ref e))(A:WG a.K (.ref e)=L)(hb:õ a.K Æ H ξ)(hd:Ú ν ξ)(v:kz n a E)(ha:PA a (g::u) t)(j:(d==("__debug__":Str))=D:=by decide)(he:g%8:=by rfl)(i:(V6 w (j_ u a.env)).any (·.1)=D:=by rfl):PE a (.Call (.Name d o) (g::u) [] w) (Rr k ν E t):=by intro f' s p f Q I h;refine Xg (j9 I hg z ?_ j);refine Zk (h₀:=a.base) I.ok.mod.kin A (ê (ha w f' s p f _ I h) λus s1⟨vs,H1,m,r,q⟩=>⟨m.kIn,?_⟩) he i;exact zc F y hb hd v m r q
def Ho{CX:ō}{p:Sp}{E:XK}{t:TA}{v:Sem Bool}(he:PE a y Φ)(c:ŷ a.K z)(hm:Lf a.K z d e)(F:ö a.prog a.w a.K a.mg a.base CX b e Æ H p)(hr:å b a.A)(hb:õ a.K Æ H ξ)(hd:Ú ν ξ)(hx:kz CX a E)(ha:PA a (g::u) t)(k:g%8:=by rfl)(m:(V6 o (j_ u a.env)).any (·.1)=D:=by rfl)(ht:eval (.Call (.Attribute y d w) (g::u) [] o) a.env=(do
 let A<-eval y a.env
 ack w.atName let(e,first)<-Zd [A] (acl A d v)callWith o e first (V6 o (j_ (g::u) a.env)) (Xo o (WJ [] a.env))):=by rfl):PE a (.Call (.Attribute y d w) (g::u) [] o) (LZ z d p ν E Φ t):=by intro f' s n j Q I h;refine ab0 (pl:=v) (ê (he f' s n j _ I h) λi s1⟨x,H1,I1,rx,f,dx,fs,ex,ea,l,q⟩=>?_) ht;subst ex;obtain rfl:i=C_ f:=rx;refine oM I1 ea c hm l ?_;refine Zk (first:=[.ref f]) (h₀:=a.base) I.ok.mod.kin hm.kp (ê (ha o f' s1 n H1 _ I1 q) λus s2⟨vs,H2,I2,r,q2⟩=>⟨I2.kIn,?_⟩) k m;exact zc (i:=.ref f::us) (k:=.ref f::vs) F hr hb hd hx I2 (.cons rfl r) q2
def vI{r:ō}{k:Sp}{E:XK}{m:Sem Bool}(he:PE a g Φ)(c:ŷ a.K z)(p:Lf a.K z d e)(F:ö a.prog a.w a.K a.mg a.base r b e Æ H k)(hr:å b a.A)(hb:õ a.K Æ H ξ)(hd:Ú ν ξ)(A:kz r a E)(ht:eval (.Call (.Attribute g d w) [] [] o) a.env=(do
 let n<-eval g a.env
 ack w.atName let(e,first)<-Zd [n] (acl n d m)callWith o e first (V6 o (j_ [] a.env)) (Xo o (WJ [] a.env))):=by rfl):PE a (.Call (.Attribute g d w) [] [] o) (LZ z d k ν E Φ Uf):=by intro f' s v i Q I h;refine ab0 (pl:=m) (ê (he f' s v i _ I h) λu s1⟨x,H1,j,y,f,dx,fs,ex,ea,l,q⟩=>?_) ht;subst ex;obtain rfl:u=C_ f:=y;refine oM j ea c p l ?_;exact PySem.W.callWith_K0 (first:=[.ref f]) j.kIn p.kp (zc (i:=[.ref f]) (k:=[.ref f]) F hr hb hd A j (.cons rfl .nil) q)
structure Mk(K:d_)(C f:O):Prop where
 makes:adB K C=L
 init:WR K (.ref C) "__init__"=Z (Z (.ref f))fn:abB K (.ref f)=L
 kp:WG K (.ref C)=L
def C9{s:ō}{o:Sp}{E:XK}{j:B%0}{n:V%0}(M:Mk a.K z e)(F:ö a.prog a.w a.K a.mg a.base s b e Æ H o)(hr:å (b+1) a.A)(hb:õ a.K Æ H ξ)(hd:Ú ν ξ)(Q:kz s a E)(I:Õ a ε Ψ h f)(r:Ú n j)(g:∀x k,h x=U->h k=U->k≠x->o (.ref x::(n++ν)) (æ (æ h k (.own x)) x (.ins z k [])) (λv H2=>v=.non/\Ò (.ref x) H2) E):w_ (D_ a.prog a.w) a.A (call (.ref z) j) (EP a ε Ψ Ò) a.xe f:=by
 have q:=g (f.heap.objs.size+1) f.heap.objs.size (I.hok.fresh (aa5 _)) (I.hok.fresh (rl _)) (V7 (abv _));have m:=Õ.made (e:=z) I;have p:Ú (V.ref (f.heap.objs.size+1)::(n++ν)) (C_ (f.heap.objs.size+1)::(j++ξ)):=.cons rfl (r.append hd);have hl:(C_ (f.heap.objs.size+1)::j++ξ).length=H.length:=by have d:=p.length;rw[F.len _ _ _ _ q]at d;exact d.symm
 refine ZY (C7 (z:=e) I.kIn M.makes M.init (beq_iff_eq.mp M.fn) (Yz (F.run _ a.stack _ _ ⟨C_ (f.heap.objs.size+1)::j,[]⟩ (C_ (f.heap.objs.size+1)::(j++ξ)) _ _ E (hr.make z j []) (m.env0.make z j []) (hb _ (C_ (f.heap.objs.size+1)::j) m.kIn hl) p q) λr w i=>?_));cases r with|error d=>exact Q ε Ψ _ _ d w m i|ok fl=>cases fl with|ret u=>obtain⟨v,H',I3,y,ev,A⟩:=m.after i;subst ev;exact⟨y,⟨V.ref (f.heap.objs.size+1),H',I3,rfl,A⟩⟩|next=>exact Wg i|brk=>exact Wg i|cont=>exact Wg i
def Hq{n:ō}{k:Sp}{E:XK}{t:TA}(M:Mk a.K z e)(F:ö a.prog a.w a.K a.mg a.base n b e Æ H k)(y:å (b+1) a.A)(hg:Gl a d)(A:a.mg d=Z (.ref z))(hb:õ a.K Æ H ξ)(hd:Ú ν ξ)(v:kz n a E)(ha:PA a (g::u) t)(j:(d==("__debug__":Str))=D:=by decide)(he:g%8:=by rfl)(i:(V6 w (j_ u a.env)).any (·.1)=D:=by rfl):PE a (.Call (.Name d o) (g::u) [] w) (Rt z k ν E t):=by intro f' s p f Q I h;refine Xg (j9 I hg A ?_ j);refine Zk (h₀:=a.base) I.ok.mod.kin M.kp (ê (ha w f' s p f _ I h) λus s1⟨vs,H1,m,r,q⟩=>⟨m.kIn,?_⟩) he i;exact C9 M F y hb hd v m r q
structure il(N P:Str%0)(sc:Xk):Prop where
 kind:sc.kind=.function
 co:sc.isCoroutine=D
 gen:sc.isGenerator=D
 nd:N.Nodup
 pre:N.take P.length=P
 par:∀x∈P,sc.names.lookup x=Z .local\/sc.names.lookup x=Z .cell
 nofree:∀y∈sc.names,y.2≠.free
def rR{a:Str->Yq%1}{x:Str}:∀{binds:(Str×B)%0}{m:Str->B%1},(∀v,(x,v)∉binds)->adO a binds m x=m x
 |[],_,_=>rfl|(n,v)::r,m,h=>by
  unfold adO;rw[rR λw b=>h w (s_ _ b)];split
  · have:x≠n:=by rintro rfl;exact h v pi
    simp[this]
  ·rfl
def rS{a:Str->Yq%1}{x:Str}:∀{binds:(Str×B)%0}{m:Str->B%1},(∀v,(x,v)∉binds)->adP a binds m x=m x
 |[],_,_=>rfl|(n,v)::r,m,h=>by
  unfold adP;rw[rS λw b=>h w (s_ _ b)];split;·rfl
  · have:x≠n:=by rintro rfl;exact h v pi
    simp[this]
def rT{a:Str->Yq%1}{x:Str}{v:B}:∀{P:Str%0}{b:B%0}{i:Nat}{m:Str->B%1},P.Nodup->P[i]?=Z x->b[i]?=Z v->a x=Z .local->adO a (P.zip b) m x=Z v|[],_,_,_,_,h,_,_=>by simp at h|_::_,[],_,_,_,_,h,_=>by simp at h|p::P,w::b,0,m,f,e,d,g=>by simp at e d;subst e;subst d;show adO a ((p,w)::P.zip b) m p=_;unfold adO;rw[rR λv j=>(WT.mp f).1 (aam j).1,if_pos g];simp|p::P,w::b,i+1,m,f,e,d,g=>by show adO a ((p,w)::P.zip b) m x=_;unfold adO;exact rT (i:=i) (WT.mp f).2 (by simpa using e) (by simpa using d) g
def rV{a:Str->Yq%1}{x:Str}{v:B}:∀{P:Str%0}{b:B%0}{i:Nat}{m:Str->B%1},P.Nodup->P[i]?=Z x->b[i]?=Z v->a x≠Z .local->adP a (P.zip b) m x=Z v|[],_,_,_,_,h,_,_=>by simp at h|_::_,[],_,_,_,_,h,_=>by simp at h|p::P,w::b,0,m,f,e,d,g=>by simp at e d;subst e;subst d;show adP a ((p,w)::P.zip b) m p=_;unfold adP;rw[rS λv j=>(WT.mp f).1 (aam j).1,if_neg g];simp|p::P,w::b,i+1,m,f,e,d,g=>by show adP a ((p,w)::P.zip b) m x=_;unfold adP;exact rV (i:=i) (WT.mp f).2 (by simpa using e) (by simpa using d) g
def start(N:Str%0)(a:V%0):St:=a.map Z++u_ (N.length-a.length) U
def oh(h:ō)(P:n_)(w:y_)(K:d_)(mg:Str->B%1)(base:O_)(N:Str%0)(b:Str)(a:Xk)(f:O)(g:B)(A:B_)(outer:Env%0)(s:h_)(H:Hp)(E:XK):C where prog:=P;w:=w;K:=K;mg:=mg;base:=base;A:=A.deeper (Yi b a s.heap.objs.size f g);N:=N;s₀:=s;H₀:=H;env:=Yi b a s.heap.objs.size f g;outer:=outer;stack:=Yi b a s.heap.objs.size f g::outer;ex:=[];calm:=L;fn:=λ_=>L;pn:=[];xe:=λe i=>w_ (D_ P w) (A.deeper (Yi b a s.heap.objs.size f g)) (leaving (Yi b a s.heap.objs.size f g) e) (λ_ d=>h outer H s E e d) (λj d=>h outer H s E j d) i
variable{ω:Xk}
def vJ(h:ω.names.lookup d=Z .cell):∃c,(WF b ω.names []).lookup d=Z c:=by have q:=ZC ω.names b [] (.inl h);exact Yj.mp q
def rW{CX:ō}{ps:Str%0}{o:Env%0}{s1:h_}{E:XK}(S:il H ps ω)(hd:I.handled=U)(A:Ń s r q Ζ Q I o f h)(hl:ν.length=ps.length)(n:Ú ν ξ)(x:InCallC f f.heap.objs.size (adO (Yi d ω f.heap.objs.size e Α).kindOf (ps.zip ξ) λ_=>U) (WF (f.heap.objs.size+1) ω.names []) (adP (Yi d ω f.heap.objs.size e Α).kindOf (ps.zip ξ) λ_=>U) s1):Õ (oh CX s r q Ζ Q H d ω e Α I o f h E) [] (start H ν) h s1:=by
 have c':ps.length<=H.length:=by have:=congrArg aae S.pre;rw[aby]at this;omega
 obtain⟨h1,tk,rfl,hk⟩:=x.done;have a':∀b:O,b∉(oh CX s r q Ζ Q H d ω e Α I o f h E).ex:=λb z=>absurd (show b∈([]:O%0)from z) ∅;refine⟨⟨A.mod,S.kind,rfl,rfl,rl _,λy z c h1 w=>?_,λy hy=>?_,λy c _ g=>?_,λ_=>hd,acf A.frames,.inr ⟨rfl,rfl⟩,λb z=>absurd z (a' b),A.bs,A.bsz,λb _ _=>a' b,λb z=>absurd z (a' b),A.funs,A.frf⟩,rfl,A.bare,Un.kept hk,⟨_,x.toInCall.ns,λi y v h1 w h3=>?_⟩,λy c g=>⟨_,x.cell y c g⟩,A.hok.fresh (rl _),λy c g=>?_,λp hp=>absurd (show p∈([]:(O×Obj)%0)from hp) ∅,A.hok.kept hk,?_⟩;·exact name_of_addr x.apart (Yk h1) (Yk w)
 · have hy:ω.names.lookup y=Z .cell\/ω.names.lookup y=Z .free:=hy;rcases hy with hy|hy;·exact vJ hy
   ·exact absurd rfl (S.nofree _ (Yk hy))
 ·exact aaz (x.above y c (Yk g))
 · have hi:i<ν.length:=by
    unfold start at w;by_cases hi:i<ν.length;·exact hi
    ·rw[Q_ (by simpa using hi)]at w;rw[Yv]at w;split at w<;>cases w
   have ha:ν[i]?=Z v:=by unfold start at w;rw[N_ (by simpa using hi),K_]at w;cases j:ν[i]? with|none=>rw[j]at w;cases w|some a=>rw[j]at w;cases w;rfl
   obtain⟨u,hu,rv⟩:=n.get ha;have hp:ps[i]?=Z y:=by rw[<-S.pre,abh ()];exact h1
   have b':ps.Nodup:=by rw[<-S.pre];exact S.nd.sublist (List.take_sublist _ _)
   refine⟨u,rv,?_⟩;rcases S.par y (We hp)with k|k;·exact .inl ⟨k,rT b' hp hu k⟩
   ·obtain⟨c,j⟩:=vJ (b:=f.heap.objs.size+1) k;refine .inr ⟨.inl k,c,j,?_⟩;have m:=x.cell y c j;rw[rV b' hp hu (by show ω.names.lookup y≠_;rw[k];decide)]at m;exact m
 ·exact A.hok.fresh (aaz (x.above y c (Yk g)))
 ·unfold start;show _=H.length;rw[Ws,S_,W_];omega
def Da{CX:ō}{z:Arguments}{kV g' pm w ct oc:B}{an od:O%1}{h':Array (B%1)}{ps:Str%0}{sp:Sp}(lk:q.lookup e=Z ⟨oc,od,.func (Xr d p z À ω Α kV g' pm an w ct),h'⟩)(k':ZB q w p=L)(S:il H ps ω)(d':∀vs f h E,sp vs f h E->vs.length=ps.length)(c':∀(A:B_)(m:Env%0)(g:h_)(f:Hp)(vs:V%0)(h:VK)(E:XK),å b (A.deeper (Yi p ω g.heap.objs.size e w))->sp vs f h E->∃t,ŋ (oh CX s r q Ζ Q H p ω e w A m g f E) À t/\t {nx:=λ_ H'=>h .non H',rt:=h} (start H vs) f):ö s r q Ζ Q CX (b+1) e (Xr d p z À ω Α kV g' pm an w ct) ps sp:=by
 refine⟨d',λA m g f l' us vs h E hr e0 hb k e'=>?_⟩;have hl:=d' _ _ _ _ e';have KX:q.In g.heap:=e0.mod.kin.keeps λj o i=>(e0.bs j o i).1;have i':g.heap.NoLimit:=e0.mod.nolimit.keeps λj o i=>(e0.bs j o i).1;have b':∀y∈ps.zip us,ω.names.lookup y.1=Z .local\/(ω.names.lookup y.1=Z .cell/\((WF (g.heap.objs.size+1) ω.names []).lookup y.1).isSome=L):=λ⟨n,v⟩hy=>by
  rcases S.par n (aam hy).1 with a|a;·exact .inl a
  ·exact .inr ⟨a,ZC _ _ _ (.inl a)⟩
 refine abZ hr.depth (KX _ _ lk) rfl S.co S.gen rfl (acE KX k') (hb _ _ _ _ ?_);refine aaC S.kind b' λm' he s1 x=>?_;subst he;refine⟨i'.keeps x.toInCall.keep,codeAny_func ?_⟩;obtain⟨t,ht,hq⟩:=c' A m g f vs h E (hr.deeper _) e';have I:Õ (oh CX s r q Ζ Q H p ω e w A m g f E) [] (start H vs) f s1:=rW S hr.hd e0 hl k x;refine Wr (ht [] s1 (start H vs) f _ I hq) (λfl s' hs=>?_) λi s' hs=>hs;have f':∀{a':St}{H':Hp}{v:V}{u:B},Õ (oh CX s r q Ζ Q H p ω e w A m g f E) [] a' H' s'->â v u->h v H'->CE m s r f g h u s':=λ{a' H' v u}J rv a=>⟨v,H',J.os,J.bare,J.base,J.hok,rv,a⟩;cases fl with|ret u=>obtain⟨v,a',H',J,rv,a⟩:=hs;exact f' J rv a|next=>obtain⟨a',H',J,a⟩:=hs;exact f' (v:=V.non) (u:=J_) J rfl a|brk=>obtain⟨_,_,_,a⟩:=hs;exact Wg a|cont=>obtain⟨_,_,_,a⟩:=hs;exact Wg a
def tCB(r:V%0->Hp->VK->Prop)(t:TA):TE:=λa H Q=>t a H λb d=>r b d Q
def gU{t:TA}{i:String}{r:V%0->Hp->VK->Prop}(E:l4 a (.builtin i) r)(z:Gl a d)(y:a.mg d=U)(q:W0 d=Z (.builtin i))(ha:PA a (g::u) t)(v:d≠"__name__":=by decide)(e:(d==("__debug__":Str))=D:=by decide)(A:g%8:=by rfl)(b:(V6 w (j_ u a.env)).any (·.1)=D:=by rfl):PE a (.Call (.Name d o) (g::u) [] w) (tCB r t):=by intro j s f H Q I h;refine Xg (j3 I z y q ?_ v e);exact Z0 (ê (ha w j s f H _ I h) λus m⟨k,H1,I1,n,p⟩=>E j m f H1 k us Q I1 n p) A b
def mM{t:TA}{T:String}{r:V%0->Hp->VK->Prop}(A:l4 a (.type T) r)(y:Gl a d)(v:a.mg d=U)(p:W0 d=Z (.type T))(E:PA a (g::u) t)(q:d≠"__name__":=by decide)(e:(d==("__debug__":Str))=D:=by decide)(z:g%8:=by rfl)(b:(V6 w (j_ u a.env)).any (·.1)=D:=by rfl):PE a (.Call (.Name d o) (g::u) [] w) (tCB r t):=by intro i s f H Q I h;refine Xg (j3 I y v p ?_ q e);exact W1 (ê (E w i s f H _ I h) λus k⟨j,H1,I1,m,n⟩=>A i k f H1 j us Q I1 m n) z b
end L2
variable{ν:L2.V%0}{ξ:B%0}{h:L2.Hp}{e z:O}{Q:O_}{Δ:L2.Hp}{υ:O%0}{Å:Obj}{a:L2.C}{ε:(O×Obj)%0}{Ì:Option L2.V%0}{H:Str%0}{Ë:Yr}{I:B_}{χ:B->h_->Prop}{d:Str}{ψ:L2.V}{Α:B}{o:Pos}{Ψ:L2.St}{Î:B->h_->Prop}{g:t_}{Φ:L2.TE}{y:t_}{u:t_%0}{Ê:t_}{q:d_}{À:WA%0}{Γ:WA}{j:Nat}{w:Pos}{m Ε:Int}{δ È:Bool}{p:Str}{Ò:L2.VK}{Ζ:Str->B%1}{Æ:WE}{ω:Xk}
namespace HT
def cat_tup{b:B%0}(E:adZ f.heap e ξ.toArray)(H:adZ f.heap z b.toArray)(u:ξ≠[])(h1:b=[]->Î (.ref e) f)(Q:b≠[]->Î (.ref f.heap.objs.size) {f with heap:=f.heap.push {cls:=.type "tuple",data:=.seq (ξ++b).toArray}})(o:ξ.length+b.length<=sizeLine):w_ (D_ s r) I (Xn .Add (.ref e) (.ref z)) Î χ f:=by
 obtain⟨⟨cls,y,data,p⟩,m,w,n,v⟩:=id E;obtain⟨⟨A,j,data2,g⟩,d,i,q,h⟩:=id H;simp only at w v i h;subst w v i h;have a:ξ.toArray++b.toArray=(ξ++b).toArray:=by simp
 by_cases k:b=[]
 ·exact acR ⟨_,m,rfl⟩ ⟨_,d,rfl⟩ abj acx ZG Zr (Za _ _) (tuple_addW1 e z ξ.toArray b.toArray n q y j p g (by simpa using u) (by simp[k])) ⟨m,d,h1 k⟩
 ·refine acR ⟨_,m,rfl⟩ ⟨_,d,rfl⟩ abj acx ZG Zr (Za _ _) (tuple_addW2 e z ξ.toArray b.toArray n q y j p g (by simpa using u) (by simpa using k) (by rw[H_,H_];exact o)) ⟨m,d,?_⟩;rw[a];exact Q k
def sIx(n d:Nat):Int%1->Nat|none=>d|some v=>if v<0 then(v+(n:Int)).toNat else min v.toNat n
def L4(n d:Nat)(b:d<=n)(o:Int%1):sIx n d o<=n:=by cases o with|none=>exact b|some v=>
 show(if v<0 then(v+(n:Int)).toNat else min v.toNat n)<=n;by_cases a:v<0;·rw[if_pos a];omega
 ·rw[if_neg a];exact Nat.min_le_right _ _
def zd(v:Int)(n d:Nat):(if v<0 then max (v+(n:Int)) 0 else min v (n:Int))=((sIx n d (Z v):Nat):Int):=by
 show(if v<0 then max (v+(n:Int)) 0 else min v (n:Int))=(((if v<0 then(v+(n:Int)).toNat else min v.toNat n):Nat):Int);by_cases a:v<0;·simp![if_pos a];omega
 ·simp![if_neg a];omega
def xl(a b:Int%1)(n:Nat):Y6 a b 1 (n:Int)=(((sIx n 0 a:Nat):Int),((sIx n n b:Nat):Int)):=by
 have d:¬((1:Int)<0):=by omega
 unfold Y6;simp![d,if_false];refine Prod.ext ?_ ?_;·cases a with|none=>rfl|some v=>exact zd v n 0
 ·cases b with|none=>rfl|some v=>exact zd v n n
def xn(i j:Nat):XY (i:Int) (j:Int) 1=j-i:=by
 unfold XY;have a:(1:Int)>0:=by omega
 simp![a,if_true,Int.ediv_one];split<;>omega
variable{Η:Int%1}
def oO{Q:Int%1->h_->Prop}(p:abF Α Η)(h:Q Η f):w_ (D_ s r) I (Builtin.Slice.slicePartIndex Α) Q χ f:=by cases p with|none=>exact slicePart_none h|int i t=>exact slicePart_int h
variable{Ρ:Int%1}
def sliceApplied_gen{g:B}{Q:Int×Int×Nat->h_->Prop}(k:f.heap.IsSliceOf e Α g .none)(j:abF Α Η)(i:abF g Ρ)(h:Q (((sIx b 0 Η:Nat):Int),1,sIx b b Ρ-sIx b 0 Η) f):w_ (D_ s r) I (aaO (.ref e) (pure (b:Int))) Q χ f:=by obtain⟨os,a,m,d⟩:=id k;unfold aaO Builtin.Slice.sliceFields;refine e_ (e_ (WV a d (x:=Α) rfl (e_ (WV a d (x:=g) rfl (e_ (WV a d (x:=.none) rfl (k_ ?_)))))));refine e_ (slicePart_none ?_);show w_ _ _ (if((1:Int)==0)=L then _ else _) _ _ f;rw[if_neg #v[]];refine e_ (oO j (e_ (oO i (e_ (k_ ?_)))));show w_ _ _ (match Y6 Η Ρ 1 (b:Int)with|(Η,Ρ)=>pure (Η,(1:Int),XY Η Ρ 1)) _ _ f;rw[xl Η Ρ b];show w_ _ _ (pure (((sIx b 0 Η:Nat):Int),(1:Int),XY ((sIx b 0 Η:Nat):Int) ((sIx b b Ρ:Nat):Int) 1)) _ _ f;rw[xn];exact k_ h
def Db(a:Array B)(i k:Nat):((uk k).filterMap λ(m:Nat)=>a[((i:Int)+(m:Int)*1).toNat]?).toArray=((a.toList.drop i).take k).toArray:=by
 have e:(λ(m:Nat)=>a[((i:Int)+(m:Int)*1).toNat]?)=λm=>a[i+m]?:=by
  funext m;have:((i:Int)+(m:Int)*1).toNat=i+m:=by omega
  rw[this]
 rw[e];have:=pick_run a i k;rw[aaV]at this;have b:((λx=>a[x]?)∘λx=>i+x)=λm=>a[i+m]?:=rfl;rw[b]at this;rw[this]
def getItem_tuple_cut{a:Array B}{m:B}(d:adZ f.heap e a)(n:f.heap.IsSliceOf z Α m .none)(p:abF Α Η)(o:abF m Ρ)(u:¬(sIx a.size 0 Η=0/\sIx a.size a.size Ρ=a.size))(h:Î (.ref f.heap.objs.size) {f with heap:=f.heap.push {cls:=.type "tuple",data:=.seq ((a.toList.drop (sIx a.size 0 Η)).take (sIx a.size a.size Ρ-sIx a.size 0 Η)).toArray}})(v:a.size<=sizeLine):w_ (D_ s r) I (abA (.ref e) (.ref z)) Î χ f:=by
 have b:sizeOk (.seq ((a.toList.drop (sIx a.size 0 Η)).take (sIx a.size a.size Ρ-sIx a.size 0 Η)).toArray):=by show((a.toList.drop (sIx a.size 0 Η)).take (sIx a.size a.size Ρ-sIx a.size 0 Η)).toArray.size<=sizeLine;rw[H_,aby,Z1,WX];omega
 have E:sIx a.size a.size Ρ<=a.size:=L4 _ _ (rl _) Ρ;obtain⟨os,g,j,w⟩:=id n;have k:f.TypeIs (.ref z) "slice":=⟨os,g,j⟩;unfold abA;try with_reducible refine WN ?_
 first|refine e_ (k_ ?_)|skip
 refine e_ (wpAny_sequenceKey d.typeIs #v[] ?_);refine e_ (WL (name:=b_ "__getitem__") d.typeIs WI (W6 WI d.typeIs entry_tuple_getitem ?_ (args_tuple_getitem _ _)));show w_ _ _ (aaN (.ref e)>>=_) _ _ f;refine e_ (tupleItemsOf_ d ?_);refine e_ (Zx k ?_);rw[if_pos #v[]];refine e_ (sliceApplied_gen n p o ?_);have i:¬((((sIx a.size 0 Η:Nat):Int)==0&&(1:Int)==1&&(sIx a.size a.size Ρ-sIx a.size 0 Η)==a.size)=L):=by intro q;rw[m_,m_]at q;have A:((sIx a.size 0 Η:Nat):Int)=0:=Z4 q.1.1;have y:sIx a.size a.size Ρ-sIx a.size 0 Η=a.size:=Z4 q.2;exact u ⟨by omega,by omega⟩
 show w_ _ _ (if(((sIx a.size 0 Η:Nat):Int)==0&&(1:Int)==1&&(sIx a.size a.size Ρ-sIx a.size 0 Η)==a.size)=L then _ else _) _ _ f;rw[if_neg i,Db];first|exact e_ (m:=Yh _) (WM (k_ ⟨_,rfl,k_ h⟩) b)|exact e_ (m:=Yh _) (WM (e_ (k_ (k_ ⟨_,rfl,k_ h⟩))) b)|exact e_ (e_ (m:=Yh _) (WM (k_ (k_ ⟨_,rfl,k_ h⟩)) b))|exact e_ (e_ (m:=Yh _) (WM (k_ ⟨_,rfl,k_ h⟩) b))
end HT
variable{Η Ρ:Int%1}
namespace L2
abbrev TO:=St->Hp->(Int%1->Hp->Prop)->Prop
def PO(X:C)(e:t_%1)(t:TO):Prop:=∀(b:(O×Obj)%0)(s:h_)(a:St)(H:Hp)(Q:Int%1->Hp->Prop),Õ X b a H s->t a H Q->w_ (D_ X.prog X.w) X.A (evalPart e X.env) (λu f=>∃o d,Õ X b a d f/\abF u o/\Q o d) X.xe s
def Hr:TO:=λ_ H Q=>Q U H
def Rv(t:TE):TO:=λa H Q=>t a H λx b=>∃i,x=.int i/\Q (Z i) b
def Hs:PO a U Hr:=by intro d s b H Q I h;rw[evalPart_none];exact k_ ⟨U,H,I,.none,h⟩
def Ht(h:PE a g Φ):PO a (Z g) (Rv Φ):=by intro j s b H Q I f;rw[evalPart_some];refine ê (h j s b H _ I f) λu n⟨x,m,k,d,e⟩=>?_;obtain⟨i,rfl,q⟩:=e;obtain⟨t,rfl⟩:=d;exact⟨Z i,m,k,.int i t,q⟩
def V'(X:C)(r:V->Int%1->Int%1->Hp->VK->Prop):Prop:=∀(g:(O×Obj)%0)(s:h_)(a:St)(H:Hp)(x:V)(v d b:B)(lo f:Int%1)(e:O)(Q:VK),Õ X g a H s->â x v->s.heap.IsSliceOf e d b .none->abF d lo->abF b f->r x lo f H Q->∃T id,typeLookup (.type T) "__getitem__"=pure (Z (.builtin id))/\s.TypeIs v T/\w_ (D_ X.prog X.w) X.A (abA v (.ref e)) (EP X g a Q) X.xe s
def V'.or{r j:V->Int%1->Int%1->Hp->VK->Prop}(h:V' a r)(o:V' a j):V' a (λx lo b H Q=>r x lo b H Q\/j x lo b H Q):=by
 intro n s d H x v f e lo b g Q I i m pl k q;rcases q with q|q;·exact h n s d H x v f e lo b g Q I i m pl k q
 ·exact o n s d H x v f e lo b g Q I i m pl k q
def tSl(r:V->Int%1->Int%1->Hp->VK->Prop)(e:TE)(b d:TO):TE:=λa H Q=>e a H λx h=>b a h λl g=>d a g λu f=>r x l u f Q
def vK{k m:t_%1}{n p:TO}{r:V->Int%1->Int%1->Hp->VK->Prop}(hr:V' a r)(he:PE a g Φ)(hl:PO a k n)(hu:PO a m p):PE a (.Subscript g (.Slice k m U w) o) (tSl r Φ n p):=by intro f s e H Q I h;refine Subscript_ (ê (he f s e H _ I h) λv A⟨x,H1,I1,E,q1⟩=>?_);refine wpAny_Slice (ê (hl f A e H1 _ I1 q1) λj z⟨l,H2,I2,pl,q2⟩=>ê (hu f z e H2 _ I2 q2) λi d⟨u,y,I3,pu,q3⟩=>?_);rw[evalPart_none];refine k_ ?_;have I4:Õ a f e y {d with heap:=d.heap.push {cls:=.type "slice",data:=.fields #[j,i,.none]}}:=I3.kept (t':=d.toks) λb ob q=>l_ _ q;obtain⟨T,id,hT,ht,hg⟩:=hr f {d with heap:=d.heap.push {cls:=.type "slice",data:=.fields #[j,i,.none]}} e y x v j i l u d.heap.objs.size Q I4 E (Heap.IsSliceOf.new ..) pl pu q3;show w_ (D_ a.prog a.w) a.A (subscriptTail g (.Slice k m U w) v (.ref d.heap.objs.size)) (EP a f e Q) a.xe {d with heap:=d.heap.push {cls:=.type "slice",data:=.fields #[j,i,.none]}};exact tail_any (ops:=[.ref d.heap.objs.size,v]) ht hT hg (by with_unfolding_all rfl)
def Dc(a:V%0)(b d:Int%1):V%0:=(a.drop (HT.sIx a.length 0 b)).take (HT.sIx a.length a.length d-HT.sIx a.length 0 b)
def mO(a:V%0)(b d:Int%1):(Dc a b d).length<=a.length:=by unfold Dc;rw[aby,Z1];omega
def Vi(K:d_):V->Int%1->Int%1->Hp->VK->Prop:=λx lo d H Q=>∃a b,x=.ref a/\Ā K H a b/\¬(HT.sIx b.length 0 lo=0/\HT.sIx b.length b.length d=b.length)/\∀p,H p=U->Q (.ref p) (æ H p (.tup (Dc b lo d)))
def sl_tup:V' a (Vi a.K):=by
 intro f' s w H x v z y lo g A Q I m u pl n h;obtain⟨d,f,rfl,o,p,q⟩:=h;cases m;obtain⟨i,r,k,j⟩:=I.tuple o;have e:i.toArray.size=f.length:=by rw[H_];exact r.length.symm
 refine⟨"tuple",_,WI.lookup,k.typeIs,?_⟩;refine HT.getItem_tuple_cut k u pl n (by rw[e];exact p) ?_ (by rw[e];exact j);rw[e];refine⟨.ref s.heap.objs.size,_,I.laid (t':=s.toks) (o:=.tup (Dc f lo g)) (λb E q=>l_ _ q) (rl _) ?_,rfl,q _ (I.hok.fresh (rl _))⟩;exact⟨Wa (mO f lo g) j,_,(r.drop (HT.sIx f.length 0 lo)).take (HT.sIx f.length f.length g-HT.sIx f.length 0 lo),ad9 _ _⟩
def L5(K:d_):R2:=λx y H Q=>∃a b e d,x=.ref a/\y=.ref b/\Ā K H a e/\Ā K H b d/\e≠[]/\e.length+d.length<=sizeLine/\(d=[]->Q (.ref a) H)/\(d≠[]->∀p,H p=U->Q (.ref p) (æ H p (.tup (e++d))))
def Ú.nil_iff(r:Ú ν ξ):ξ=[]↔ν=[]:=by cases r with|nil=>simp|cons _ _=>simp
def op_catT:ă a (Xn .Add) (L5 a.K):=by intro f' s σ H x y v u Q I n m h;obtain⟨d,b,k,j,rfl,rfl,ha,hb,E,g,p,o⟩:=h;cases n;cases m;obtain⟨a',f,A,_⟩:=I.tuple ha;obtain⟨i,e,r,_⟩:=I.tuple hb;refine HT.cat_tup A r (λz=>E (f.nil_iff.mp z)) (λz=>⟨.ref d,H,I,rfl,p (e.nil_iff.mp z)⟩) (λz=>?_) (by rw[<-f.length,<-e.length];exact g);refine⟨.ref s.heap.objs.size,_,I.laid (t':=s.toks) (o:=.tup (k++j)) (λb ob q=>l_ _ q) (rl _) ?_,rfl,o (λw=>z (e.nil_iff.mpr w)) _ (I.hok.fresh (rl _))⟩;exact⟨by rw[Ws];exact g,_,f.append e,ad9 _ _⟩
def ixN(n:Nat)(i:Int):Nat%1:=if 0<=i then(if i<n then Z i.toNat else U)else if-(n:Int)<=i then Z (i+n).toNat else U
def atI(a:θ%0)(i:Int):θ%1:=(ixN a.length i).bind λj=>a[j]?
def ze(h:ixN b m=Z j):seqIndex? m b=Z j/\j<b/\-(b:Int)<=m/\m<b:=by
 unfold ixN at h;by_cases d:0<=m
 · rw[if_pos d]at h;by_cases a:m<b;·rw[if_pos a]at h;have e:m.toNat=j:=Wj h;exact⟨by rw[adx d a,e],by omega,by omega,a⟩
   ·rw[if_neg a]at h;cases h
 · rw[if_neg d]at h;by_cases a:-(b:Int)<=m;·rw[if_pos a]at h;have e:(m+b).toNat=j:=Wj h;exact⟨by rw[seqIndex_neg () a,e],by omega,a,by omega⟩
   ·rw[if_neg a]at h;cases h
def uA{a:θ%0}(h:atI a m=Z Ó):∃j,seqIndex? m a.length=Z j/\a[j]?=Z Ó/\j<a.length/\-(a.length:Int)<=m/\m<a.length:=by unfold atI at h;cases e:ixN a.length m with|none=>rw[e]at h;cases h|some j=>rw[e]at h;obtain⟨g,f,d,b⟩:=ze e;exact⟨j,g,h,f,d,b⟩
def zg(b:t_):Prop:=∀o i,adu b D o i=operate [o,i] (abA o i)
def IxR(X:C)(r:R2):Prop:=∀(b a:t_)(e:(O×Obj)%0)(s:h_)(d:St)(H:Hp)(x y:V)(v u:B)(Q:VK),Õ X e d H s->â x v->â y u->r x y H Q->adu a D v u=operate [v,u] (abA v u)->w_ (D_ X.prog X.w) X.A (subscriptTail b a v u) (EP X e d Q) X.xe s
def Š(X:C)(e:String)(r:V->V%0->Hp->VK->Prop):Prop:=∀(d:(O×Obj)%0)(s:h_)(a:St)(H:Hp)(x:V)(b:V%0)(v:B)(us:B%0)(Q:VK),Õ X d a H s->â x v->Ú b us->r x b H Q->w_ (D_ X.prog X.w) X.A (call (.builtin e) (v::us)) (EP X d a Q) X.xe s
def IxR.or{r i:R2}(h:IxR a r)(m:IxR a i):IxR a (λx y H Q=>r x y H Q\/i x y H Q):=by
 intro b d k s e H x y v u Q I g f q j;rcases q with q|q;·exact h b d k s e H x y v u Q I g f q j
 ·exact m b d k s e H x y v u Q I g f q j
def Rw{d:TE}{r:R2}(m:IxR a r)(p:PE a g Φ)(n:PE a y d)(k:zg y):PE a (.Subscript g y o) (tOp r Φ d):=by intro w s e H Q I h;exact Subscript_ (Rm p n I h λv u f x b A z j i q=>m g y w f e A x b v u Q z j i q (k _ _))
def Ug(K:d_):R2:=λx y H Q=>∃p a i v,x=.ref p/\y=.int i/\č K H p a/\atI a i=Z v/\Q v H
def Uh(K:d_):R2:=λx y H Q=>∃p a i v,x=.ref p/\y=.int i/\Ā K H p a/\atI a i=Z v/\Q v H
def Ui:R2:=λx y H Q=>∃z i c,x=.str z/\y=.int i/\z.length<=sizeLine/\atI z.cps.toList i=Z c/\Q (.str ⟨#[c]⟩) H
def ix_list:IxR a (Ug a.K):=by
 intro k m E s n H x y v u Q I rx ry h o;obtain⟨p,xs,i,z,rfl,rfl,hq,he,q⟩:=h;cases rx;obtain⟨t,rfl⟩:=ry;obtain⟨g,r,pl,hz⟩:=I.list hq;obtain⟨j,d,h2,h3,h4,h5⟩:=uA he;obtain⟨w,ew,f⟩:=r.get h2;have hl:=r.length;have hn:=rQ;have b:EP a E n Q w s:=⟨z,H,I,f,q⟩;by_cases A:0<=i
 · have e:i.toNat=j:=by rw[adx A h5]at d;exact Wj d
   exact item_listR pl.isList A () (by rw[e];simpa using ew) b o
 · have e:(i+(g.toArray.size:Int)).toNat=j:=by rw[seqIndex_neg () h4]at d;rw[H_,<-hl];exact Wj d
   exact abJ (x:=w) pl.isList.typeIs slot_list_getitem.lookup (wpAny_getItem_list_neg (Q:=λr s'=>r=w/\EP a E n Q r s') pl.isList () (by rw[H_]<;>omega) () (by rw[e];simpa using ew) ⟨rfl,b⟩) o
def ix_tup:IxR a (Uh a.K):=by intro e f k s g H x y v u Q I o n h A;obtain⟨p,xs,i,z,rfl,rfl,E,he,q⟩:=h;cases o;obtain⟨t,rfl⟩:=n;obtain⟨a',r,pl,hz⟩:=I.tuple E;obtain⟨j,h1,h2,h3,h4,h5⟩:=uA he;obtain⟨w,ew,b⟩:=r.get h2;have hl:=r.length;have hn:=rQ;have d:EP a k g Q w s:=⟨z,H,I,b,q⟩;exact abJ (x:=w) pl.typeIs slot_tuple_getitem.lookup (getItem_tuple (j:=j) (Q:=λr m=>r=w/\EP a k g Q r m) pl () () (by rw[H_,<-hl];exact h1) (by simpa using ew) ⟨rfl,d⟩) A
def L6:IxR a Ui:=by
 intro b d f' s E H x y v u Q I g f h k;obtain⟨z,i,c,rfl,rfl,hz,n,q⟩:=h;obtain⟨t,rfl⟩:=g;obtain⟨t',rfl⟩:=f;obtain⟨j,e,r,h3,p,o⟩:=uA n;have m:z.cps.toList.length=z.length:=by simp[aaJ]
 rw[m]at e p o;have hn:=rQ;exact tail_any (Zj s z t) slot_str_getitem.lookup (getItem_str (c:=c) (by have A:o_ (i< -(2^63:Int))=D:=decide_eq_false ();have w:o_ (i>=2^63)=D:=decide_eq_false ();rw[A,w,acB]) (by rw[e];simpa using r) ⟨.str ⟨#[c]⟩,H,I.tok _,⟨_,rfl⟩,q⟩) k
def rIx(K:d_):R2:=λx y H Q=>Ug K x y H Q\/Uh K x y H Q\/Ui x y H Q
def L7:IxR a (rIx a.K):=ix_list.or (ix_tup.or L6)
def xo(a:B%0)(n j:Nat)(u:B):Wy (·.setIfInBounds j u) {cls:=.type "list",data:=.seq a.toArray n}={cls:=.type "list",data:=.seq (a.set j u).toArray n}:=by simp[Wy]
def Õ.lst(I:Õ a ε Ψ h f)(b:h e=Z (.lst ν)):∃(g:B%0)(n:Nat),Ú ν g/\f.heap.get? e=Z {cls:=.type "list",data:=.seq g.toArray n}/\ν.length<=sizeLine:=by obtain⟨z,g,n,r,d⟩:=I.hok e _ b;exact⟨g,n,r,d,z⟩
def Õ.lstUpd{n:V%0}{m:B%0}{d:Obj->Obj}(I:Õ a ε Ψ h f)(i:h e=Z (.lst ν))(s:f.heap.get? e=Z {cls:=.type "list",data:=.seq ξ.toArray b})(o:d {cls:=.type "list",data:=.seq ξ.toArray b}={cls:=.type "list",data:=.seq m.toArray j})(r:Ú n m)(p:n.length<=sizeLine)(t:Nat):Õ a ε Ψ (æ h e (.lst n)) {f with heap:=f.heap.update e d,toks:=t}:=by
 have g:(f.heap.update e d).get? e=Z {cls:=.type "list",data:=.seq m.toArray j}:=by rw[YO d s (by rw[o]<;>rfl),o]
 refine I.write (x:=e) (e:=e) (by rw[i];trivial) (.inl rfl) (λk u v q=>(ZF _ _ (WO v)).trans q) ⟨_,g⟩ ?_;exact⟨p,m,j,r,g⟩
def Rx:V->V->V->Hp->(Hp->Prop)->Prop:=λo i v H Q=>∃p a k j,o=.ref p/\i=.int k/\H p=Z (.lst a)/\ixN a.length k=Z j/\Q (æ H p (.lst (a.set j v)))
def Dd:Ua a Rx:=by
 intro f' s E H o i v ov iv u Q I ro ri rv h;obtain⟨p,xs,k,j,rfl,rfl,m,hj,q⟩:=h;cases ro;obtain⟨t,rfl⟩:=ri;obtain⟨b,n,r,e,hz⟩:=I.lst m;obtain⟨d,h2,y,w⟩:=ze hj;have f:=r.length;have hn:=rQ;have A:Õ a f' E (æ H p (.lst (xs.set j v))) {s with heap:=s.heap.update p (Wy (·.setIfInBounds j u))}:=I.lstUpd m e (xo b n j u) (r.set rv j) (by rw[Wl];exact hz) s.toks;by_cases z:0<=k
 · have g:k.toNat=j:=by rw[adx z w]at d;exact Wj d
   exact PySem.W.ki_setAt e z () (by rw[H_,<-f];exact w) (by rw[g];exact⟨_,A,q⟩)
 · have g:(k+(b.toArray.size:Int)).toNat=j:=by rw[seqIndex_neg () y]at d;rw[H_,<-f];exact Wj d
   exact PySem.W.ki_setBack e () (by rw[H_,<-f];exact y) () (by rw[g];exact⟨_,A,q⟩)
def rX(a b:Int%1)(n:Nat):(Zp a b U n).1=((HT.sIx n 0 a:Nat):Int)/\(Zp a b U n).2.1=((HT.sIx n n b:Nat):Int)/\(Zp a b U n).2.2=1:=by
 refine⟨?_,?_,rfl⟩;·cases a with|none=>simp[Zp,HT.sIx]|some i=>
  simp![Zp,HT.sIx,adm,show(1:Int)>0 by decide,if_true];by_cases h:i<0;·simp![h,if_true]<;>omega
  ·simp![h,if_false]<;>omega
 ·cases b with|none=>simp[Zp,HT.sIx]|some i=>
  simp![Zp,HT.sIx,adm,show(1:Int)>0 by decide,if_true];by_cases h:i<0;·simp![h,if_true]<;>omega
  ·simp![h,if_false]<;>omega
def pU(a:B%0)(b d:Int%1):slicePick a.toArray b d U=((a.drop (HT.sIx a.length 0 b)).take (HT.sIx a.length a.length d-HT.sIx a.length 0 b)).toArray:=by obtain⟨g,f,e⟩:=rX b d a.toArray.size;unfold slicePick;rw[g,f,e];simp![sliceRange_one,pick_run,H_]<;>rfl
def Vj(K:d_):V->Int%1->Int%1->Hp->VK->Prop:=λx lo d H Q=>∃a b,x=.ref a/\č K H a b/\∀p,H p=U->Q (.ref p) (æ H p (.lst (Dc b lo d)))
def zh:V' a (Vj a.K):=by intro E s u H x v y w lo g z Q I j o pl k h;obtain⟨d,e,rfl,n,q⟩:=h;cases j;obtain⟨p,r,i,m⟩:=I.list n;have f:=r.length;refine⟨"list",_,slot_list_getitem.lookup,i.isList.typeIs,?_⟩;refine wpAny_getItem_list_slice i.isList o pl k .none ∅ ?_ (by rw[H_]<;>omega);rw[pU,<-f];refine⟨.ref s.heap.objs.size,_,I.laid (t':=s.toks) (o:=.lst (Dc e lo g)) (λb A q=>l_ _ q) (rl _) ?_,rfl,q _ (I.hok.fresh (rl _))⟩;exact⟨Wa (mO e lo g) m,_,0,(r.drop (HT.sIx e.length 0 lo)).take (HT.sIx e.length e.length g-HT.sIx e.length 0 lo),xy _ rfl⟩
def ji:V->Bool|.non=>L|.bl _=>L|.int _=>L|.str _=>L|_=>D
def Ľ:V->V->Bool|.non,.non=>L|.bl a,.bl b=>a==b|.bl a,.int b=>(if a then 1 else 0)==b|.int a,.bl b=>a==(if b then 1 else 0)|.int a,.int b=>a==b|.str a,.str b=>a==b|_,_=>D
def L8{x:V}{v:B}(g:â ψ Α)(d:â x v)(i:ji ψ=L)(h:ji x=L):SeqAt.EqAt I f Α v (Ľ ψ x):=by cases ψ with
 |non=>cases g;cases x with|non=>cases d;exact SeqAt.EqAt.same _|bl b=>cases d;exact SeqAt.EqAt.none_bool b|int b=>obtain⟨t,rfl⟩:=d;exact SeqAt.EqAt.none_int b t|str b=>obtain⟨t,rfl⟩:=d;exact SeqAt.EqAt.none_str b t|_=>exact absurd (show D=L from h) q_
 |bl a=>cases g;cases x with|non=>cases d;exact SeqAt.EqAt.bool_none a|bl b=>cases d;exact ab_ a b|int b=>obtain⟨t,rfl⟩:=d;exact SeqAt.EqAt.bool_int a b t|str b=>obtain⟨t,rfl⟩:=d;exact SeqAt.EqAt.bool_str a b t|_=>exact absurd (show D=L from h) q_
 |int a=>obtain⟨e,rfl⟩:=g;cases x with|non=>cases d;exact SeqAt.EqAt.int_none a e|bl b=>cases d;exact SeqAt.EqAt.int_bool a e b|int b=>obtain⟨t,rfl⟩:=d;exact SeqAt.EqAt.int_int a e b t|str b=>obtain⟨t,rfl⟩:=d;exact acG a e b t|_=>exact absurd (show D=L from h) q_
 |str a=>obtain⟨e,rfl⟩:=g;cases x with|non=>cases d;exact SeqAt.EqAt.str_none a e|bl b=>cases d;exact SeqAt.EqAt.str_bool a e b|int b=>obtain⟨t,rfl⟩:=d;exact acF a e b t|str b=>obtain⟨t,rfl⟩:=d;exact SeqAt.EqAt.str_str a e b t|_=>exact absurd (show D=L from h) q_
 |_=>exact absurd (show D=L from i) q_
def ń(x:V)(u:B):Bool:=match u with|.none=>Ľ .non x|.bool b=>Ľ (.bl b) x|.int i _=>Ľ (.int i) x|.str z _=>Ľ (.str z) x|_=>D
def vL{y:V}(r:â y Α)(f:ji y=L):ń ψ Α=Ľ y ψ:=by cases y with|non=>cases r;rfl|bl b=>cases r;rfl|int i=>obtain⟨t,rfl⟩:=r;rfl|str z=>obtain⟨t,rfl⟩:=r;rfl|_=>exact absurd (show D=L from f) q_
def mP{x:V}:∀{a:V%0}{us:B%0},Ú a us->a.all ji=L->us.any (ń x)=a.any λy=>Ľ y x|_,_,.nil,_=>rfl|y::a,u::us,.cons r t,f=>by rw[Xc,m_]at f;rw[Xv,Xv,vL r f.1,mP t f.2]
def iQ{A:B_}{s:h_}{x:V}{v:B}(d:â x v)(e:ji x=L):∀{b:V%0}{us:B%0},Ú b us->b.all ji=L->∀u∈us,SeqAt.EqAt A s u v (ń x u)
 |_,_,.nil,_=>λu a=>by cases a|y::b,u::us,.cons r t,f=>λg a=>by
  rw[Xc,m_]at f;rcases v_.mp a with rfl|a;·rw[vL r f.1];exact L8 r d f.1 e
  ·exact iQ d e t f.2 g a
def inV(x:V)(a:V%0):Bool:=a.any λy=>Ľ y x
def rIn(K:d_)(b:Bool):R2:=λx y H Q=>∃p a,y=.ref p/\(č K H p a\/Ā K H p a)/\ji x=L/\a.all ji=L/\Q (.bl (if b then !inV x a else inV x a)) H
def zi:ă a (Wh .In) (rIn a.K D):=by
 intro n s k H x y v u Q I f i h;obtain⟨p,m,rfl,d,g,fs,q⟩:=h;cases i;rcases d with d|d;·obtain⟨b,r,pl,j⟩:=I.list d;refine SeqAt.in_listAt (ń x) pl.isList (λw e=>iQ f g r fs w (by simpa using e)) ⟨.bl _,H,I,rfl,?_⟩;rw[show b.toArray.any (ń x)=b.any (ń x)by simp,mP r fs];exact q
 ·obtain⟨b,r,pl,j⟩:=I.tuple d;refine SeqAt.in_tupleAt (ń x) pl (λw e=>iQ f g r fs w (by simpa using e)) ⟨.bl _,H,I,rfl,?_⟩;rw[show b.toArray.any (ń x)=b.any (ń x)by simp,mP r fs];exact q
def rY:ă a (Wh .NotIn) (rIn a.K L):=by
 intro n s k H x y v u Q I f i h;obtain⟨p,m,rfl,d,g,fs,q⟩:=h;cases i;rcases d with d|d;·obtain⟨b,r,pl,j⟩:=I.list d;refine SeqAt.notIn_listAt (ń x) pl.isList (λw e=>iQ f g r fs w (by simpa using e)) ⟨.bl _,H,I,rfl,?_⟩;rw[show b.toArray.any (ń x)=b.any (ń x)by simp,mP r fs];exact q
 ·obtain⟨b,r,pl,j⟩:=I.tuple d;refine SeqAt.notIn_tupleAt (ń x) pl (λw e=>iQ f g r fs w (by simpa using e)) ⟨.bl _,H,I,rfl,?_⟩;rw[show b.toArray.any (ń x)=b.any (ń x)by simp,mP r fs];exact q
def op_notIn_str:ă a (Wh .NotIn) (λx y H Q=>∃i j,x=.str i/\y=.str j/\Q (.bl (!(!(Wq j i 0 j.length 1).isEmpty))) H):=by intro g s e H x y v u Q I d b h;obtain⟨i,j,rfl,rfl,q⟩:=h;obtain⟨t,rfl⟩:=d;obtain⟨f,rfl⟩:=b;exact notIn_str ⟨.bl _,H,I,rfl,q⟩
def pW:l4 a (.type "tuple") (λm H Q=>∃p f,m=[.ref p]/\((č a.K H p f/\∀l,H l=U->Q (.ref l) (æ H l (.tup f)))\/(Ā a.K H p f/\Q (.ref p) H))):=by
 intro v s k H m us Q I r h;obtain⟨p,f,rfl,h⟩:=h;obtain⟨u,rfl,z⟩:=iP r;cases z;rcases h with⟨j,q⟩|⟨j,q⟩
 ·obtain⟨d,i,pl,n⟩:=I.list j;have y:=i.length;refine call_tuple_list pl.isList (λg A=>?_) (by simp![H_]<;>omega);have w:Õ a v k H {s with heap:=g}:=I.kept (t':=s.toks) A;have E:Õ a v k (æ H g.objs.size (.tup f)) {s with heap:=g.push {cls:=.type "tuple",data:=.seq d.toArray}}:=w.laid (t':=s.toks) (λb o e=>l_ _ e) (rl _) (show í a.prog a.w _ _ _ (.tup f)from⟨n,d,i,ad9 _ _⟩);exact⟨.ref g.objs.size,_,E,rfl,q _ (w.hok.fresh (rl _))⟩
 ·obtain⟨d,i,pl,n⟩:=I.tuple j;exact call_tuple_same pl ⟨.ref p,H,I,rfl,q⟩
def tyV(K:d_)(T:String)(x:V)(H:Hp):Prop:=match x with|.str _=>T="str"|.int _=>T="int"|.ref p=>(T="list"/\∃b,č K H p b)\/(T="tuple"/\∃o,K.lookup p=Z o/\o.cls=.type "tuple"/\o.dict=U)\/(T="dict"/\((∃a,H p=Z (.dK a))\/∃a,H p=Z (.dT a)))\/(T="set"/\∃S n,H p=Z (.set S n))|_=>False
def FY{T:String}(I:Õ a ε Ψ h f)(r:â ψ Α)(j:tyV a.K T ψ h):f.TypeIs Α T/\∀b,Α=.ref b->∃s,f.heap.get? b=Z s/\s.dict=U:=by cases ψ with
 |str z=>obtain⟨t,rfl⟩:=r;cases(show T="str"from j);exact⟨Zj f z t,λ_ e=>nomatch e⟩|int i=>obtain⟨t,rfl⟩:=r;cases(show T="int"from j);exact⟨acD f i t,λ_ e=>nomatch e⟩|ref p=>
 cases r;rcases j with⟨rfl,y,u⟩|⟨rfl,o,d,v,k⟩|⟨rfl,d⟩|⟨rfl,S,n,d⟩;·obtain⟨w,_,pl,_⟩:=I.list u;refine⟨pl.isList.typeIs,λb e=>?_⟩;cases e;obtain⟨o,n,e,c,k,_⟩:=pl;exact⟨o,e,k⟩
 ·refine⟨⟨o,I.kIn p o d,v⟩,λb e=>?_⟩;cases e;exact⟨o,I.kIn _ o d,k⟩
 · have z:∃o,f.heap.get? p=Z o/\o.ExactDict:=by
    rcases d with⟨q,d⟩|⟨q,d⟩;·obtain⟨_,_,_,_,o,_,_,e,g,_⟩:=I.hok p _ d;exact⟨o,e,g⟩
    ·obtain⟨_,_,_,_,o,_,_,e,g,_⟩:=I.hok p _ d;exact⟨o,e,g⟩
   obtain⟨o,e,g⟩:=z;refine⟨⟨o,e,g.1⟩,λb m=>?_⟩;cases m;exact⟨o,e,g.2.1⟩
 ·obtain⟨o,_,_,_,e,g,_⟩:=I.hok p _ d;refine⟨⟨o,e,g.1⟩,λb m=>?_⟩;cases m;exact⟨o,e,g.2.1⟩|_=>exact Wg j
def Vk(K:d_)(T:String)(r:V->V%0->Hp->VK->Prop)(d:TE):TE:=λb H Q=>d b H λx a=>tyV K T x a/\r x [] a Q
def tBM(K:d_)(T:String)(r:V->V%0->Hp->VK->Prop)(e:TE)(t:TA):TE:=λa H Q=>e a H λx b=>tyV K T x b/\t a b λd f=>r x d f Q
def L9{T i:String}{r:V->V%0->Hp->VK->Prop}(z:PlainAttrs T)(f:Slot T d i)(j:acC (.builtin i)=pure (.type "method_descriptor"))(E:Š a i r)(A:PE a g Φ)(e:Wz g d a.env (eval g a.env)=eval g a.env:=by rfl)(b:(o.endLine==w.line)=L:=by rfl):PE a (.Call (.Attribute g d o) [] [] w) (Vk a.K T r Φ):=by intro n s k H Q I h;refine wpAny_Call_method0_late e b (ê (A n s k H _ I h) λv u⟨x,H1,p,m,q,y⟩=>?_);obtain⟨h1,h2⟩:=FY p m q;exact⟨T,i,z,f,j,h1,h2,YD rfl (aco (E n u k H1 x [] v [] Q p m .nil y))⟩
def zj{t:TA}{T k:String}{r:V->V%0->Hp->VK->Prop}(pa:PlainAttrs T)(i:Slot T d k)(p:acC (.builtin k)=pure (.type "method_descriptor"))(hm:Š a k r)(ho:PE a g Φ)(ha:PA a (y::u) t)(f:Wz g d a.env (eval g a.env)=eval g a.env:=by rfl)(j:((V6 w (j_ (y::u) a.env)).all (λx=>!x.1)&&(Xo w (WJ [] a.env)).all (λx=>x.1.isSome)&&o_ ((y::u).length+([]:Xu%0).length+(if([]:Xu%0).isEmpty then 0 else 1)<30))=L:=by rfl)(e:(o.endLine==w.line)=L:=by rfl)(hs:j_ (y::u) a.env=(D,eval y a.env)::j_ u a.env:=by rfl)(b:(V6 w (j_ u a.env)).any (·.1)=D:=by rfl):PE a (.Call (.Attribute g d o) (y::u) [] w) (tBM a.K T r Φ t):=by intro n s m H Q I h;refine wpAny_Call_method_late f j e rfl (ê (ho n s m H _ I h) λv s1⟨x,H1,z,q,E,q1⟩=>?_);obtain⟨h1,h2⟩:=FY z q E;refine⟨T,k,pa,i,p,h1,h2,?_⟩;have hA:=ha w n s1 m H1 _ z q1;rw[hs]at hA⊢;refine YD (by show(D||(V6 w (j_ u a.env)).any (·.1))=D;rw[b]<;>rfl) (aab ?_);exact ê hA λus s2⟨A,H2,I2,r2,q2⟩=>hm n s2 m H2 x A v us Q I2 q r2 q2
def MtM(X:C)(e:String)(r:V->V%0->Hp->VK->Prop):Prop:=∀(d:(O×Obj)%0)(s:h_)(a:St)(H:Hp)(x:V)(b:V%0)(v:B)(us:B%0)(Q:VK),Õ X d a H s->â x v->Ú b us->r x b H Q->w_ (D_ X.prog X.w) X.A (call (.builtin e) (v::us)) (EP X d a Q) X.xe s
def Ú.one:∀{x:V}{us:B%0},Ú [x] us->∃u,us=[u]/\â x u|_,_,.cons r .nil=>⟨_,rfl,r⟩
def Ú.two:∀{x y:V}{us:B%0},Ú [x,y] us->∃u v,us=[u,v]/\â x u/\â y v|_,_,_,.cons r (.cons q .nil)=>⟨_,_,rfl,r,q⟩
def Ú.zero:∀{us:B%0},Ú [] us->us=[]|_,.nil=>rfl
def Ú.dropLast(h:Ú ν ξ):Ú ν.dropLast ξ.dropLast:=by induction h with|nil=>exact .nil|cons r t a=>cases t with|nil=>exact .nil|cons q b=>exact .cons r a
def Ú.rep{a:V%0}{b:B%0}(h:Ú a b):∀k:Nat,Ú (u_ k a).flatten (u_ k b).flatten|0=>.nil|k+1=>by rw[W8,W8,X7,X7];exact Ú.append h (Ú.rep h k)
def xq(l:θ%0):l.eraseIdx (l.length-1)=l.dropLast:=by induction l with|nil=>rfl|cons a r d=>cases r with|nil=>rfl|cons b r=>
 have e:(a::b::r).length-1=((b::r).length-1)+1:=by have g:(a::b::r).length=r.length+2:=rfl;have f:(b::r).length=r.length+1:=rfl;omega
 rw[e,List.eraseIdx_cons_succ,d];all_goals rfl
def rZ(a:B%0):∀(k:Nat)(b:B%0),acL (λf d=>f++d) b.toArray (u_ k a.toArray)=(b++(u_ k a).flatten).toArray
 |0,b=>by simp|k+1,b=>by
  have e:b.toArray++a.toArray=(b++a).toArray:=by simp
  have g:(b++a)++(u_ k a).flatten=b++(u_ (k+1) a).flatten:=by rw[W8,X7,XB]
  rw[<-g,<-rZ a k (b++a),<-e,W8,Zh]
def Õ.lset{i:V%0}{its':B%0}{d:Array B->Array B}(I:Õ a ε Ψ h f)(r:h e=Z (.lst ν))(g:f.heap.get? e=Z {cls:=.type "list",data:=.seq ξ.toArray b})(o:d ξ.toArray=its'.toArray)(m:Ú i its')(k:i.length<=sizeLine):Õ a ε Ψ (æ h e (.lst i)) {f with heap:=f.heap.update e (Wy d),toks:=j}:=by have q:=adi g d;rw[o]at q;refine I.write (x:=e) (e:=e) (by rw[r];exact trivial) (.inl rfl) (λs u p n=>(ZF f.heap (Wy d) (WO p)).trans n) ⟨_,q⟩ ?_;exact⟨k,its',_,m,q⟩
def Õ.lnew{ys:V%0}{its:B%0}{t':Nat}(I:Õ a ε Ψ h f)(d:Ú ys its)(b:ys.length<=sizeLine):Õ a ε Ψ (æ h f.heap.objs.size (.lst ys)) {f with heap:=f.heap.push {cls:=.type "list",data:=.seq its.toArray},toks:=t'}:=I.laid (λ_ _ q=>l_ _ q) (rl _) ⟨b,its,0,d,xy _ rfl⟩
def Õ.fresh(I:Õ a ε Ψ h f):h f.heap.objs.size=U:=I.hok.fresh (rl _)
def Õ.lstM{l:O}{xs:V%0}(I:Õ a ε Ψ h f)(d:h l=Z (.lst xs)):xs.length<=sizeLine/\∃(b:B%0)(n:Nat),Ú xs b/\xs.length=b.length/\f.heap.get? l=Z {cls:=.type "list",data:=.seq b.toArray n}:=by obtain⟨z,b,n,r,e⟩:=I.hok l _ d;exact⟨z,b,n,r,r.length,e⟩
def De(h:b<=sizeLine):Zb b=D:=by unfold Zb;exact decide_eq_false ()
def Hu:V->V%0->Hp->VK->Prop:=λx b H Q=>∃l a y,x=.ref l/\b=[y]/\H l=Z (.lst a)/\a.length<sizeLine/\Q .non (æ H l (.lst (a++[y])))
def r9:MtM a "list.append" Hu:=by intro w s j H x m v us Q I f g h;obtain⟨l,k,y,rfl,rfl,d,o,q⟩:=h;cases f;obtain⟨u,rfl,i⟩:=g.one;obtain⟨z,b,n,r,p,e⟩:=I.lstM d;refine Yd YQ ⟨_,e,rfl⟩ acq (ace _ _) (acQ l b.toArray n u (by rw[H_];omega)) ⟨e,?_⟩;refine⟨.non,_,I.lset (its':=b++[u]) d e ∅ (r.append (.cons i .nil)) ?_,rfl,q⟩;rw[Ws,ab4];omega
def Vl:V->V%0->Hp->VK->Prop:=λx b H Q=>∃l a y,x=.ref l/\b=[]/\H l=Z (.lst a)/\a[a.length-1]?=Z y/\Q y (æ H l (.lst a.dropLast))
def Ma:MtM a "list.pop" Vl:=by
 intro f' s w H x E v us Q I i j h;obtain⟨l,A,y,rfl,rfl,g,m,q⟩:=h;cases i;have f:=j.zero;subst f;obtain⟨z,b,n,r,p,e⟩:=I.lstM g;obtain⟨u,o,k⟩:=r.get m;have d:b.toArray[b.toArray.size-1]?=Z u:=by show b.toArray[b.length-1]?=Z u;rw[<-XX,<-p];exact o
 refine Yd acH ⟨_,e,rfl⟩ F.entry_list_pop (F.args_list_pop_1 _) (MeetsSeq.list_pop_last l b.toArray n u d (by rw[H_];omega)) ⟨e,?_⟩;refine⟨y,_,I.lset (its':=b.dropLast) g e ?_ r.dropLast ?_,k,q⟩;·show b.toArray.eraseIdxIfInBounds (b.toArray.size-1)=b.dropLast.toArray;rw[H_,List.eraseIdxIfInBounds_toArray,xq]
 ·rw[List.length_dropLast];omega
def Uj:R2:=λx y H Q=>∃l b d a,x=.ref l/\y=.ref b/\H l=Z (.lst d)/\H b=Z (.lst a)/\d.length+a.length<=sizeLine/\∀p,H p=U->Q (.ref p) (æ H p (.lst (d++a)))
def FZ:ă a (Xn .Add) Uj:=by
 intro f' s w H x y v u Q I i g h;obtain⟨l,b,xs,A,rfl,rfl,k,hB,hz,q⟩:=h;cases i;cases g;obtain⟨z,f,n,r,hl,e⟩:=I.lstM k;obtain⟨E,d,n2,j,p,o⟩:=I.lstM hB;refine PySem.P.add_list e o ?_ (by rw[H_,H_];omega);have m:f.toArray++d.toArray=(f++d).toArray:=by simp
 rw[m];exact⟨.ref _,_,I.lnew (t':=s.toks) (r.append j) (by rw[Ws];omega),rfl,q _ I.fresh⟩
def Uk:R2:=λx y H Q=>∃l k a,x=.ref l/\y=.int k/\H l=Z (.lst a)/\-(2^63)<=k/\k<2^63/\a.length*k.toNat<=sizeLine/\∀p,H p=U->Q (.ref p) (æ H p (.lst (u_ k.toNat a).flatten))
def Hv(a:θ%0)(k:Nat):(u_ k a).flatten.length=k*a.length:=by induction k with|zero=>simp|succ k b=>rw[W8,X7,Ws,b,Nat.succ_mul,Nat.add_comm]
def op_rep:ă a (Xn .Mult) Uk:=by
 intro f' s σ H x y v u Q I rx ry h;obtain⟨l,k,xs,rfl,rfl,hH,h1,h2,A,q⟩:=h;cases rx;obtain⟨t,rfl⟩:=ry;obtain⟨z,d,n,r,hl,e⟩:=I.lstM hH;have i:d.toArray.size*k.toNat<=sizeLine:=by rw[H_,<-hl];exact A
 have o:¬d.toArray.size*k.toNat>(2^63-1)/8:=by
  have:(sizeLine:Nat)<=(2^63-1)/8:=by decide
  omega
 have j:¬(!Builtin.List.listFitsIndex k)=L:=by rw[fitsIndex_both h1 h2];exact q_
 have f:¬Zb (d.toArray.size*k.toNat)=L:=by rw[De i];exact q_
 have g:acL (λw p=>w++p) #[] (u_ (if d.toArray.isEmpty=L then 0 else k.toNat) d.toArray)=(u_ k.toNat d).flatten.toArray:=by
  have f0:∀m:Nat,acL (λw p=>w++p) #[] (u_ m d.toArray)=(u_ m d).flatten.toArray:=λm=>by have:=rZ d m [];rw[adE]at this;exact this
  rw[f0];cases d with|nil=>simp|cons b r'=>rw[if_neg ∅]
 refine wpAny_binaryOp_repeat_ref (T:="list") (U:="int") #v[] ⟨_,e,rfl⟩ (λE=>acD E k t) noFill_list_mul F.fills_int_mul F.slot_int_rmul repeat_list F.slot_int_index.lookup (Yd F.slot_int_rmul (acD s k t) F.entry_int_rmul (F.args_int_rmul_2 _ _) (int___rmul___int_list k t l d.toArray n) ⟨e,rfl,⟨_,e,rfl⟩,Yd F.slot_list_mul ⟨_,e,rfl⟩ F.entry_list_mul (F.args_list_mul_2 _ _) (AutoListH.list___mul___list_int_3 l d.toArray n k t j o f) ⟨e,?_⟩⟩);rw[g];exact⟨.ref _,_,I.lnew (t':=s.toks) (r.rep k.toNat) (by rw[Hv,ac3];exact A),rfl,q _ I.fresh⟩
end L2
namespace Att
open PySem.W PySem.Calls
def mQ{P:acb}:∀(d:Int%0)(e:B%0),WellAll P Q e (d.map WData.int)->adJ e d:=by intro d;induction d with|nil=>intro e w;rw[ZP]at w;cases w;exact .nil|cons n d f=>intro e w;rw[G_]at w;cases w with|cons a b=>cases a;exact .cons _ _ (f _ b)
def zk{l:OpenLaw}(y:l.most=Z b){P:acb}{h:O_}{args:WData%0}{f:B%0}(g:l.row.toRowW.claim.pre args=L)(n:WellAll P h f args):∃a o e,f=[C_ a]/\args=[WData.list (e.map WData.int)]/\h.get? a=Z {cls:=.type "list",data:=.seq o.toArray}/\adJ o e/\e.length<=b:=by
 have ĵ:WShape.hasAll [] args [.list .int]=L:=(pre_splitW g).1;have p:l.pre.holds [] {args:=args}=L:=(pre_splitW g).2;obtain⟨d,r,rfl,E,A⟩:=hasAllW_cons ĵ;obtain rfl:=hasAllW_nil A;obtain⟨H,rfl,z⟩:=hasW_list E;obtain⟨e,rfl⟩:=items_int z;have i:e.length<=b:=by
  unfold OpenLaw.pre at p;have m:(WTm.not (.lt (.lit (.int (b:Int))) (.len (.arg 0)))).holds [] {args:=[.list (e.map .int)]}=L:=by have m:=(holds_andW p).1;rw[y]at m;exact m
  have k:=condW_of m (w_not (w_lt w_lit (w_len_list (w_arg rfl))));rw[S_]at k;refine Nat.le_of_not_lt λq=>?_;have v:(b:Int)<((e.length:Nat):Int):=by omega
  first|(rw[decide_eq_true v]at k;exact absurd k #v[])|(simp at k;omega)
 cases n with|cons u s=>cases s;cases u with|list w j=>exact⟨_,_,e,rfl,rfl,w,mQ e _ j,i⟩
def zl(l:OpenLaw)(args:WData%0):l.row.toRowW.claim.post args (.bool L) args=L:=postW_of (r:=l.row.toRowW) (X:=(L==L)) (show WShape.has [] (.bool L) .bool=L by first|rfl|decide|simp[WShape.has,WShape.arms,WShape.armsAll]) (show(WTm.eq .res (.lit (.bool L))).value [] {args:=args,res:=Z (.bool L),after:=args}=Z (.bool (L==L))from w_eq_bool (w_res rfl) w_lit) rfl
def attach_call{l:OpenLaw}{XP:(Str->B%1)->O_->Prop}{YP:y_->O_->Prop}{d:DefRec}(hn:l.most=Z b)(a':d.params.defaults=[])(q:∀(w:y_)(g e:h_)(y E:Str->B%1)(k:O)(o:Obj)(A z h:B)(a:O)(j:B%0)(v:Int%0),Ground s H [] XP w g y E e.heap->YP w e.heap->e.heap.get? k=Z o->o.data=.func (docDef d.name d.params d.body d.scope A z h)->e.heap.CodeRec z d.name->y d.name=Z (.ref k)->e.heap.get? a=Z {cls:=.type "list",data:=.seq j.toArray}->adJ j v->v.length<=b->e.gens=#[]->Yl (D_ l.prog w) acm (.call (.ref k) ⟨[.ref a],[]⟩) (λr u=>r=.ok (.ret (.bool L))/\OldK e.heap u.heap/\u.os=e.os/\aay u.gens) e):WalkO s H XP YP l.row.toRowW d [] (λf j=>adM f j):=by intro w g e y E G Y k o A z h dV kV ho hd b' hD Q hg e' c' as m d' f' I g';obtain rfl:dV=.none:=Dflts.none hD a';obtain rfl:kV=.none:=Dflts.noKw hD;obtain⟨a,j,v,rfl,rfl,n,i,p⟩:=zk hn m I;refine enter_call (Yz (q w g e y E k o A z h a j v G Y ho (fd_plain hd) b' Q n i p hg) λr u hq=>?_);obtain⟨rfl,h2,h3,h4⟩:=hq;exact⟨.inl ⟨.bool L,.bool L,[],rfl,λ_=>rfl,.bool L,zl l _,λ_=>⟨aa6,λ_ hm=>(nomatch hm)⟩⟩,h2,h3,h4⟩
def Ul(h:O_)(b d:O):(O×Obj)%0:=(uk h.objs.size).filterMap λa=>if a=b\/a=d then U else(h.get? a).map λo=>(a,o)
end Att
namespace L2
def se:∀{a:B%0}{b:Int%0},adJ a b->Ú (b.map V.int) a|_,_,.nil=>.nil|_,_,.cons n t h=>.cons ⟨t,rfl⟩ (se h)
def QM(H:Hp):Prop:=∀b,H b=U\/∃o a,H b=Z (.frz o (.lst a))
def Df{mb:Str->B%1}{CX:ō}{sp:Sp}{ns:Int%0}(KX:q.In f.heap)(f':f.heap.Ns E_ Ζ)(A:f.heap.Ns aaG mb)(o':∀d:Str,d≠"__name__"->mb d=W0 d)(k':f.heap.NoLimit)(hg:f.gens=#[])(ha:f.heap.get? z=Z {cls:=.type "list",data:=.seq ξ.toArray})(hi:adJ ξ ns)(hl:ns.length<=sizeLine)(hr:å b acm)(F:∀I:O_,q.In I->I.Ns E_ Ζ->ö s r q Ζ I CX b e Æ [d] sp)(b':∀(w:h_)(u:B),abH w Æ ⟨[u],[]⟩ [(d,u)])(n':∀H:Hp,QM H->č q H z (ns.map V.int)->sp [.ref z] H (λv _=>v=.bl L) λ_ _ _=>False)(p':∀H g E,CX [] H f (λ_ _ _=>False) g E->False):Yl (D_ s r) acm (.call (.ref e) ⟨[.ref z],[]⟩) (λk E=>k=.ok (.ret (.bool L))/\OldK f.heap E.heap/\E.os=f.os/\aay E.gens) f:=by
 have rv:=se hi;have h':=hi.length;have a':∀H:Hp,QM H->č q H z (ns.map V.int)->ĕ s r H f.heap->(∀a,H a≠U->a=z)->(H z≠U->q.lookup z=U)->Yl (D_ s r) acm (.call (.ref e) ⟨[.ref z],[]⟩) (λk E=>k=.ok (.ret (.bool L))/\OldK f.heap E.heap/\E.os=f.os/\aay E.gens) f:=by
  intro H hO hS c' hA hK;have y:∀{a:O}{o:Obj},f.heap.get? a=Z o->H a=U->(CP f.heap H).get? a=Z o:=λg n=>CQ g n;have m':∀{a:O}{o:Obj}{es:Array DictEntry}{ep:Nat},f.heap.get? a=Z o->o.data=.dict es ep->H a=U:=λ{a o es ep}g p=>by cases j:H a with|none=>rfl|some u=>have e':a=z:=hA a (by rw[j];simp);subst e';rw[ha]at g;cases g;have d':Data.seq ξ.toArray _=X1 es ep:=p;cases d'
  have Q:∀{a:O}{m:Str->B%1},f.heap.Ns a m->(CP f.heap H).Ns a m:=λ{a m}⟨o,es,ep,g,p,k⟩=>⟨o,es,ep,y g (m' g p),p,k⟩;have g':q.In (CP f.heap H):=λa o g=>y (KX a o g) (by cases j:H a with|none=>rfl|some u=>have e':a=z:=hA a (by rw[j];simp);subst e';rw[hK (by rw[j];simp)]at g;cases g);have hM:Mod q Ζ (CP f.heap H):=⟨g',Q f',⟨mb,Q A,o'⟩,let⟨mc,h1,h2⟩:=k';⟨mc,Q h1,h2⟩⟩;have e0:Ń s r q Ζ (CP f.heap H) acm [] f H:=⟨rfl,hM,λa o g=>He g,aaA (yC _ _),trivial,λa A=>absurd (show a∈([]:O%0)from A) ∅,c',.of_eq hg⟩;refine Yz ((F _ g' (Q f')).run acm [] f H ⟨[.ref z],[]⟩ [.ref z] [.ref z] _ _ hr e0 (b' f (.ref z)) (.cons rfl .nil) (n' H hO hS)) λk E h=>?_;cases k with|error g=>exact(p' H g E h).elim|ok fl=>cases fl with|next=>exact Wg h|brk=>exact Wg h|cont=>exact Wg h|ret u=>obtain⟨v,H',os,l',un,i',r',j⟩:=h;have q':v=.bl L:=j;subst q';obtain rfl:u=T_ L:=r';refine⟨rfl,OldK.of_keep λa o g=>?_,os,l'⟩;cases j:H a with|none=>exact un.keep a o g j (by intro i;exact absurd (show a∈([]:O%0)from i) ∅) ∅|some u=>
    rcases hO a with i|⟨ob,xs,i⟩;·rw[j]at i;cases i
    ·have z2:=un.frzs a ob _ i;obtain⟨e1,_⟩:=c' a _ i;obtain⟨e2,_⟩:=i' a _ z2;rw[g]at e1;cases e1;exact e2
 cases hk:q.lookup z with|some o=>have g:=KX z o hk;rw[ha]at g;cases g;refine a' (λ_=>U) (λ_=>.inl rfl) (.inr ⟨_,ξ.toArray,_,hk,rfl,rfl,rfl,by rw[H_,h'];exact hl,by simpa using rv⟩) (λa u i=>by have z':(U:HO%1)=Z u:=i;cases z') (λa i=>absurd rfl i) λi=>absurd rfl i|none=>
  refine a' (λa=>if a=z then Z (.frz {cls:=.type "list",data:=.seq ξ.toArray} (.lst (ns.map V.int)))else U) (λa=>?_) (.inl (.inr ⟨{cls:=.type "list",data:=.seq ξ.toArray},if_pos rfl⟩)) (λa u i=>?_) (λa i=>?_) λ_=>hk
  · by_cases A:a=z;·exact .inr ⟨_,_,if_pos A⟩
    ·exact .inl (if_neg A)
  · by_cases A:a=z;·have z':=(if_pos A).symm.trans i;cases z';subst A;exact⟨ha,by rw[S_];exact hl,ξ,_,rv,ha⟩
    ·have z':=(if_neg A).symm.trans i;cases z'
  · by_cases A:a=z;·exact A
    ·exact absurd (if_neg A) i
def walk_of{l:abS}{XP:(Str->B%1)->O_->Prop}{YP:y_->O_->Prop}{k:DefRec}{K:acb->d_}{CX:y_->ō}{sp:y_->Sp}(hn:l.most=Z b)(a':b<=sizeLine)(c':k.params.defaults=[])(hr:å j acm)(hY:∀(w:y_)(h:O_),YP w h->(K w.params).In h)(F:∀(w:y_)(q:Str->B%1)(A:O)(h:O_),(K w.params).In h->h.Ns E_ q->q k.name=Z (.ref A)->∃I:WE,(∀(i:h_)(u:B),abH i I ⟨[u],[]⟩ [(d,u)])/\∀m:O_,(K w.params).In m->m.Ns E_ q->ö l.prog w (K w.params) q m (CX w) j A I [d] (sp w))(Q:∀(w:y_)(g:Hp)(a:O)(z:Int%0),z.length<=b->QM g->č (K w.params) g a (z.map V.int)->sp w [.ref a] g (λv _=>v=.bl L) λ_ _ _=>False)(d':∀(w:y_)(g:Hp)(i:h_)(e:B)(E:h_),CX w [] g i (λ_ _ _=>False) e E->False):ad4 s H XP YP l.row.toRowW k [] (λf vs=>adM f vs):=by refine Att.attach_call hn c' λw e' r q mb A o pm cd g' a vs z G Y ho hd f' b' y p n hg=>?_;have KX:=hY w _ Y;obtain⟨I,hb,hF⟩:=F w q A _ KX G.T.g b';exact Df KX G.T.g G.T.b G.T.builtins G.T.nolimit hg y p (Wa n a') hr hF hb (λg hO hS=>Q w g a z n hO hS) λg e E=>d' w g r e E
def bL(s:WA)(j:Nat):WA:=match s with|.ClassDef _ _ _ a _ _ _ _ _ _ _=>a.getD j (.Pass ⟨0,0,0,0⟩)|_=>.Pass ⟨0,0,0,0⟩
def iR(s:WA):Arguments:=match s with|.FunctionDef _ a _ _ _ _ _ _ _ _=>a|_=>{posonlyargs:=[],args:=[],vararg:=U,kwonlyargs:=[],kw_defaults:=[],kwarg:=U,defaults:=[]}
def bQ(s:WA):WA%0:=match s with|.FunctionDef _ _ b _ _ _ _ _ _ _=>b|_=>[]
def ao(s:WA):Xk:=match s with|.FunctionDef _ _ _ _ _ _ a _ _ _=>a|_=>{kind:=.function,names:=[],isGenerator:=D,isCoroutine:=D}
abbrev Ĳ:ō:=λ_ _ _ _ _ _=>False
abbrev E0:XK:=λ_ _ _=>False
def Mb:kz Ĳ a E0:=λ_ _ _ _ _ _ _ h=>h.elim
structure ł(K:d_)(x qual:Str)(st:WA)(f:O)(fd:WE):Prop where
 ex:∃(oc:B)(od:O%1)(kV doc pm:B)(an:O%1)(cdv ct:B)(osl:Array (B%1)),fd=Xr x qual (iR st) (bQ st) (ao st) .none kV doc pm an cdv ct/\K.lookup f=Z ⟨oc,od,.func fd,osl⟩/\ZB K cdv qual=L
 kp:WG K (.ref f)=L
def ł.ok{u:Str%0}{o:Sp}(F:ł q d p Γ e Æ)(S:il H u (ao Γ))(v:∀m f a E,o m f a E->m.length=u.length)(n:∀(k:B)(A:B_)(j:Env%0)(g:h_)(f:Hp)(m:V%0)(a:VK)(E:XK),å b (A.deeper (Yi p (ao Γ) g.heap.objs.size e k))->o m f a E->∃t,ŋ (oh Ĳ s r q Ζ Q H p (ao Γ) e k A j g f E).nox (bQ Γ) t/\t {nx:=λ_ H'=>a .non H',rt:=a} (start H m) f):ö s r q Ζ Q Ĳ (b+1) e Æ u o:=by obtain⟨oc,od,kV,b',pm,an,k,ct,a',rfl,z,y⟩:=F.ex;refine Da z y S v λA j g f m a E I w=>?_;obtain⟨t,h,i⟩:=n k A j g f m a E I w;exact⟨t,h.nox,i⟩
def ł.binds(F:ł q d p Γ e Æ)(h:∀(kV a f:B)(i:O%1)(b g:B)(us:B%0),us.length=H.length->acS (Xr d p (iR Γ) (bQ Γ) (ao Γ) .none kV a f i b g) ⟨us,[]⟩=pure (H.zip us)):õ q Æ H []:=by obtain⟨n,m,kV,a,f,i,b,g,j,rfl,o,k⟩:=F.ex;exact .all (h kV a f i b g)
def F0{m j:O%1}{f:Array (B%1)}{h b g a i:B}(l:q.lookup e=Z ⟨Α,m,.func (Xr d p (iR Γ) (bQ Γ) (ao Γ) .none h b g j a i),f⟩)(c:ZB q a p=L)(k:WG q (.ref e)=L):ł q d p Γ e (Xr d p (iR Γ) (bQ Γ) (ao Γ) .none h b g j a i):=⟨⟨Α,m,h,b,g,j,a,i,f,rfl,l,c⟩,k⟩
def Cv{A B:Prop}(h:B):if D=L then A else B:=by rw[if_neg q_];exact h
def Cw{A B:Prop}(h:A):if L=L then A else B:=by rw[if_pos rfl];exact h
def Ù(H a:Hp):Prop:=∀b o,H b=Z o->a b=Z o
def Ù.refl(H:Hp):Ù H H:=λ_ _ h=>h
def Ù.trans{e:Hp}(a:Ù h Δ)(b:Ù Δ e):Ù h e:=λc o d=>b c o (a c o d)
end L2
namespace FD
open L2
inductive N where|non|bl(b:Bool)|int(i:Int)|str(x:Str)|tup(xs:N%0)|lst(xs:N%0)|scr(ns:Int%0)|exn(c:Nat)|obj(k:Nat)(xs:N%0)
def ũ:Nat->Str|0=>"Keeper"|_=>"Desk"
def ě:Nat->Str%0|0=>["table","each","most","jar","latest"]|_=>["table","jar","done","undone"]
def į:Nat->Str|0=>"NoName"|1=>"NoTable"|2=>"NoPath"|3=>"NoAsk"|4=>"NoNote"|5=>"NoJar"|6=>"NoNumber"|7=>"NoText"|8=>"NoStep"|_=>"JarError"
def SqF(K:d_)(H:Hp)(a:O)(d:V%0):Prop:=(∃o,H a=Z (.frz o (.lst d)))\/∃(o:Obj)(b:Array B)(n:Nat),K.lookup a=Z o/\o.cls=.type "list"/\o.dict=U/\o.data=.seq b n/\b.size<=sizeLine/\Ú d b.toList
def SqF.l(a:SqF q h e ν):č q h e ν:=a.elim (λa=>.inl (.inr a)) .inr
mutual
def Ü(K:d_)(H:Hp):N->V->Prop|.non,v=>v=.non|.bl b,v=>v=.bl b|.int i,v=>v=.int i|.str x,v=>v=.str x|.tup ds,v=>∃a f,v=.ref a/\H a=Z (.tup f)/\S K H ds f|.lst ds,v=>∃a f,v=.ref a/\H a=Z (.lst f)/\S K H ds f|.scr g,v=>∃a,v=.ref a/\SqF K H a (g.map V.int)|.exn c,v=>∃a o u C,v=.ref a/\H a=Z (.frz o u)/\o.cls=.ref C/\Wv K E_ (į c)=Z (Z (.ref C))|.obj k ds,v=>∃a C h e,v=.ref a/\H a=Z (.ins C h ((ě k).zip e))/\Wv K E_ (ũ k)=Z (Z (.ref C))/\S K H ds e/\ds.length<=(ě k).length
def S(K:d_)(H:Hp):N%0->V%0->Prop|[],e=>e=[]|d::ds,e=>∃v us,e=v::us/\Ü K H d v/\S K H ds us
end
mutual
theorem Ü.mono{K:d_}{H g:Hp}(e:Ù H g):∀(d:N)(v:V),Ü K H d v->Ü K g d v|.non,_,h=>h|.bl _,_,h=>h|.int _,_,h=>h|.str _,_,h=>h|.tup ds,v,h=>by obtain⟨a,b,r,h,q⟩:∃a b,v=.ref a/\H a=Z (.tup b)/\S K H ds b:=h;exact⟨a,b,r,e _ _ h,S.mono e ds b q⟩|.lst ds,v,h=>by obtain⟨a,b,r,h,q⟩:∃a b,v=.ref a/\H a=Z (.lst b)/\S K H ds b:=h;exact⟨a,b,r,e _ _ h,S.mono e ds b q⟩|.scr j,v,h=>by obtain⟨a,r,h⟩:∃a,v=.ref a/\SqF K H a (j.map V.int):=h;exact⟨a,r,h.imp (λ⟨o,h⟩=>⟨o,e _ _ h⟩) id⟩|.exn c,v,h=>by obtain⟨a,o,u,C,r,h,q⟩:∃a o u C,v=.ref a/\H a=Z (.frz o u)/\o.cls=.ref C/\Wv K E_ (į c)=Z (Z (.ref C)):=h;exact⟨a,o,u,C,r,e _ _ h,q⟩|.obj k ds,v,h=>by obtain⟨a,C,i,f,r,h,n,q,l⟩:∃a C i f,v=.ref a/\H a=Z (.ins C i ((ě k).zip f))/\Wv K E_ (ũ k)=Z (Z (.ref C))/\S K H ds f/\ds.length<=(ě k).length:=h;exact⟨a,C,i,f,r,e _ _ h,n,S.mono e ds f q,l⟩theorem S.mono{K:d_}{H g:Hp}(e:Ù H g):∀(ds:N%0)(f:V%0),S K H ds f->S K g ds f|[],_,h=>h|d::ds,f,h=>by obtain⟨v,us,r,h,q⟩:∃v us,f=v::us/\Ü K H d v/\S K H ds us:=h;exact⟨v,us,r,Ü.mono e d v h,S.mono e ds us q⟩end
def S.nil:S q h [] []:=rfl
def S.cons{d e v b}(a:Ü q h d v)(t:S q h e b):S q h (d::e) (v::b):=⟨v,b,rfl,a,t⟩
def S.length{K:d_}{H:Hp}:∀{ds:N%0}{a:V%0},S K H ds a->a.length=ds.length|[],a,h=>by cases(show a=[]from h);rfl|d::ds,a,h=>by obtain⟨v,us,r,_,q⟩:∃v us,a=v::us/\Ü K H d v/\S K H ds us:=h;subst r;show us.length+1=ds.length+1;rw[S.length q]
def S.get{K:d_}{H:Hp}:∀{ds:N%0}{a:V%0}{i:Nat}{v:V},S K H ds a->a[i]?=Z v->∃d,ds[i]?=Z d/\Ü K H d v|[],a,i,v,h,e=>by cases(show a=[]from h);simp at e|d::ds,a,i,v,h,e=>by obtain⟨k,us,r,f,q⟩:∃v us,a=v::us/\Ü K H d v/\S K H ds us:=h;subst r;cases i with|zero=>simp at e;subst e;exact⟨d,rfl,f⟩|succ i=>obtain⟨j,g,b⟩:=S.get (i:=i) q (by simpa using e);exact⟨j,by simpa using g,b⟩
def S.get'{K:d_}{H:Hp}:∀{ds:N%0}{a:V%0}{i:Nat}{d:N},S K H ds a->ds[i]?=Z d->∃v,a[i]?=Z v/\Ü K H d v|[],a,i,v,h,e=>by simp at e|d::ds,a,i,m,h,e=>by obtain⟨b,us,r,g,q⟩:∃v us,a=v::us/\Ü K H d v/\S K H ds us:=h;subst r;cases i with|zero=>simp at e;subst e;exact⟨b,rfl,g⟩|succ i=>obtain⟨k,j,f⟩:=S.get' (i:=i) q (by simpa using e);exact⟨k,by simpa using j,f⟩
def S.append{K:d_}{H:Hp}:∀{ds b:N%0}{a us:V%0},S K H ds a->S K H b us->S K H (ds++b) (a++us)|[],b,a,us,h,q=>by cases(show a=[]from h);exact q|d::ds,b,a,us,h,q=>by obtain⟨f,e,r,g,t⟩:∃v us,a=v::us/\Ü K H d v/\S K H ds us:=h;subst r;exact⟨f,e++us,rfl,g,S.append t q⟩
def S.take{K:d_}{H:Hp}:∀{ds:N%0}{a:V%0}(n:Nat),S K H ds a->S K H (ds.take n) (a.take n)|ds,a,0,_=>by simp[S]|[],a,n+1,h=>by cases(show a=[]from h);exact rfl|d::ds,a,n+1,h=>by obtain⟨e,b,r,f,t⟩:∃v us,a=v::us/\Ü K H d v/\S K H ds us:=h;subst r;exact⟨e,b.take n,rfl,f,S.take n t⟩
def S.drop{K:d_}{H:Hp}:∀{ds:N%0}{a:V%0}(n:Nat),S K H ds a->S K H (ds.drop n) (a.drop n)|ds,a,0,h=>h|[],a,n+1,h=>by cases(show a=[]from h);exact rfl|d::ds,a,n+1,h=>by obtain⟨e,b,r,f,t⟩:∃v us,a=v::us/\Ü K H d v/\S K H ds us:=h;subst r;exact S.drop n t
variable{E:N%0}
def Ü.lstE(b:Ü q h (.lst E) ψ):∃a d,ψ=.ref a/\h a=Z (.lst d)/\S q h E d:=b
def Ü.tupE(b:Ü q h (.tup E) ψ):∃a d,ψ=.ref a/\h a=Z (.tup d)/\S q h E d:=b
def Ü.exnE(d:Ü q h (.exn b) ψ):∃a o u C,ψ=.ref a/\h a=Z (.frz o u)/\o.cls=.ref C/\Wv q E_ (į b)=Z (Z (.ref C)):=d
def Ü.objE(d:Ü q h (.obj b E) ψ):∃a C f e,ψ=.ref a/\h a=Z (.ins C f ((ě b).zip e))/\Wv q E_ (ũ b)=Z (Z (.ref C))/\S q h E e/\E.length<=(ě b).length:=d
def Ü.scrE{d:Int%0}(b:Ü q h (.scr d) ψ):∃a,ψ=.ref a/\č q h a (d.map V.int):=let⟨a,r,b⟩:∃a,ψ=.ref a/\SqF q h a (d.map V.int):=b;⟨a,r,b.l⟩
def aH(a:h e=U)(o:HO):Ù h (æ h e o):=λb u q=>by rw[ay (aF q a)];exact q
abbrev Ev:=Option N%0
structure ã(K:d_)(H:Hp)(σ:L2.St)(ρ:Ev):Prop where
 len:σ.length=ρ.length
 at':∀(i:Nat)(d:N),ρ[i]?=Z (Z d)->∃v,σ[i]?=Z (Z v)/\Ü K H d v
variable{Ι:L2.St}{ζ:Ev}
def ã.mono(E:ã q h Ι ζ)(e:Ù h Δ):ã q Δ Ι ζ:=⟨E.len,λi d a=>let⟨v,f,b⟩:=E.at' i d a;⟨v,f,Ü.mono e d v b⟩⟩
def ã.set{d:N}(E:ã q h Ι ζ)(r:Ü q h d ψ):ã q h (Ι.set b (Z ψ)) (ζ.set b (Z d)):=by
 refine⟨by rw[Wl,Wl];exact E.len,λj g a=>?_⟩;by_cases e:b=j
 · subst e;by_cases f:b<ζ.length;·rw[A_ f]at a;cases a;exact⟨ψ,by rw[A_ (by rw[E.len];exact f)],r⟩
   ·rw[WC (by rw[Wl];omega)]at a;cases a
 ·rw[p_ e]at a;rw[p_ e];exact E.at' j g a
def fgt(b:Nat%0)(a:Ev):Ev:=b.foldl (λr j=>r.set j U) a
def ã.fgt1(j:Nat)(E:ã q h Ι ζ):ã q h Ι (ζ.set j U):=by
 refine⟨by rw[Wl];exact E.len,λi d a=>?_⟩;by_cases b:j=i
 · subst b;by_cases e:j<ζ.length;·rw[A_ e]at a;cases a
   ·rw[WC (by rw[Wl];omega)]at a;cases a
 ·rw[p_ b]at a;exact E.at' i d a
def ã.fgt{K:d_}{H:Hp}{b:L2.St}:∀(a:Nat%0){d:Ev},ã K H b d->ã K H b (fgt a d)|[],_,E=>E|j::a,_,E=>ã.fgt a (E.fgt1 j)
inductive Rs(α:Type)where|ok(a:α)|exc(c:Nat)
abbrev ß:=N%0->Rs N%1
inductive Fl where|nx(ρ:Ev)|rt(d:N)|exc(c:Nat)
def KE(N:O->Prop)(H:Hp)(e:O)(d:B)(h:O_):Prop:=H e=U/\N e/\∃b a i,h.get? e=Z b/\b.cls=d/\b.data=.fields a/\a[0]?=Z i/\(a[1]?=Z .none\/∃T g f,a[1]?=Z (.ref T)/\T≠e/\H T=U/\N T/\h.get? T=Z g/\g.data=.fields f/\f[3]?=Z .none)
def Ry(X:C)(a:O):Prop:=X.s₀.heap.get? a=U/\∀p∈X.pn,p.1≠a
def Mc(X:C)(H:Hp)(c:Nat)(e:B)(s:h_):Prop:=∃a b,e=.ref a/\Wv X.K E_ (į c)=Z (Z (.ref b))/\KE (Ry X) H a (.ref b) s.heap
def XW(X:C)(c:Nat)(H:Hp):Prop:=∀d b a s e,Ù H a->Õ X d b a s->Mc X a c e s->X.xe e s
def XW.mono(d:XW a b h)(e:Ù h Δ):XW a b Δ:=λg f j s x i I q=>d g f j s x (e.trans i) I q
def ð(X:C)(H:Hp)(o:Rs N%1)(Q:VK):Prop:=match o with|none=>False|some (.exc c)=>XW X c H|some (.ok d)=>∀v a,Ù H a->Ü X.K a d v->Q v a
def ć(X:C)(H:Hp)(o:Rs Bool%1)(Q:Bool->Hp->Prop):Prop:=match o with|none=>False|some (.exc c)=>XW X c H|some (.ok d)=>∀a,Ù H a->Q d a
def ï(X:C)(H:Hp)(o:Rs (N%0)%1)(Q:V%0->Hp->Prop):Prop:=match o with|none=>False|some (.exc c)=>XW X c H|some (.ok ds)=>∀b a,Ù H a->S X.K a ds b->Q b a
def þ(X:C)(H:Hp)(o:Fl%1)(a:vD):Prop:=match o with|none=>False|some (.exc c)=>XW X c H|some (.rt d)=>∀v b,Ù H b->Ü X.K b d v->a.rt v b|some (.nx f)=>∀e b,Ù H b->ã X.K b e f->a.nx e b
def Þ{b:Type}(o:Rs θ%1)(k:θ->Rs b%1):Rs b%1:=match o with|none=>U|some (.exc c)=>c%9|some (.ok a)=>k a
def cV(o:Rs θ%1)(k:θ->Fl%1):Fl%1:=match o with|none=>U|some (.exc c)=>c%9|some (.ok a)=>k a
def sq(o:Fl%1)(k:Ev->Fl%1):Fl%1:=match o with|some (.nx a)=>k a|o=>o
def ð.mono(e:Ù h Δ):∀{o:Rs N%1},ð a h o Ò->ð a Δ o Ò|none,b=>b|some (.exc _),b=>XW.mono b e|some (.ok _),b=>λv f d r=>b v f (e.trans d) r
def ć.mono{d:Bool->Hp->Prop}(e:Ù h Δ):∀{o:Rs Bool%1},ć a h o d->ć a Δ o d|none,b=>b|some (.exc _),b=>XW.mono b e|some (.ok _),b=>λg f=>b g (e.trans f)
def ï.mono{d:V%0->Hp->Prop}(e:Ù h Δ):∀{o:Rs (N%0)%1},ï a h o d->ï a Δ o d|none,b=>b|some (.exc _),b=>XW.mono b e|some (.ok _),b=>λv g f r=>b v g (e.trans f) r
def þ.mono{d:vD}(e:Ù h Δ):∀{o:Fl%1},þ a h o d->þ a Δ o d|none,b=>b|some (.exc _),b=>XW.mono b e|some (.rt _),b=>λv g f r=>b v g (e.trans f) r|some (.nx _),b=>λv g f r=>b v g (e.trans f) r
def ð.bind{o:Rs N%1}{k:N->Rs N%1}{P:VK}(b:ð a h (Þ o k) Ò)(g:∀d v f,Ù h f->Ü a.K f d v->ð a f (k d) Ò->P v f):ð a h o P:=by match o,b with|some (.exc _),b=>exact b|some (.ok d),b=>exactλv i e r=>g d v i e r (ð.mono e b)
def ð.bindB{g:Bool->Hp->Prop}{o:Rs N%1}{k:N->Rs Bool%1}(b:ć a h (Þ o k) g)(i:∀d v f,Ù h f->Ü a.K f d v->ć a f (k d) g->Ò v f):ð a h o Ò:=by match o,b with|some (.exc _),b=>exact b|some (.ok d),b=>exactλv j e r=>i d v j e r (ć.mono e b)
def ð.bindA{g:V%0->Hp->Prop}{o:Rs N%1}{k:N->Rs (N%0)%1}(b:ï a h (Þ o k) g)(i:∀d v f,Ù h f->Ü a.K f d v->ï a f (k d) g->Ò v f):ð a h o Ò:=by match o,b with|some (.exc _),b=>exact b|some (.ok d),b=>exactλv j e r=>i d v j e r (ï.mono e b)
def ð.bindS{f:vD}{o:Rs N%1}{k:N->Fl%1}(b:þ a h (cV o k) f)(i:∀d v g,Ù h g->Ü a.K g d v->þ a g (k d) f->Ò v g):ð a h o Ò:=by match o,b with|some (.exc _),b=>exact b|some (.ok d),b=>exactλv j e r=>i d v j e r (þ.mono e b)
def ć.bind{o:Rs Bool%1}{k:Bool->Rs N%1}{P:Bool->Hp->Prop}(f:ð a h (Þ o k) Ò)(i:∀b g,Ù h g->ð a g (k b) Ò->P b g):ć a h o P:=by match o,f with|some (.exc _),f=>exact f|some (.ok d),f=>exactλj e=>i d j e (ð.mono e f)
def ć.bindB{i:Bool->Hp->Prop}{o:Rs Bool%1}{k:Bool->Rs Bool%1}{P:Bool->Hp->Prop}(f:ć a h (Þ o k) i)(j:∀b g,Ù h g->ć a g (k b) i->P b g):ć a h o P:=by match o,f with|some (.exc _),f=>exact f|some (.ok d),f=>exactλm e=>j d m e (ć.mono e f)
def ć.bindS{g:vD}{o:Rs Bool%1}{k:Bool->Fl%1}{P:Bool->Hp->Prop}(f:þ a h (cV o k) g)(j:∀b i,Ù h i->þ a i (k b) g->P b i):ć a h o P:=by match o,f with|some (.exc _),f=>exact f|some (.ok d),f=>exactλm e=>j d m e (þ.mono e f)
variable{Ω:ß}
def ï.bind{o:Rs (N%0)%1}{P:V%0->Hp->Prop}(b:ð a h (Þ o Ω) Ò)(i:∀ds g f,Ù h f->S a.K f ds g->ð a f (Ω ds) Ò->P g f):ï a h o P:=by match o,b with|some (.exc _),b=>exact b|some (.ok d),b=>exactλv j e r=>i d v j e r (ð.mono e b)
def ï.bindA{i:V%0->Hp->Prop}{o:Rs (N%0)%1}{k:N%0->Rs (N%0)%1}{P:V%0->Hp->Prop}(b:ï a h (Þ o k) i)(j:∀ds g f,Ù h f->S a.K f ds g->ï a f (k ds) i->P g f):ï a h o P:=by match o,b with|some (.exc _),b=>exact b|some (.ok d),b=>exactλv m e r=>j d v m e r (ï.mono e b)
abbrev Û:=Ev->Rs N%1
abbrev î:=Ev->Rs Bool%1
abbrev ë:=Ev->Rs (N%0)%1
abbrev ä:=Ev->Fl%1
abbrev ó:ä:=λa=>Z (.nx a)
def tF(X:C)(f:Û):TE:=λb H Q=>∃a,ã X.K H b a/\ð X H (f a) Q
def tT(X:C)(f:î):TT:=λb H Q=>∃a,ã X.K H b a/\ć X H (f a) Q
def tA(X:C)(f:ë):TA:=λb H Q=>∃a,ã X.K H b a/\ï X H (f a) Q
def tS(X:C)(f:ä):TS:=λa d H=>∃b,ã X.K H d b/\þ X H (f b) a
structure FE(X:C)(e:t_)(f:Û):Prop where h:PE X e (tF X f)
structure FT(X:C)(e:t_)(f:î):Prop where h:PT X e (tT X f)
structure FW(X:C)(e:t_)(f:î):Prop where h:PW X e (tT X f)
structure FA(X:C)(es:t_%0)(f:ë):Prop where h:PA X es (tA X f)
structure FS(X:C)(st:WA)(f:ä):Prop where h:PS X st (tS X f)
structure Ħ(X:C)(st:WA%0)(f:ä):Prop where h:ŋ X st (tS X f)
variable{A:Û}
def dI(h:PE a g Φ)(w:∀b H Q d,ã a.K H b d->ð a H (A d) Q->Φ b H Q):FE a g A:=⟨λe s b H Q I⟨d,E,o⟩=>h e s b H Q I (w b H Q d E o)⟩
variable{Ν:î}
def Dg{t:TT}(h:PT a g t)(w:∀b H Q d,ã a.K H b d->ć a H (Ν d) Q->t b H Q):FT a g Ν:=⟨λe s b H Q I⟨d,E,o⟩=>h e s b H Q I (w b H Q d E o)⟩
def Md{t:TT}(h:PW a g t)(w:∀b H Q d,ã a.K H b d->ć a H (Ν d) Q->t b H Q):FW a g Ν:=⟨λe f s b H Q I⟨d,E,o⟩=>h e f s b H Q I (w b H Q d E o)⟩
variable{Χ:ä}
def uC{t:TS}(h:PS a Γ t)(w:∀b d H e,ã a.K H d e->þ a H (Χ e) b->t b d H):FS a Γ Χ:=⟨λf s d H b I⟨e,E,o⟩=>h f s d H b I (w b d H e E o)⟩
def F1{t:TS}(h:ŋ a À t)(w:∀b d H e,ã a.K H d e->þ a H (Χ e) b->t b d H):Ħ a À Χ:=⟨λf s d H b I⟨e,E,o⟩=>h f s d H b I (w b d H e E o)⟩
def FW.ft(h:FW a g Ν):FT a g Ν:=⟨h.h _⟩
def Y(i:Nat):Û:=λa=>match a[i]? with|some (Z d)=>d%3|_=>U
def fC(d:N):Û:=λ_=>d%3
def Me(i:Nat)(h:PE a g (yF i)):FE a g (Y i):=dI h λj H Q k E o=>by
 unfold Y at o;split at o;·rename_i d b;obtain⟨v,f,e⟩:=E.at' i d b;exact⟨v,f,o v H (.refl H) e⟩
 ·exact o.elim
def ı(h:a.env.kindOf d=Z .globalImplicit):Gl a d:=h
def Rz(i:Nat){x:Str}(f:a.N[i]?=Z x:=by lk)(d:a.env.scope.names.lookup x=Z .local:=by lk)(e:(x==("__debug__":Str))=D:=by lk)(b:(x==("__classdict__":Str))=D:=by lk):FE a (.Name x o) (Y i):=Me i (yG f (.inl d) e b)
def RA(i:Nat){x:Str}(f:a.N[i]?=Z x:=by lk)(d:a.env.scope.names.lookup x=Z .cell:=by lk)(e:(x==("__debug__":Str))=D:=by lk)(b:(x==("__classdict__":Str))=D:=by lk):FE a (.Name x o) (Y i):=Me i (yG f (.inr (.inl d)) e b)
variable{i:N}
def Lg(h:PE a g (tC ψ))(r:∀K H,Ü K H i ψ):FE a g (fC i):=dI h λ_ H _ _ _ o=>o ψ H (.refl H) (r a.K H)
def Mf{i j}:FE a (.Constant (.int i) j o) (fC (.int i)):=Lg LC λ_ _=>rfl
def RB{b j}:FE a (.Constant (.bool b) j o) (fC (.bl b)):=Lg Ra λ_ _=>rfl
def Mg{j}:FE a (.Constant .none j o) (fC .non):=Lg LD λ_ _=>rfl
def Mh{x j}:FE a (.Constant (.str x) j o) (fC (.str x)):=Lg LF λ_ _=>rfl
def Hw{t:Tok}(e:Gl a d)(b:a.mg d=Z (.int m t))(f:(d==("__debug__":Str))=D:=by lk):FE a (.Name d o) (fC (.int m)):=Lg (uv (ψ:=.int m) e b ⟨t,rfl⟩ f) λ_ _=>rfl
def Hx{t:Tok}(e:Gl a d)(b:a.mg d=Z (.str p t))(f:(d==("__debug__":Str))=D:=by lk):FE a (.Name d o) (fC (.str p)):=Lg (uv (ψ:=.str p) e b ⟨t,rfl⟩ f) λ_ _=>rfl
def R(g:N->N->Rs N%1)(d b:Û):Û:=λa=>Þ (d a) λx=>Þ (b a) λy=>g x y
def ĝ(X:C)(r:R2)(g:N->N->Rs N%1):Prop:=∀b a x y H Q,Ü X.K H b x->Ü X.K H a y->ð X H (g b a) Q->r x y H Q
variable{Ä:Û}
def two{r:R2}{g:N->N->Rs N%1}(k:ĝ a r g){d:L2.St}{H:Hp}{Q:VK}{b:Ev}(E:ã a.K H d b)(o:ð a H (R g A Ä b) Q):tOp r (tF a A) (tF a Ä) d H Q:=⟨b,E,ð.bind o λe x s n h j=>⟨b,E.mono n,ð.bind j λp y q m f i=>k e p x y q Q (Ü.mono m e x h) f i⟩⟩
def uD{e:Operator}{r:R2}{b:N->N->Rs N%1}(f:ă a (Xn e) r)(h:ĝ a r b)(j:FE a g A)(i:FE a y Ä):FE a (.BinOp g e y o) (R b A Ä):=dI (LQ f j.h i.h) λ_ _ _ _ E d=>two h E d
def lT{e:adz}{r:R2}{b:N->N->Rs N%1}(f:ă a (Wh e) r)(i:ĝ a r b)(k:FE a g A)(j:FE a y Ä)(h:Wc e y=D):FE a (.Compare g [e] [y] o) (R b A Ä):=dI (Hk f k.h j.h h) λ_ _ _ _ E d=>two i E d
def ą:N->Rs Bool%1|.bl b=>b%3|_=>U
def fB(f:Û):î:=λa=>Þ (f a) ą
def pY{d:Bool->Hp->Prop}(r:Ü a.K h i ψ)(o:ć a h (ą i) d):∃k,ψ=.bl k/\d k h:=by cases i with|bl b=>exact⟨b,r,o h (.refl h)⟩|_=>exact o.elim
def kA{h:adz}{r:R2}{b:N->N->Rs N%1}(k:ă a (Wh h) r)(n:ĝ a r b)(q:FE a g A)(p:FE a y Ä)(m:Wc h y=D):FT a (.Compare g [h] [y] o) (fB (R b A Ä)):=Dg (yU k q.h p.h m) λi H Q s E f=>by show tOp r (tF a A) (tF a Ä) i H _;refine two n E ?_;exact ð.bindB f λd v u e r j=>pY r j
def Mi(i:FE a g A)(h:∀Ď,isTrue g a.env Ď=(do let v<-Ď;ack g.pos;Zd [v] (truthy v)):=by intro _;lk):FT a g (fB A):=Dg (LG i.h h) λj H Q b E o=>⟨b,E,ð.bindB o λd v k e r f=>pY r f⟩
def kB(g b:N->N->Rs N%1)(f e d:Û):Û:=λa=>Þ (f a) λx=>Þ (e a) λy=>Þ (g x y) λz=>Þ (ą z) λk=>if k then Þ (d a) λw=>b y w else .bl D%3
def mR(f g:î):î:=λa=>Þ (f a) λk=>if k then g a else D%3
def Č(f g:î):î:=λa=>Þ (f a) λk=>if k then L%3 else g a
def cw(f:î):î:=λa=>Þ (f a) λk=>(!k)%3
def Hy(b:FT a g Ν):FW a (.BoolOp .And [g] o) Ν:=⟨Hi b.h⟩
def Mj(b:FT a g Ν):FW a (.BoolOp .Or [g] o) Ν:=⟨LH b.h⟩
def F3{h:î}(m:FT a g Ν)(j:FW a (.BoolOp .And (y::u) o) h):FW a (.BoolOp .And (g::y::u) o) (mR Ν h):=Md (LJ m.h j.h) λn H Q d E b=>⟨d,E,ć.bindB b λk i e f=>by cases k with|true=>exact Cw ⟨d,E.mono e,f⟩|false=>exact Cv (f i (.refl i))⟩
def Ml{h:î}(m:FT a g Ν)(j:FW a (.BoolOp .Or (y::u) o) h):FW a (.BoolOp .Or (g::y::u) o) (Č Ν h):=Md (Rb m.h j.h) λn H Q d E b=>⟨d,E,ć.bindB b λk i e f=>by cases k with|true=>exact Cw (f i (.refl i))|false=>exact Cv ⟨d,E.mono e,f⟩⟩
def Mm(i:FT a g Ν):FT a (.UnaryOp .Not g o) (cw Ν):=Dg (LK i.h) λj H Q f E b=>⟨f,E,ć.bindB b λk d e h=>h d (.refl d)⟩
def li(f g:Û):Û:=λa=>Þ (f a) λx=>Þ (ą x) λk=>if k then g a else .bl D%3
def ľ(f g:Û):Û:=λa=>Þ (f a) λx=>Þ (ą x) λk=>if k then .bl L%3 else g a
def QN(f:Û):Û:=λa=>Þ (f a) λx=>Þ (ą x) λk=>.bl (!k)%3
def pZ{k:Bool->Rs N%1}(r:Ü a.K h i ψ)(o:ð a h (Þ (ą i) k) Ò):∃b,ψ=.bl b/\ð a h (k b) Ò:=by cases i with|bl b=>exact⟨b,r,o⟩|_=>exact o.elim
def Mn{b}(d:FE a g A):FE a (.BoolOp b [g] o) A:=⟨LL d.h⟩
def Mp(n:FE a g A)(m:FE a (.BoolOp .And (y::u) o) Ä):FE a (.BoolOp .And (g::y::u) o) (li A Ä):=dI (LM n.h m.h) λp H Q f E b=>⟨f,E,ð.bind b λd v i e r j=>by obtain⟨k,rfl,h⟩:=pZ r j;refine⟨k,rfl,?_⟩;cases k with|true=>exact Cw ⟨f,E.mono e,h⟩|false=>exact Cv (h (.bl D) i (.refl i) rfl)⟩
def RC(n:FE a g A)(m:FE a (.BoolOp .Or (y::u) o) Ä):FE a (.BoolOp .Or (g::y::u) o) (ľ A Ä):=dI (Rf n.h m.h) λp H Q f E b=>⟨f,E,ð.bind b λd v i e r j=>by obtain⟨k,rfl,h⟩:=pZ r j;refine⟨k,rfl,?_⟩;cases k with|true=>exact Cw (h (.bl L) i (.refl i) rfl)|false=>exact Cv ⟨f,E.mono e,h⟩⟩
def Mq(m:FE a g A):FE a (.UnaryOp .Not g o) (QN A):=dI (LN m.h) λn H Q h E b=>⟨h,E,ð.bind b λd v f e r j=>by obtain⟨k,rfl,i⟩:=pZ r j;exact⟨k,rfl,i (.bl (!k)) f (.refl f) rfl⟩⟩
def ĥ(c:î)(f g:Û):Û:=λa=>Þ (c a) λk=>if k then f a else g a
def RD(h:FT a Ê Ν)(j:FE a g A)(i:FE a y Ä):FE a (.IfExp Ê g y o) (ĥ Ν A Ä):=dI (vF h.h j.h i.h) λm H Q d E b=>⟨d,E,ć.bind b λk n e f=>by cases k with|true=>exact Cw ⟨d,E.mono e,f⟩|false=>exact Cv ⟨d,E.mono e,f⟩⟩
def dP:ë:=λ_=>Z (.ok [])
def aO(f:Û)(g:ë):ë:=λa=>Þ (f a) λx=>Þ (g a) λb=>(x::b)%3
abbrev aw(f:Û):ë:=aO f dP
abbrev bp(f g:Û):ë:=aO f (aw g)
abbrev bS(f g h:Û):ë:=aO f (bp g h)
abbrev mS(f g h k:Û):ë:=aO f (bS g h k)
abbrev mo(f g h k l:Û):ë:=aO f (mS g h k l)
abbrev uE(f g h k l m:Û):ë:=aO f (mo g h k l m)
abbrev X(i:Int):Û:=fC (.int i)
abbrev Ø(x:Str):Û:=fC (.str x)
variable{ο:ë}
def Mr{t:TA}(h:PA a u t)(w:∀b H Q d,ã a.K H b d->ï a H (ο d) Q->t b H Q):FA a u ο:=⟨λpos e s b H Q I⟨d,E,o⟩=>h pos e s b H Q I (w b H Q d E o)⟩
def zm:FA a [] dP:=Mr oN λ_ H _ _ _ o=>o [] H (.refl H) rfl
def uF(n:FE a g A)(m:FA a u ο)(k:g%8:=by lk):FA a (g::u) (aO A ο):=Mr (ij n.h m.h k) λq H Q b E o=>⟨b,E,ð.bindA o λd v s g r j=>⟨b,E.mono g,ï.bindA j λds e f p h i=>i (v::e) f (.refl f) ⟨v,e,rfl,Ü.mono p d v r,h⟩⟩⟩
def eU(g:ë):Û:=λa=>Þ (g a) λds=>if ds.length<=100000 then .lst ds%3 else U
def cT(g:ë):Û:=λa=>Þ (g a) λds=>if ds.length<=100000 then .tup ds%3 else U
def bT(h:b<=100000):b<=sizeLine:=Wa h (by rw[Zq];decide)
def Ms(h:FA a u ο):FE a (.List u o) (eU ο):=dI (zb h.h) λm H Q i E b=>⟨i,E,ï.bind b λds j n e f d=>by
 split at d;·rename_i k;refine⟨by rw[f.length];exact bT k,λp g=>d (.ref p) _ (aH g _) ⟨p,j,rfl,az,S.mono (aH g _) _ _ f⟩⟩
 ·exact d.elim⟩
def Mt{k}(h:FA a u ο):FE a (.Tuple u k o) (cT ο):=dI (LY h.h) λn H Q i E b=>⟨i,E,ï.bind b λds j q e f d=>by
 split at d;·rename_i m;refine⟨by rw[f.length];exact bT m,λp g=>d (.ref p) _ (aH g _) ⟨p,j,rfl,az,S.mono (aH g _) _ _ f⟩⟩
 ·exact d.elim⟩
def Hz:Ħ a [] (λd=>Z (.nx d)):=F1 uw λb e H d E o=>o e H (.refl H) E
def aQ(f g:ä):ä:=λa=>sq (f a) g
def Dh{g:ä}(k:FS a Γ Χ)(j:Ħ a À g):Ħ a (Γ::À) (aQ Χ g):=F1 (gT k.h j.h) λb p H i E o=>⟨i,E,by unfold aQ at o;match f:Χ i with|none=>rw[f]at o;exact o.elim|some (.exc c)=>rw[f]at o;exact o|some (.rt d)=>rw[f]at o;exact o|some (.nx h)=>rw[f]at o;exactλn q e m=>⟨h,m,þ.mono e o⟩⟩
def zn(b:FS a Γ Χ):Ħ a [Γ] Χ:=⟨pQ b.h⟩
def aR(f:Û):ä:=λa=>cV (f a) λd=>Z (.rt d)
def F4(j:FE a g A):FS a (.Return (Z g) o) (aR A):=uC (yI j.h) λe k H h E b=>⟨h,E,ð.bindS b λd v f g r i=>i v f (.refl f) r⟩
def RE:ä:=λ_=>Z (.rt .non)
def fA(f:Û):ä:=λa=>cV (f a) λ_=>Z (.nx a)
def HB(m:FE a g A)(k:WD g U o.line a.env=pure D:=by lk):FS a (.Expr g o) (fA A):=uC (ux m.h k) λe h H i E b=>⟨i,E,ð.bindS b λd v f g r j=>j h f (.refl f) (E.mono g)⟩
def cx(i:Nat)(f:Û):ä:=λa=>cV (f a) λd=>Z (.nx (a.set i (Z d)))
def Mu(i:Nat){x:Str}{f:Pos}(u:a.N.Nodup)(p:a.N[i]?=Z x)(m:Ŏ a.env.scope x)(s:FE a g A)(n:WD g (Z (.Name x f)) o.line a.env=pure D:=by lk)(q:a.fn x=L\/a.env.scope.names.lookup x=Z .local:=by first|exact .inl rfl|exact .inr rfl|assumption):FS a (.Assign [.Name x f] g o) (cx i A):=uC (oH u p m s.h n q) λe w H j E b=>⟨j,E,ð.bindS b λd v h g r k=>k _ h (.refl h) ((E.mono g).set r)⟩
def bt(c:î)(f g:ä):ä:=λa=>cV (c a) λk=>if k then f a else g a
def RF{b:ä}{j:WA%0}(m:FT a g Ν)(p:Ħ a À Χ)(n:Ħ a j b):FS a (.If g À j o) (bt Ν Χ b):=uC (CS m.h p.h n.h) λf q H h E d=>⟨h,E,ć.bindS d λk r e i=>by cases k with|true=>exact Cw ⟨h,E.mono e,i⟩|false=>exact Cv ⟨h,E.mono e,i⟩⟩
def Its(z:Str):It:=⟨λi _=>i<z.cps.size,λi H x a=>a=H/\∃c,z.cps[i]?=Z c/\x=.str ⟨#[c]⟩,λi _=>i=z.cps.size⟩
def sf(e:I.handled=U)(a:O)(x:Str)(t:Tok){b:String}(d:b="str_ascii_iterator"\/b="str_iterator"):Walks s r I a [a] [a] x.cps.size (SignAt x) (λi h=>h.IsStrIter a b x t i):=by
 rcases d with rfl|rfl;·exact Walks.strAscii e a x t
 ·exact Walks.strWide e a x t
def Di(z:Str)(t:Tok)(j:O){ty:String}(m:ty="str_ascii_iterator"\/ty="str_iterator"):yM s r q g (Its z) [j] j (λi h=>h.IsStrIter j ty z t i)where
 mem:=by simp
 obj:=λi h st b n=>by
  have e:b=j:=by simpa using n
  subst e;obtain⟨o,e,c,d⟩:=st;exact⟨o,e,λv z=>by rw[d]at z;cases z⟩
 keep:=λi h y st k=>let⟨o,ho,f⟩:=st;⟨o,k j ∅ o ho,f⟩;item:=by intro X hP hw hK hc i f' a σ H E I w st hg;subst hP hw hK;obtain⟨f0,f1,R,f3,f4,f5⟩:=w j ∅;have W:=sf (s:=X.prog) (r:=X.w) (I.ok.hd hc) j z t m;refine W.item i a _ _ hg st λv y tk hv p kk=>?_;obtain⟨c,u,b',rfl⟩:=hv;have I1:Õ X f' σ H {a with heap:=y,toks:=tk}:=I.turned (λb o n e=>kk b o (by simpa using n) e) f0 f1 f3 f4 f5;obtain⟨o,e,c',d⟩:=id p;refine⟨_,rfl,CU (f:={a with heap:=y,toks:=tk}) e c' d (by rcases m with rfl|rfl<;>decide) ⟨.str ⟨#[c]⟩,H,I1,⟨u,rfl⟩,⟨rfl,c,b',rfl⟩,p,λb n=>(w b n).1⟩⟩
 done:=by intro X hP hw hK hc i f' a σ H E I w st hg;subst hP hw hK;obtain⟨f0,f1,R,f3,f4,f5⟩:=w j ∅;have W:=sf (s:=X.prog) (r:=X.w) (I.ok.hd hc) j z t m;have a':i=z.cps.size:=hg;subst a';exact W.done a _ _ st λy tk kk=>⟨rfl,I.turned (λb o n e=>kk b o (by simpa using n) e) f0 f1 f3 f4 f5⟩
 self:=λA i a Q E st h=>by
  rcases m with rfl|rfl;·exact wpAny_pyIter_striter_ascii st h
  ·exact wpAny_pyIter_striter_wide st h
structure Wk(K:d_)(J:It)(ds:N%0)(H0:Hp):Prop where
 go:∀i H,Ù H0 H->i<ds.length->J.go i H
 stop:∀H,Ù H0 H->J.stop ds.length H
 yld:∀i H x H',Ù H0 H->i<ds.length->J.yld i H x H'->H'=H/\∃d,ds[i]?=Z d/\Ü K H d x
def ŀ(X:C)(H:Hp)(o:Rs (N%0)%1)(R:It->Hp->Prop):Prop:=match o with|none=>False|some (.exc c)=>XW X c H|some (.ok ds)=>∀J a,Ù H a->Wk X.K J ds a->R J a
structure FI(X:C)(tg iter:t_)(f:ë):Prop where h:PI X tg iter λσ H R=>∃ρ,ã X.K H σ ρ/\ŀ X H (f ρ) R
def ŀ.mono{R:It->Hp->Prop}(e:Ù h Δ):∀{o:Rs (N%0)%1},ŀ a h o R->ŀ a Δ o R|none,b=>b|some (.exc _),b=>XW.mono b e|some (.ok _),b=>λv f d r=>b v f (e.trans d) r
def Ĵ(z:Str):N%0:=z.cps.toList.map λc=>.str ⟨#[c]⟩
def items:N->Rs (N%0)%1|.lst ds=>ds%3|.tup ds=>ds%3|.str z=>Ĵ z%3|_=>U
def gm(f:Û):ë:=λa=>Þ (f a) items
def HC(b:h e=Z (.lst ν))(r:S q h E ν):Wk q (Itl q e) E h where
 go:=λi g a f=>by
  have j:i<ν.length:=by rw[r.length];exact f
  exact⟨ν,ν[i],č.of (a _ _ b),by simp[j]⟩
 stop:=λg a=>⟨ν,č.of (a _ _ b),by rw[r.length];exact rl _⟩;yld:=λi g x o a f y=>by obtain⟨n,y⟩:=y;obtain⟨d,m,k⟩:=S.get (S.mono a _ _ r) (y ν (č.of (a _ _ b)));exact⟨n,d,m,k⟩
def Mv(b:h e=Z (.tup ν))(r:S q h E ν):Wk q (Itt q e) E h where
 go:=λi g a f=>by
  have j:i<ν.length:=by rw[r.length];exact f
  exact⟨ν,ν[i],Ā.of (a _ _ b),by simp[j]⟩
 stop:=λg a=>⟨ν,Ā.of (a _ _ b),by rw[r.length];exact rl _⟩;yld:=λi g x o a f y=>by obtain⟨n,y⟩:=y;obtain⟨d,m,k⟩:=S.get (S.mono a _ _ r) (y ν (Ā.of (a _ _ b)));exact⟨n,d,m,k⟩
def Mw:Wk q (Its d) (Ĵ d) h where
 go:=λi f e b=>by show i<d.cps.size;simpa[Ĵ]using b
 stop:=λf e=>by show(Ĵ d).length=d.cps.size;simp[Ĵ]
 yld:=λi f x k e b y=>by
  obtain⟨j,c,g,rfl⟩:=y;refine⟨j,.str ⟨#[c]⟩,?_,rfl⟩;have a:d.cps.toList[i]?=Z c:=by simpa using g
  rw[Ĵ,K_,a]<;>rfl
def rng(a:Int):Nat->N%0|0=>[]|n+1=>.int a::rng (a+1) n
def jP:∀(n:Nat)(lo:Int),(rng lo n).length=n|0,_=>rfl|n+1,lo=>by show(rng (lo+1) n).length+1=n+1;rw[jP]
def zo:∀(n:Nat)(lo:Int)(i:Nat),i<n->(rng lo n)[i]?=Z (.int (lo+i))|0,_,_,h=>by omega|n+1,lo,0,_=>by simp[rng]|n+1,lo,i+1,h=>by have q:=zo n (lo+1) i ();show(N.int lo::rng (lo+1) n)[i+1]?=_;rw[Zv,q];congr 2;omega
def vM:Wk q (Itr m b) (rng m b) h where
 go:=λi d e a=>by rw[jP]at a;exact a
 stop:=λd e=>by show b<=(rng m b).length;rw[jP];exact rl _
 yld:=λi d x g e a y=>by obtain⟨f,rfl⟩:=y;rw[jP]at a;exact⟨f,_,zo b m i a,rfl⟩
def Mx(hl:FE a y A):FI a g y (gm A):=by
 constructor;intro f' s σ H R I h;obtain⟨ρ,E,o⟩:=h;have key:ð a H (A ρ) λx j=>∃d,Ü a.K j d x/\ŀ a j (items d) R:=by unfold gm at o;match hf:A ρ,o with|some (.exc c),o=>exact o|some (.ok d),o=>exactλv j e r=>⟨d,r,ŀ.mono e o⟩|none,o=>exact o
 refine ê (hl.h f' s σ H _ I ⟨ρ,E,key⟩) λv i⟨x,j,n,r1,d,rd,q⟩=>?_;have k:∀(o:Obj)(Q:Nat->O_->Prop)(J:It)(ds:N%0),yM a.prog a.w a.K g J [i.heap.objs.size] i.heap.objs.size Q->Q 0 (i.heap.push o)->Wk a.K J ds j->(∀J H',Ù j H'->Wk a.K J ds H'->R J H')->PIE a f' σ g R (.ref i.heap.objs.size) {i with heap:=i.heap.push o}:=λo Q J ds T t0 w q=>by
  refine⟨i.heap.objs.size,[i.heap.objs.size],Q,J,j,rfl,n.kept (t':=i.toks) λb o e=>l_ _ e,T,t0,λb hb=>?_,q J j (.refl j) w⟩;have e:b=i.heap.objs.size:=by simpa using hb
  subst e;exact n.fpOk (rl _) (n.hok.fresh (rl _))
 cases d with|lst ds=>obtain⟨f,xs,rfl,m,h2⟩:=rd.lstE;cases r1;obtain⟨u,rv,p,hz⟩:=n.list (č.of m);exact Zy p.isList (k _ _ (Itl a.K f) ds (yN f _) ⟨_,xy _ rfl,rfl,rfl⟩ (HC m h2) q)|tup ds=>obtain⟨f,xs,rfl,m,h2⟩:=rd.tupE;cases r1;obtain⟨u,rv,p,hz⟩:=n.tuple (Ā.of m);exact Zi (show i.heap.IsTuple f u.toArray from p) (k _ _ (Itt a.K f) ds (oJ f _) ⟨_,xy _ rfl,rfl,rfl⟩ (Mv m h2) q)|str z=>
  cases(show x=.str z from rd);obtain⟨t,rfl⟩:=r1;have a':adw z="str_ascii_iterator"\/adw z="str_iterator":=by
   unfold adw;split;·exact .inl rfl
   ·exact .inr rfl
  exact wpAny_pyIter_strU (k _ _ (Its z) (Ĵ z) (Di z t _ a') ⟨_,xy _ rfl,rfl,rfl⟩ Mw q)|_=>exact q.elim
def yq:N%0->Rs (N%0)%1|[.int j]=>if-(2^62)<=j/\j<2^62 then rng 0 j.toNat%3 else U|_=>U
def Cy:N%0->Rs (N%0)%1|[.int i,.int j]=>if-(2^62)<=i/\i<2^62/\-(2^62)<=j/\j<2^62 then rng i (j-i).toNat%3 else U|_=>U
def oP{R:It->Hp->Prop}{o:Rs (N%0)%1}{k:N%0->Rs (N%0)%1}{P:V%0->Hp->Prop}(b:ŀ a h (Þ o k) R)(i:∀ds g f,Ù h f->S a.K f ds g->ŀ a f (k ds) R->P g f):ï a h o P:=by match o,b with|some (.exc _),b=>exact b|some (.ok d),b=>exactλv j e r=>i d v j e r (ŀ.mono e b)
def zp(z:Gl a "range")(u:a.mg "range"=U)(A:FA a [y] ο)(q:j_ [y] a.env=[(D,eval y a.env)]:=by lk):FI a g (.Call (.Name "range" w) [y] [] o) (λi=>Þ (ο i) yq):=by
 constructor;intro Q s m H R I h;obtain⟨i,E,b⟩:=h;refine rO z u A.h q Q s m H R I ⟨i,E,oP b λds n f e p d=>?_⟩;unfold yq at d;split at d
 · rename_i j;split at d;·rename_i k;obtain⟨v,us,rfl,r,t⟩:∃v us,n=v::us/\Ü a.K f (.int j) v/\S a.K f [] us:=p;cases(show us=[]from t);cases(show v=.int j from r);exact⟨j,rfl,k.1,k.2,d _ f (.refl f) vM⟩
   ·exact d.elim
 ·exact d.elim
def zq(hg:Gl a "range")(hm:a.mg "range"=U)(ha:FA a [y,Ê] ο)(hs:j_ [y,Ê] a.env=[(D,eval y a.env),(D,eval Ê a.env)]:=by lk)(p:j_ [Ê] a.env=[(D,eval Ê a.env)]:=by lk):FI a g (.Call (.Name "range" w) [y,Ê] [] o) (λm=>Þ (ο m) Cy):=by
 constructor;intro f' s q H R I h;obtain⟨m,E,b⟩:=h;refine yO hg hm ha.h hs p f' s q H R I ⟨m,E,oP b λds u f e Q d=>?_⟩;unfold Cy at d;split at d
 · rename_i i j;split at d;·rename_i hj;obtain⟨v,us,rfl,r,t⟩:∃v us,u=v::us/\Ü a.K f (.int i) v/\S a.K f [.int j] us:=Q;obtain⟨z,n,rfl,r2,A⟩:∃v k,us=v::k/\Ü a.K f (.int j) v/\S a.K f [] k:=t;cases(show n=[]from A);cases(show v=.int i from r);cases(show z=.int j from r2);exact⟨i,j,rfl,hj,d _ f (.refl f) vM⟩
   ·exact d.elim
 ·exact d.elim
def xr(i:Nat)(e:Nat%0)(a:ä):N%0->Ev->Fl%1|[],b=>Z (.nx (fgt e b))|d::ds,b=>match a ((fgt e b).set i (Z d))with|some (.nx f)=>xr i e a ds f|o=>o
def My(i:Nat)(e:Nat%0)(b:ë)(a:ä):ä:=λd=>cV (b d) λds=>xr i e a ds d
def jn{a:θ%0}(h:a[b]?=Z Ó):a.drop b=Ó::a.drop (b+1):=by obtain⟨d,e⟩:=F_.mp h;rw[List.drop_eq_getElem_cons d,e]
def Mz(i:Nat)(s:Nat%0)(hp:YK (D_ a.prog a.w) a.A a.env a.xe)(hc:a.calm=L)(hi:FI a g y ο)(hg:PG a g (w8 i))(hb:Ħ a À Χ)(hs:∀x,Wd y a.env x=pure x:=by intro _;lk):FS a (.For g y À [] o) (My i s ο Χ):=by refine uC (rP hp hc hi.h hg hb.h hs) λe σ H A E b=>⟨A,E,?_⟩;unfold My at b;match hf:ο A,b with
 |none,b=>exact b|some (.exc c),b=>exact b|some (.ok ds),b=>
 intro J H1 e1 wk;have o1:þ a H1 (xr i s Χ ds A) e:=þ.mono e1 b;refine⟨λn m v p=>m=ds.length-n/\n<=ds.length/\Ù H1 p/\∃k,ã a.K p v k/\þ a p (xr i s Χ (ds.drop n) k) e,⟨ds.length,by simp,Wm _,.refl H1,A,E.mono e1,by simpa using o1⟩,?_⟩;rintro n m v p⟨rfl,hn,Q,k,E',j⟩;by_cases w:n<ds.length;·refine .inr ⟨wk.go n p Q w,λu z=>Ù H1 z/\∃h,ã a.K z u h/\þ a z (xr i s Χ (ds.drop (n+1)) h) e,λu z⟨I,h,E2,o2⟩=>⟨ds.length-(n+1),by omega,rfl,w,I,h,E2,o2⟩,λx z f=>?_⟩;obtain⟨rfl,d,hd,rd⟩:=wk.yld n p x z Q w f;rw[jn hd]at j;show tS a Χ _ _ _;refine⟨(fgt s k).set i (Z d),(ã.fgt s E').set rd,?_⟩;unfold xr at j;match q:Χ ((fgt s k).set i (Z d))with|none=>rw[q]at j;exact j|some (.exc c)=>rw[q]at j;exact j|some (.rt r)=>rw[q]at j;exact j|some (.nx h)=>rw[q]at j;exactλu H3 I E3=>⟨Q.trans I,h,E3,þ.mono I j⟩
 · have a':n=ds.length:=by omega
   subst a';rw[Y5]at j;exact .inl ⟨wk.stop p Q,j v p (.refl p) (ã.fgt s E')⟩
def Ř(K:d_)(F:ß)(n:Nat):Sp:=λb H Q _=>∃ds,S K H ds b/\ds.length=n/\match F ds with|some (.ok d)=>∀v a,Ù H a->Ü K a d v->Q v a|_=>False
def ag(F:ß)(n:Nat)(g:ë):Û:=λa=>Þ (g a) λds=>if ds.length=n then(match F ds with|some (.ok d)=>d%3|_=>U)else U
def HE(G:ö a.prog a.w a.K a.mg a.base Ĳ b e Æ H (Ř a.K Ω j))(v:å b a.A)(I:Gl a d)(y:a.mg d=Z (.ref e))(A:WG a.K (.ref e)=L)(hb:õ a.K Æ H [])(ha:FA a (g::u) ο)(p:(d==("__debug__":Str))=D:=by lk)(he:g%8:=by lk)(n:(V6 w (j_ u a.env)).any (·.1)=D:=by lk):FE a (.Call (.Name d o) (g::u) [] w) (ag Ω j ο):=dI (mL G v I y A hb .nil Mb ha.h p he n) λσ i Q q E f=>⟨q,E,ï.bind f λds r H' g s k=>by
 show Ř a.K Ω j (r++[]) H' Q E0;rw[Xe];split at k
 ·rename_i z;refine⟨ds,s,z,?_⟩;match m:Ω ds with|some (.ok h)=>rw[m]at k;exact k|some (.exc c)=>rw[m]at k;exact k|none=>rw[m]at k;exact k
 ·exact k.elim⟩
def Has(P:n_)(w:y_)(K:d_)(d:Str->B%1)(a:O_)(x:Str)(k:Nat)(b:Str%0)(F:ß):Prop:=∃f e,ö P w K d a Ĳ k f e b (Ř K F b.length)/\d x=Z (.ref f)/\WG K (.ref f)=L/\õ K e b []
def Dj(k:Nat)(n:Str%0)(F:ß)(h:Has a.prog a.w a.K a.mg a.base d k n F)(p:å j a.A)(s:k<=j)(v:Gl a d)(A:FA a (g::u) ο)(q:b=n.length:=by lk)(m:(d==("__debug__":Str))=D:=by lk)(y:g%8:=by lk)(e:(V6 w (j_ u a.env)).any (·.1)=D:=by lk):FE a (.Call (.Name d o) (g::u) [] w) (ag F b ο):=by subst q;obtain⟨f,E,G,r,i,z⟩:=h;exact HE (G.mono s) p v r i z A m y e
def bM(m:Nat)(a:ä):ß:=λds=>match a (ds.map Z++u_ (m-ds.length) U)with|some (.nx _)=>.non%3|some (.rt d)=>d%3|_=>U
def lu(r:S q h E ν):ã q h (L2.start H ν) (E.map Z++u_ (H.length-E.length) U):=by
 have g:=r.length;refine⟨by unfold L2.start;rw[Ws,Ws,S_,S_,W_,W_,g],λi d a=>?_⟩;by_cases e:i<E.length;·rw[N_ (by simpa using e),K_]at a;cases f:E[i]? with|none=>rw[f]at a;cases a|some m=>rw[f]at a;have b:Z (Z m)=Z (Z d):=a;injection b with b;injection b with b;subst b;obtain⟨v,k,j⟩:=r.get' f;refine⟨v,?_,j⟩;unfold L2.start;rw[N_ (by rw[S_,g];exact e),K_,k]<;>rfl
 ·rw[Q_ (by simpa using e),Yv]at a;split at a<;>cases a
def RG{N:Str%0}(Fn:ł q d p Γ e Æ)(S:il N H (ao Γ))(hb:∀(o:B)(A:B_)(n:Env%0)(f:h_)(g:Hp)(E:XK),å b (A.deeper (Yi p (ao Γ) f.heap.objs.size e o))->Ħ (oh Ĳ s r q Ζ Q N p (ao Γ) e o A n f g E).nox (bQ Γ) Χ):ö s r q Ζ Q Ĳ (b+1) e Æ H (Ř q (bM N.length Χ) H.length):=by
 refine Fn.ok S (λz g k E h=>?_) (λo A n f g z k E hr h=>?_);·obtain⟨ds,i,y,_⟩:=h;rw[i.length,y]
 ·obtain⟨ds,i,y,a⟩:=h;refine⟨_,(hb o A n f g E hr).h,ds.map Z++u_ (N.length-ds.length) U,lu i,?_⟩;unfold bM at a;match u:Χ (ds.map Z++u_ (N.length-ds.length) U)with|none=>rw[u]at a;exact a.elim|some (.exc c)=>rw[u]at a;exact a.elim|some (.rt m)=>rw[u]at a;exactλv w j I=>a v w j I|some (.nx ρ)=>rw[u]at a;exactλa' w j _=>a .non w j rfl
def MB(N h:Str%0)(i:ä)(n:Ω=bM N.length i)(k:j=h.length)(o:ł q d p Γ e Æ)(S:il N h (ao Γ))(m:∀(g:B)(A:B_)(f:Env%0)(a:h_)(H:Hp)(E:XK),å b (A.deeper (Yi p (ao Γ) a.heap.objs.size e g))->Ħ (oh Ĳ s r q Ζ Q N p (ao Γ) e g A f a H E).nox (bQ Γ) i):ö s r q Ζ Q Ĳ (b+1) e Æ h (Ř q Ω j):=by subst n k;exact RG o S m
def mq(b:(Str×Yq)%0)(d:Env)(a:(Str×O)%0):(Str×O)%0:=match b with|[]=>a|(n,k)::r=>mq r d (if k==.free then(n,(d.cells.lookup n).getD 0)::a else a)
def oQ{d:Env}{n:Str}{c:O}:∀(a:(Str×Yq)%0)(b:(Str×O)%0),(mq a d b).lookup n=Z c->b.lookup n=Z c\/((n,Xl)∈a/\c=(d.cells.lookup n).getD 0)
 |[],b,h=>.inl h|(m,k)::r,b,h=>by
  rcases oQ r _ h with q|⟨j,i⟩
  · by_cases g:k=.free;·subst g;simp![beq_self_eq_true,if_true]at q;rw[Wo]at q;cases f:n==m with
      |true=>
      rw[f]at q;have e:n=m:=by simpa using f
      subst e;exact .inr ⟨pi,(Wj q).symm⟩|false=>rw[f]at q;exact .inl q
    · have o:(k==Xl)=D:=by simpa using g
      rw[o]at q;exact .inl (by simpa using q)
  ·exact .inr ⟨s_ _ j,i⟩
def sg{d:Env}{n:Str}:∀(b:(Str×Yq)%0)(a:(Str×O)%0),(a.lookup n).isSome=L->((mq b d a).lookup n).isSome=L
 |[],a,h=>h|(m,k)::r,a,h=>by
  refine sg r _ ?_;split;·rw[Wo];cases n==m with|true=>rfl|false=>exact h
  ·exact h
def p0{d:Env}{n:Str}:∀(a:(Str×Yq)%0)(b:(Str×O)%0),(n,Xl)∈a->((mq a d b).lookup n).isSome=L
 |[],b,h=>by cases h|(m,k)::r,b,h=>by
  rcases v_.mp h with e|q;·injection e with g f;subst g;subst f;refine sg r _ ?_;simp![beq_self_eq_true,if_true,Wo];rfl
  ·exact p0 r _ q
def iy{b:Type}{n:Str}{k:b}:∀{l:(Str×b)%0},l.lookup n=Z k->(n,k)∈l|[],h=>by simp at h|(m,j)::r,h=>by rw[Wo]at h;cases a:n==m with
 |true=>
 rw[a]at h;have e:n=m:=by simpa using a
 subst e;have d:j=k:=Wj h;subst d;exact pi|false=>rw[a]at h;exact s_ _ (iy h)
def lU{f:Env}{k:Yq}(h:(adH ω f).names.lookup d=Z k):(d,k)∈ω.names\/(k=.cell/\(d,Xl)∈ω.names):=by
 have q:=iy h;unfold adH at q;obtain⟨⟨m,j⟩,g,e⟩:=U_.mp q;dsimp only at e;split at e
 · rename_i i;injection e with b a;subst b;have n:j=.free:=by rw[m_,m_]at i;simpa using i.1.1
   subst n;exact .inr ⟨a.symm,g⟩
 ·injection e with b a;subst b;subst a;exact .inl g
def lV{a:Env}:∀{b:(Str×Yq)%0}{n:Str},b.lookup n=Z .free->(b.map λ(n,k)=>if(k==Xl&&a.scope.kind==.function&&a.kindOf n==Z .cell)then(n,Xs)else(n,k)).lookup n=Z .cell\/(b.map λ(n,k)=>if(k==Xl&&a.scope.kind==.function&&a.kindOf n==Z .cell)then(n,Xs)else(n,k)).lookup n=Z .free
 |[],_,h=>by simp at h|(m,k)::r,n,h=>by have f:=@lV a r n;rw[Wo]at h;rw[G_];cases d:n==m with
 |true=>
 rw[d]at h;have g:k=.free:=Wj h;subst g;by_cases e:(Xl==Xl&&a.scope.kind==.function&&a.kindOf m==Z .cell)=L;·dsimp!;rw[if_pos e,Wo,d];exact .inl rfl
 ·dsimp!;rw[if_neg e,Wo,d];exact .inr rfl    |false=>
 rw[d]at h;dsimp!;by_cases e:(k==Xl&&a.scope.kind==.function&&a.kindOf m==Z .cell)=L;·rw[if_pos e,Wo,d];exact f h
 ·rw[if_neg e,Wo,d];exact f h
def Cz(b:(Str×Nat)%0)(a:Ev):Ev:=U::b.map λc=>(a[c.2]?).join
def zr(a:î%1)(b:Û)(e:Ev):N%0->(N%0)%1|[]=>Z []|d::ds=>let f:=e.set 0 (Z d);match(match a with|none=>(L%3:Rs Bool%1)|some t=>t f)with|some (.ok L)=>(match b f with|some (.ok y)=>(match zr a b e ds with|some g=>Z (y::g)|none=>U)|_=>U)|some (.ok D)=>zr a b e ds|_=>U
def dv(g:(Str×Nat)%0)(b:ë)(a:î%1)(d:Û):Û:=λe=>Þ (b e) λds=>match zr a d (Cz g e) ds with|some f=>if f.length<=100000/\ds.length<=100000 then .lst f%3 else U|none=>U
def LAt(h:O_)(a:O)(b:B%0):Prop:=∃n,h.get? a=Z {cls:=.type "list",data:=.seq b.toArray n}
def xt(h:LAt f.heap e ξ)(g:ξ.length<=100000)(k:∀d,LAt d e (ξ++[Α])->(∀b o,b≠e->f.heap.get? b=Z o->d.get? b=Z o)->Î .none {f with heap:=d}):w_ (D_ s r) I (call (.builtin "list.append") [.ref e,Α]) Î χ f:=by
 obtain⟨n,a⟩:=h;refine Yd YQ ⟨_,a,rfl⟩ acq (ace _ _) (acQ e ξ.toArray n Α (by rw[H_];exact bT g)) ⟨a,?_⟩;have q:=adi a (·.push Α);have m:ξ.toArray.push Α=(ξ++[Α]).toArray:=by simp
 rw[m]at q;exact k _ ⟨_,q⟩ λb o j i=>(ZF f.heap _ (WO j)).trans i
def zt(X:C)(a:t_%0)(b:î%1):Prop:=match b with|none=>a=[]|some t=>∃c,a=[c]/\FT X c t
def ĕ.add{f:O_}{o:HO}(x:ĕ s r h Q)(j:h e=U)(m:h z=U)(k:∀b u,b≠z->Q.get? b=Z u->f.get? b=Z u)(g:í s r (æ h e o) f e o):ĕ s r (æ h e o) f:=λb u a=>by
 by_cases i:b=e;·subst i;rw[az]at a;cases a;exact g
 · rw[ay i]at a;refine(x b u a).stay (λc v d q=>k c v ?_ q) (λc q=>by rw[ay (aF q j)];exact q) λc n q=>by rw[ay (aF q j)];exact q
   rcases d with rfl|d;·exact aF a m
   ·exact aF d m
def HF(h:b<j):b≠j:=by omega
def MD(h:b<j):b≠j+1:=by omega
def Um:b≠b+1:=by omega
def cf:N->N->Rs N%1|.int i,.int j=>.int (i+j)%3|.str x,.str y=>if x.length+y.length<=100000 then .str (x++y)%3 else U|.lst a,.lst b=>if a.length+b.length<=100000 then .lst (a++b)%3 else U|_,_=>U
def HG:R2:=λx y H Q=>ű (λi j=>.int (i+j)) x y H Q\/((∃i j,x=.str i/\y=.str j/\i.length+j.length<=sizeLine/\Q (.str (i++j)) H)\/Uj x y H Q)
def o_add:ă a (Xn .Add) HG:=op_add.or (op_add_str.or FZ)
def ME:ĝ a HG cf:=by
 intro v u x y H Q g f o;cases v<;>cases u<;>try exact(show False from o).elim
 ·rename_i i j;exact .inl ⟨i,j,g,f,o _ H (.refl H) rfl⟩
 · rename_i i j;simp![cf]at o;split at o;·rename_i e;exact .inr (.inl ⟨i,j,g,f,bT e,o _ H (.refl H) rfl⟩)
   ·exact o.elim
 · rename_i d b;simp![cf]at o;split at o;·rename_i e;obtain⟨p,n,rfl,s,m⟩:=g.lstE;obtain⟨q,h,rfl,r,k⟩:=f.lstE;refine .inr (.inr ⟨p,q,n,h,rfl,rfl,s,r,by rw[m.length,k.length];exact bT e,λl e=>o _ _ (aH e _) ⟨l,_,rfl,az,S.mono (aH e _) _ _ (m.append k)⟩⟩)
   ·exact o.elim
def uo:N->N->Rs N%1|.int i,.int j=>.int (i-j)%3|_,_=>U
def RH:ĝ a (ű λi j=>.int (i-j)) uo:=by
 intro f e x y H Q d b o;cases f<;>cases e<;>try exact(show False from o).elim
 rename_i i j;exact⟨i,j,d,b,o _ H (.refl H) rfl⟩
def lj:N->N->Rs N%1|.int i,.int j=>if(-18446744073709551616<i/\i<18446744073709551616)\/(-18446744073709551616<j/\j<18446744073709551616)then .int (i*j)%3 else U|_,_=>U
def MF:ĝ a (rI ŝ λi j=>.int (i*j)) lj:=by
 intro f e x y H Q d b o;cases f<;>cases e<;>try exact(show False from o).elim
 rename_i i j;simp![lj]at o;split at o;·rename_i h;exact⟨i,j,d,b,h,o _ H (.refl H) rfl⟩
 ·exact o.elim
def kx:N->N->Rs N%1|.int i,.int j=>if 0<j then .int (i%j)%3 else U|_,_=>U
def RI:ĝ a (rI (λ_ j=>0<j) λi j=>.int (i%j)) kx:=by
 intro f e x y H Q d b o;cases f<;>cases e<;>try exact(show False from o).elim
 rename_i i j;simp![kx]at o;split at o;·rename_i h;exact⟨i,j,d,b,h,o _ H (.refl H) rfl⟩
 ·exact o.elim
def kG:N->N->Rs N%1|.int i,.int j=>if 0<j/\j<1073741824 then .int (i/j)%3 else U|_,_=>U
def MG:ĝ a (rI Ud λi j=>.int (i/j)) kG:=by
 intro f e x y H Q d b o;cases f<;>cases e<;>try exact(show False from o).elim
 rename_i i j;simp![kG]at o;split at o;·rename_i h;exact⟨i,j,d,b,h,o _ H (.refl H) rfl⟩
 ·exact o.elim
def HH:N->Rs N%1|.int i=>.int (-i)%3|_=>U
def f1(g:N->Rs N%1)(b:Û):Û:=λa=>Þ (b a) g
def MH(k:FE a g A):FE a (.UnaryOp .USub g o) (f1 HH A):=dI (Rn LU k.h) λm H Q j E b=>⟨j,E,ð.bind b λd v h e r f=>by
 cases d<;>try exact(show False from f).elim
 rename_i i;exact⟨i,r,f _ h (.refl h) rfl⟩⟩
def seq(x y:Str):Bool:=x.cps.toList==y.cps.toList
def F5(x y:Str):(x==y)=seq x y:=by rw[Xf];unfold seq;obtain⟨⟨a⟩⟩:=x;obtain⟨⟨b⟩⟩:=y;simp
def ū:N->N->Bool%1|.non,.non=>Z L|.non,.int _=>Z D|.int _,.non=>Z D|.non,.bl _=>Z D|.bl _,.non=>Z D|.non,.str _=>Z D|.str _,.non=>Z D|.int i,.int j=>Z (i==j)|.bl i,.bl j=>Z (i==j)|.str i,.str j=>Z (seq i j)|.int _,.str _=>Z D|.str _,.int _=>Z D|.bl _,.str _=>Z D|.str _,.bl _=>Z D|_,_=>U
variable{v:N}
def F6{y:V}(d:Ü q h i ψ)(b:Ü q h v y)(a:ū i v=Z δ):Rp ψ y=L/\o_ (ψ=y)=δ:=by cases i<;>cases v<;>(try cases a)<;>(try(cases d;cases b;exact⟨rfl,by first|rfl|exact uy|exact yQ|(rw[uz,F5])|simp⟩))
def QO(p:Int->Int->Bool):N->N->Rs N%1|.int i,.int j=>.bl (p i j)%3|_,_=>U
def MI(p:Int->Int->Bool):ĝ a (ű λi j=>.bl (p i j)) (QO p):=by
 intro f e x y H Q d b o;cases f<;>cases e<;>try exact(show False from o).elim
 rename_i i j;exact⟨i,j,d,b,o _ H (.refl H) rfl⟩
abbrev ļ:=QO λi j=>o_ (j<i)
def ė:N->N->Rs N%1|x,.non=>(.bl (match x with|.non=>L|_=>D))%3|_,_=>U
def oj:N->N->Rs N%1|x,.non=>(.bl (match x with|.non=>D|_=>L))%3|_,_=>U
def zu(r:Ü q h i ψ):o_ (ψ=.non)=(match i with|.non=>L|_=>D):=by cases i with|non=>cases(show ψ=.non from r);rfl|bl b=>cases(show ψ=.bl b from r);rfl|int b=>cases(show ψ=.int b from r);rfl|str b=>cases(show ψ=.str b from r);rfl|tup ds=>obtain⟨a,d,rfl,_⟩:=r.tupE;rfl|lst ds=>obtain⟨a,d,rfl,_⟩:=r.lstE;rfl|scr ds=>obtain⟨a,rfl,_⟩:=r.scrE;rfl|exn c=>obtain⟨a,_,_,_,rfl,_⟩:=r.exnE;rfl|obj k ds=>obtain⟨a,_,_,_,rfl,_⟩:=r.objE;rfl
def MJ:ĝ a (λx y H Q=>y=.non/\Q (.bl (o_ (x=.non))) H) ė:=by
 intro g f x y H Q d b o;cases f<;>try exact(show False from o).elim
 have q:=zu d;refine⟨b,?_⟩;have e:=o _ H (.refl H) rfl;cases g<;>(rw[q];exact e)
def F7:ĝ a (λx y H Q=>y=.non/\Q (.bl (!o_ (x=.non))) H) oj:=by
 intro g f x y H Q d b o;cases f<;>try exact(show False from o).elim
 have q:=zu d;refine⟨b,?_⟩;have e:=o _ H (.refl H) rfl;cases g<;>(rw[q];exact e)
def inS(x y:Str):Bool:=!(Wq y x 0 y.length 1).isEmpty
def jW:N->Bool|.non=>L|.bl _=>L|.int _=>L|.str _=>L|_=>D
def eqF:N->N->Bool|.non,.non=>L|.bl a,.bl b=>a==b|.bl a,.int b=>(if a then 1 else 0)==b|.int a,.bl b=>a==(if b then 1 else 0)|.int a,.int b=>a==b|.str a,.str b=>seq a b|_,_=>D
def inL(x:N)(a:N%0):Bool%1:=if jW x&&a.all jW then Z (a.any λy=>eqF y x)else U
def Uo:N->N->Bool%1|.str x,.str y=>Z (inS x y)|x,.lst a=>inL x a|x,.tup a=>inL x a|_,_=>U
def Ų(x y:N):Rs N%1:=match Uo x y with|some b=>.bl b%3|none=>U
def vN(x y:N):Rs N%1:=match Uo x y with|some b=>.bl (!b)%3|none=>U
def p8(r:Ü q h i ψ)(a:jW i=L):ji ψ=L:=by cases i<;>first|(cases a;done)|(cases r;rfl)
def mr{K:d_}{H:Hp}:∀{ds:N%0}{a:V%0},S K H ds a->ds.all jW=L->a.all ji=L|[],a,r,_=>by cases(show a=[]from r);rfl|d::ds,a,r,h=>by obtain⟨v,us,rfl,e,b⟩:∃v us,a=v::us/\Ü K H d v/\S K H ds us:=r;rw[Xc,m_]at h;rw[Xc,m_];exact⟨p8 e h.1,mr b h.2⟩
def zv{u:V}(r:Ü q h i ψ)(a:Ü q h v u)(b:jW i=L)(d:jW v=L):Ľ ψ u=eqF i v:=by cases i<;>first|(cases b;done)|(cases r;cases v<;>first|(cases d;done)|(cases a;first|rfl|exact F5 _ _))
def F8{K:d_}{H:Hp}{e:N}{u:V}(q:Ü K H e u)(b:jW e=L):∀{ds:N%0}{a:V%0},S K H ds a->ds.all jW=L->(a.any λy=>Ľ y u)=ds.any λy=>eqF y e|[],a,r,_=>by cases(show a=[]from r);rfl|d::ds,a,r,h=>by obtain⟨v,us,rfl,g,f⟩:∃v us,a=v::us/\Ü K H d v/\S K H ds us:=r;rw[Xc,m_]at h;rw[Xv,Xv,zv g q h.1 b,F8 q b f h.2]
def vO(e:Ü q h i ψ)(d:S q h E ν)(a:inL i E=Z δ):ji ψ=L/\ν.all ji=L/\inV ψ ν=δ:=by
 unfold inL at a;split at a;·rename_i b;rw[m_]at b;cases a;exact⟨p8 e b.1,mr d b.2,F8 e b.1 d b.2⟩
 ·cases a
def Uq(K:d_):R2:=λx y H Q=>(∃i j,x=.str i/\y=.str j/\Q (.bl (!(Wq j i 0 j.length 1).isEmpty)) H)\/rIn K D x y H Q
def zw(K:d_):R2:=λx y H Q=>(∃i j,x=.str i/\y=.str j/\Q (.bl (!(!(Wq j i 0 j.length 1).isEmpty))) H)\/rIn K L x y H Q
def Ur:ă a (Wh .In) (Uq a.K):=op_in_str.or zi
def HI:ă a (Wh .NotIn) (zw a.K):=op_notIn_str.or rY
def Us:ĝ a (Uq a.K) Ų:=by
 intro f s x y H Q k j o;unfold Ų at o;split at o
 · rename_i b g;have q:=o _ H (.refl H) rfl;cases s<;>try(cases f<;>cases g;done)
   · rename_i z;cases f<;>try(cases g;done)
     rename_i r;cases g;exact .inl ⟨r,z,k,j,q⟩
   · rename_i h;have e:inL f h=Z b:=by cases f<;>exact g
     obtain⟨d,i,rfl,n,m⟩:=j.tupE;obtain⟨f1,R,p⟩:=vO k m e;exact .inr ⟨d,i,rfl,.inr (Ā.of n),f1,R,by rw[if_neg q_,p];exact q⟩
   · rename_i h;have e:inL f h=Z b:=by cases f<;>exact g
     obtain⟨d,i,rfl,n,m⟩:=j.lstE;obtain⟨f1,R,p⟩:=vO k m e;exact .inr ⟨d,i,rfl,.inl (č.of n),f1,R,by rw[if_neg q_,p];exact q⟩
 ·exact o.elim
def HJ:ĝ a (zw a.K) vN:=by
 intro f s x y H Q k j o;unfold vN at o;split at o
 · rename_i b g;have q:=o _ H (.refl H) rfl;cases s<;>try(cases f<;>cases g;done)
   · rename_i z;cases f<;>try(cases g;done)
     rename_i r;cases g;exact .inl ⟨r,z,k,j,q⟩
   · rename_i h;have e:inL f h=Z b:=by cases f<;>exact g
     obtain⟨d,i,rfl,n,m⟩:=j.tupE;obtain⟨f1,R,p⟩:=vO k m e;exact .inr ⟨d,i,rfl,.inr (Ā.of n),f1,R,by rw[if_pos rfl,p];exact q⟩
   · rename_i h;have e:inL f h=Z b:=by cases f<;>exact g
     obtain⟨d,i,rfl,n,m⟩:=j.lstE;obtain⟨f1,R,p⟩:=vO k m e;exact .inr ⟨d,i,rfl,.inl (č.of n),f1,R,by rw[if_pos rfl,p];exact q⟩
 ·exact o.elim
def ċ(a:θ%0)(i:Int):θ%1:=if 0<=i then a[i.toNat]? else if-(a.length:Int)<=i then a[(i+a.length).toNat]? else U
def p9{a:θ%0}(h:ċ a m=Z Ó):atI a m=Z Ó:=by
 unfold ċ at h;unfold atI ixN;split at h
 · rename_i b;have e:m.toNat<a.length:=by obtain⟨q,_⟩:=F_.mp h;exact q
   rw[if_pos b,if_pos ()];exact h
 · rename_i b;split at h;·rename_i d;rw[if_neg b,if_pos d];exact h
   ·cases h
def Ö:N->N->Rs N%1|.lst a,.int i=>(match ċ a i with|some d=>d%3|none=>U)|.tup a,.int i=>(match ċ a i with|some d=>d%3|none=>U)|.str z,.int i=>if z.length<=100000 then(match ċ z.cps.toList i with|some c=>.str ⟨#[c]⟩%3|none=>U)else U|.scr b,.int i=>(match ċ b i with|some d=>.int d%3|none=>U)|_,_=>U
def uG{f:Type}{b:θ%0}{a:f%0}(h:a.length=b.length){i:Int}{x:θ}(e:ċ b i=Z x):∃j:Nat,b[j]?=Z x/\∀y,a[j]?=Z y->ċ a i=Z y:=by
 unfold ċ at e;split at e;·rename_i d;exact⟨_,e,λy q=>by unfold ċ;rw[if_pos d];exact q⟩
 · rename_i d;split at e;·rename_i g;exact⟨_,e,λy q=>by unfold ċ;rw[if_neg d,h,if_pos g];exact q⟩
   ·cases e
def Vm:ĝ a (rIx a.K) Ö:=by
 intro E A x y H Q n m o;cases E<;>cases A<;>try exact(show False from o).elim
 · rename_i z i;simp![Ö]at o;split at o
   · rename_i u;split at o;·rename_i c w;exact .inr (.inr ⟨z,i,c,n,m,bT u,p9 w,o _ H (.refl H) rfl⟩)
     ·exact o.elim
   ·exact o.elim
 · rename_i ds i;simp![Ö]at o;split at o;·rename_i d e;obtain⟨b,p,rfl,g,f⟩:=n.tupE;obtain⟨j,k,h⟩:=uG f.length e;obtain⟨v,r,q⟩:=f.get' k;exact .inr (.inl ⟨b,p,i,v,rfl,m,Ā.of g,p9 (h v r),o v H (.refl H) q⟩)
   ·exact o.elim
 · rename_i ds i;simp![Ö]at o;split at o;·rename_i d e;obtain⟨b,p,rfl,g,f⟩:=n.lstE;obtain⟨j,k,h⟩:=uG f.length e;obtain⟨v,r,q⟩:=f.get' k;exact .inl ⟨b,p,i,v,rfl,m,č.of g,p9 (h v r),o v H (.refl H) q⟩
   ·exact o.elim
 · rename_i s i;simp![Ö]at o;split at o;·rename_i d e;obtain⟨b,rfl,g⟩:=n.scrE;obtain⟨j,k,h⟩:=uG (a:=s.map V.int) ∅ e;exact .inl ⟨b,_,i,.int d,rfl,m,g,p9 (h _ (by rw[K_,k]<;>rfl)),o _ H (.refl H) rfl⟩
   ·exact o.elim
def RJ(f:FE a g A)(e:FE a y Ä)(d:zg y:=by intro _ _;lk):FE a (.Subscript g y o) (R Ö A Ä):=dI (Rw L7 f.h e.h d) λ_ _ _ _ E b=>two Vm E b
abbrev FnO:=Ev->Rs (Int%1)%1
def Ut(X:C)(H:Hp)(o:Rs (Int%1)%1)(Q:Int%1->Hp->Prop):Prop:=match o with|none=>False|some (.exc c)=>XW X c H|some (.ok d)=>∀a,Ù H a->Q d a
structure FO(X:C)(e:t_%1)(f:FnO):Prop where h:PO X e λσ H Q=>∃ρ,ã X.K H σ ρ/\Ut X H (f ρ) Q
def gp:FnO:=λ_=>U%3
def toI:N->Rs (Int%1)%1|.int i=>Z i%3|_=>U
def eP(f:Û):FnO:=λa=>Þ (f a) toI
def HK:FO a U gp:=⟨λd s b H Q I⟨_,_,o⟩=>Hs d s b H Q I (o H (.refl H))⟩
def HL(h:FE a g A):FO a (Z g) (eP A):=⟨λf s e H Q I⟨b,E,o⟩=>Ht h.h f s e H Q I ⟨b,E,by unfold eP at o;match k:A b,o with
 |none,o=>exact o|some (.exc c),o=>exact o|some (.ok d),o=>
 intro v j g r;cases d<;>try exact(show False from o).elim
 rename_i i;exact⟨i,r,o j g⟩⟩⟩
def zx(a:θ%0)(b d:Int%1):θ%0:=(a.drop (HT.sIx a.length 0 b)).take (HT.sIx a.length a.length d-HT.sIx a.length 0 b)
def Vn:V->Int%1->Int%1->Hp->VK->Prop:=λx lo a H Q=>∃z,x=.str z/\z.length<=sizeLine/\Q (.str (adc z lo a)) H
def ŵ:V' a Vn:=by intro p s n H x v w r lo m y Q I o f pl h q;obtain⟨z,rfl,e,q⟩:=q;obtain⟨t,rfl⟩:=o;refine⟨"str",_,F.slot_str_getitem.lookup,Zj _ _ _,?_⟩;have d:∀(b:Tok)(k:Nat),EP a p n Q (.str (adc z lo m) b) {s with toks:=k}:=λb k=>⟨.str (adc z lo m),H,I.tok _,⟨_,rfl⟩,q⟩;cases pl with
 |none=>cases h with|none=>exact Yn (l:=U) (u:=U) (st:=U) f rfl (aah ⟨Wa (abD z _ _) e,λb k=>d b k⟩)|int j u=>exact Yn (l:=U) (u:=Z (j,u)) (st:=U) f rfl (aah ⟨Wa (abD z _ _) e,λb k=>d b k⟩)
 |int i g=>cases h with|none=>exact Yn (l:=Z (i,g)) (u:=U) (st:=U) f rfl (aah ⟨Wa (abD z _ _) e,λb k=>d b k⟩)|int j u=>exact Yn (l:=Z (i,g)) (u:=Z (j,u)) (st:=U) f rfl (aah ⟨Wa (abD z _ _) e,λb k=>d b k⟩)
def QP(x:N)(a b:Int%1):Rs N%1:=match x with|.str z=>if z.length<=100000 then .str (adc z a b)%3 else U|.lst d=>.lst (zx d a b)%3|_=>U
def uq(f:Û)(d e:FnO):Û:=λa=>Þ (f a) λx=>Þ (d a) λlo=>Þ (e a) λb=>QP x lo b
def kH{o:Rs (Int%1)%1}{k:Int%1->Rs N%1}{P:Int%1->Hp->Prop}(f:ð a h (Þ o k) Ò)(i:∀b g,Ù h g->ð a g (k b) Ò->P b g):Ut a h o P:=by match o,f with|some (.exc _),f=>exact f|some (.ok d),f=>exactλj e=>i d j e (ð.mono e f)
def MK{i k:t_%1}{n q:FnO}(ha:FE a g A)(hl:FO a i n)(hh:FO a k q):FE a (.Subscript g (.Slice i k U o) w) (uq A n q):=dI (vK (ŵ.or zh) ha.h hl.h hh.h) λσ H Q f E b=>⟨f,E,ð.bind b λd v H1 s r1 o1=>⟨f,E.mono s,kH o1 λl H2 r o2=>⟨f,(E.mono s).mono r,kH o2 λu y e3 e=>by
 have h:=Ü.mono e3 d v (Ü.mono r d v r1);cases d<;>try exact(show False from e).elim
 · rename_i z;unfold QP at e;dsimp only at e;split at e;·rename_i hz;exact .inl ⟨z,h,bT hz,e _ y (.refl y) rfl⟩
   ·exact e.elim
 ·rename_i ds;obtain⟨a',I,rfl,h1,m⟩:=h.lstE;refine .inr ⟨a',I,rfl,č.of h1,λp j=>e _ _ (aH j _) ⟨p,_,rfl,az,S.mono (aH j _) _ _ ?_⟩⟩;unfold Dc zx;rw[m.length];exact(m.drop _).take _⟩⟩⟩
def fw:ß|[.str z]=>if z.length<=100000 then .int z.length%3 else U|[.lst a]=>.int a.length%3|[.tup a]=>.int a.length%3|[.scr b]=>.int b.length%3|_=>U
def é(g:ß)(b:ë):Û:=λa=>Þ (b a) g
def fN(r:S q h [i] ν):∃v,ν=[v]/\Ü q h i v:=by obtain⟨v,us,rfl,b,a⟩:∃v us,ν=v::us/\Ü q h i v/\S q h [] us:=r;cases(show us=[]from a);exact⟨v,rfl,b⟩
def Dk(r:S q h [i,v] ν):∃a b,ν=[a,b]/\Ü q h i a/\Ü q h v b:=by obtain⟨a,us,rfl,f,e⟩:∃a us,ν=a::us/\Ü q h i a/\S q h [v] us:=r;obtain⟨b,rfl,d⟩:=fN e;exact⟨a,b,rfl,f,d⟩
def ML(y:Gl a "len")(s:a.mg "len"=U)(I:FA a (g::u) ο)(A:g%8:=by lk)(m:(V6 w (j_ u a.env)).any (·.1)=D:=by lk):FE a (.Call (.Name "len" o) (g::u) [] w) (é fw ο):=dI (gU CY y s adN I.h #v[] #v[] A m) λσ H Q n E d=>⟨n,E,ï.bind d λds vs f e1 i e=>by
 unfold fw at e;split at e
 · rename_i z;split at e;·rename_i q;obtain⟨v,rfl,r⟩:=fN i;cases(show v=.str z from r);exact⟨_,_,rfl,⟨bT q,rfl⟩,e _ f (.refl f) rfl⟩
   ·exact e.elim
 ·rename_i p;obtain⟨v,rfl,r⟩:=fN i;obtain⟨b,j,rfl,h,k⟩:=r.lstE;exact⟨_,_,rfl,.inl ⟨j,č.of h,rfl⟩,e _ f (.refl f) (by rw[k.length];rfl)⟩
 ·rename_i p;obtain⟨v,rfl,r⟩:=fN i;obtain⟨b,j,rfl,h,k⟩:=r.tupE;exact⟨_,_,rfl,.inr ⟨j,Ā.of h,rfl⟩,e _ f (.refl f) (by rw[k.length];rfl)⟩
 ·rename_i ns;obtain⟨v,rfl,r⟩:=fN i;obtain⟨b,rfl,h⟩:=r.scrE;exact⟨_,_,rfl,.inl ⟨_,h,rfl⟩,e _ f (.refl f) (by rw[S_];rfl)⟩
 ·exact e.elim⟩
def kJ:N%0->(Bool%0)%1|[]=>Z []|.bl b::r=>(match kJ r with|some bs=>Z (b::bs)|none=>U)|_=>U
def qc:ß|[.lst a]=>(match kJ a with|some bs=>.bl (bs.all id)%3|none=>U)|_=>U
def qd{K:d_}{H:Hp}:∀{ds:N%0}{a:V%0}{us:B%0}{bs:Bool%0},S K H ds a->Ú a us->kJ ds=Z bs->us=bs.map T_
 |[],a,us,bs,r,q,h=>by cases(show a=[]from r);cases q;cases h;rfl|d::ds,a,us,bs,r,q,h=>by obtain⟨v,m,rfl,g,f⟩:∃v us,a=v::us/\Ü K H d v/\S K H ds us:=r;cases q with|cons j i=>
 cases d<;>try(cases h;done)
 rename_i b;simp![kJ]at h;cases e:kJ ds with|none=>rw[e]at h;cases h|some k=>rw[e]at h;cases h;cases(show v=.bl b from g);cases j;rw[qd f i e];rfl
def Dl:l4 a (.builtin "all") (λy H Q=>∃d o bs ds,y=[.ref d]/\H d=Z (.lst o)/\S a.K H ds o/\kJ ds=Z bs/\a.calm=L/\Q (.bl (bs.all id)) H):=by
 intro f' s σ H y us Q I r h;obtain⟨d,o,bs,ds,rfl,h1,h2,h3,hc,q⟩:=h;obtain⟨u,rfl,ru⟩:=iP r;cases ru;obtain⟨z,a',n,rv,hl,e⟩:=I.lstM h1;have k:=qd h2 rv h3;subst k;have A:s.heap.IsList d (bs.map T_).toArray:=⟨_,e,rfl,_,rfl⟩;have w:d<s.heap.objs.size:=z_ e;refine call_all_walk (Zy A ?_);refine⟨s.heap.objs.size,[s.heap.objs.size,d],[s.heap.objs.size],(bs.map T_).toArray.size,_,_,λi=>(bs[i]?).getD L,rfl,adS (A:=a.A.in1) (I.ok.hd hc) _ d (V7 w) (bs.map T_).toArray,⟨⟨_,xy _ rfl,rfl,rfl⟩,A.push _⟩,λi v E Q' E' hP hQ=>?_,λh' tk hk=>?_⟩
 · have f:(bs.map T_)[i]?=Z v:=by simpa using hP
   rw[K_]at f;cases j:bs[i]? with|none=>rw[j]at f;cases f|some b=>rw[j]at f;cases f;have m:Q' ((bs[i]?).getD L) E:=hQ;rw[j]at m;exact WZ m
 · have e2:((uk (bs.map T_).toArray.size).all λi=>(bs[i]?).getD L)=bs.all id:=by
    rw[H_,S_];rw[Xf];simp![Wu,Wf,id];constructor;·intro p b j;obtain⟨i,g,rfl⟩:=ach.mp j;simpa[g]using p i g
    ·intro p i g;simp![I_ g,adl];exact p _ (Z2 g)
   rw[e2];refine⟨.bl _,H,I.kept λb x k=>hk b x (λhm=>?_) (l_ _ k),rfl,q⟩;rw[V5.mp hm]at k;exact Xb _ (z_ k)
def MM(s:a.calm=L)(p:Gl a "all")(n:a.mg "all"=U)(z:FA a (g::u) ο)(q:g%8:=by lk)(f:(V6 w (j_ u a.env)).any (·.1)=D:=by lk):FE a (.Call (.Name "all" o) (g::u) [] w) (é qc ο):=dI (gU Dl p n PyProof.Rows.boot_all z.h #v[] #v[] q f) λσ H Q i E b=>⟨i,E,ï.bind b λds vs h e1 m e=>by
 unfold qc at e;split at e
 · rename_i j;split at e;·rename_i bs y;obtain⟨v,rfl,r⟩:=fN m;obtain⟨d,k,rfl,I,A⟩:=r.lstE;exact⟨d,k,bs,j,rfl,I,A,y,s,e _ h (.refl h) rfl⟩
   ·exact e.elim
 ·exact e.elim⟩
def tyD:N->String|.non=>"NoneType"|.bl _=>"bool"|.int _=>"int"|.str _=>"str"|.tup _=>"tuple"|.lst _=>"list"|.scr _=>"list"|.exn _=>"object"|.obj _ _=>"object"
def HM(r:Ü q h i ψ)(j:∀e,i≠.scr e)(g:∀c,i≠.exn c)(m:∀k ds,i≠.obj k ds):vH q h ψ (.type (tyD i)):=by cases i with|non=>cases(show ψ=.non from r);exact .non|bl b=>cases(show ψ=.bl b from r);exact .bl b|int b=>cases(show ψ=.int b from r);exact .int b|str b=>cases(show ψ=.str b from r);exact .str b|tup ds=>obtain⟨a,f,rfl,d,_⟩:=r.tupE;exact .tup d|lst ds=>obtain⟨a,f,rfl,d,_⟩:=r.lstE;exact .lst d|scr e=>exact absurd rfl (j e)|exn c=>exact absurd rfl (g c)|obj k ds=>exact absurd rfl (m k ds)
def Do(T:String):l4 a (.builtin "isinstance") (λe H Q=>∃x t b,e=[x,.ty T]/\vH a.K H x t/\Yo a.K t (.type T)=Z b/\Q (.bl b) H):=by intro n s m H e us Q I r h;obtain⟨x,t,b,rfl,g,k,q⟩:=h;obtain⟨u,f,rfl,j,d⟩:=CW r;cases(show f=r_ T from d);exact za I j g k λi=>⟨.bl b,H,I.tok i,rfl,q⟩
def jo(a:N->Bool):N->Rs N%1|.scr _=>U|.exn _=>U|.obj _ _=>U|d=>.bl (a d)%3
variable{Ο:Pos}
def vP{T:String}{q:N->Bool}(hk:∀K d,Yo K (.type (tyD d)) (.type T)=Z (q d))(hT:W0 (b_ T)=Z (.type T))(I:b_ T≠"__name__")(p:(b_ T==("__debug__":Str))=D)(hg:Gl a "isinstance")(hm:a.mg "isinstance"=U)(n:Gl a (b_ T))(m:a.mg (b_ T)=U)(ha:FE a g A)(f:j_ [g,.Name (b_ T) Ο] a.env=(D,eval g a.env)::j_ [.Name (b_ T) Ο] a.env:=by lk)(i:j_ [.Name (b_ T) Ο] a.env=(D,eval (.Name (b_ T) Ο) a.env)::j_ [] a.env:=by lk)(j:(V6 w (j_ [.Name (b_ T) Ο] a.env)).any (·.1)=D:=by lk):FE a (.Call (.Name "isinstance" o) [g,.Name (b_ T) Ο] [] w) (f1 (jo q) A):=dI (gU (Do T) hg hm YH (ij ha.h (ij (yH (ψ:=.ty T) n m hT rfl I p) oN i) f) #v[] #v[] f j) λσ H Q u E e=>⟨u,E,ð.bind e λd v s e1 r h=>by show∃x t b,[v,V.ty T]=[x,.ty T]/\_;cases d with|scr y=>exact h.elim|exn c=>exact h.elim|obj k ds=>exact h.elim|_=>exact⟨v,_,_,rfl,HM r (λy z=>by cases z) (λc z=>by cases z) (λk ds z=>by cases z),hk a.K _,h _ s (.refl s) rfl⟩⟩
def sh:N->Bool|.str _=>L|_=>D
def HN(K:d_)(d:N):Yo K (.type (tyD d)) (.type "str")=Z (sh d):=by cases d<;>lk
def uH:N->Bool|.tup _=>L|_=>D
def HP(K:d_)(d:N):Yo K (.type (tyD d)) (.type "tuple")=Z (uH d):=by cases d<;>lk
def fD:N->Bool|.bl _=>L|_=>D
def Dr(K:d_)(d:N):Yo K (.type (tyD d)) (.type "bool")=Z (fD d):=by cases d<;>lk
def fM(g:Str->ß)(e:Û)(d:ë):Û:=λa=>Þ (e a) λx=>match x with|.str i=>Þ (d a) λb=>g i b|_=>U
def si(h:Str->Str->Bool):Str->ß|x,[.str y]=>.bl (h x y)%3|_,_=>U
def QQ(h:Str->Str->Int):Str->ß|x,[.str y]=>.int (h x y)%3|_,_=>U
def HQ(h:Str->Str->Bool):V->V%0->Hp->VK->Prop:=λx a H Q=>∃i j,x=.str i/\a=[.str j]/\Q (.bl (h i j)) H
def MN(h:Str->Str->Int):V->V%0->Hp->VK->Prop:=λx a H Q=>∃i j,x=.str i/\a=[.str j]/\Q (.int (h i j)) H
def RK:Š a "str.startswith" (HQ Wn):=by intro m s f H x g v us Q I b e h;obtain⟨i,j,rfl,rfl,q⟩:=h;obtain⟨t,rfl⟩:=b;obtain⟨u,rfl,d⟩:=iP e;obtain⟨k,rfl⟩:=d;exact SC.startswith ⟨.bl _,H,I,rfl,q⟩
def RL:Š a "str.endswith" (HQ aav):=by intro m s f H x g v us Q I b e h;obtain⟨i,j,rfl,rfl,q⟩:=h;obtain⟨t,rfl⟩:=b;obtain⟨u,rfl,d⟩:=iP e;obtain⟨k,rfl⟩:=d;exact SC.endswith ⟨.bl _,H,I,rfl,q⟩
def Ds:Š a "str.rfind" (MN ad8):=by intro m s f H x g v us Q I b e h;obtain⟨i,j,rfl,rfl,q⟩:=h;obtain⟨t,rfl⟩:=b;obtain⟨u,rfl,d⟩:=iP e;obtain⟨k,rfl⟩:=d;exact SC.rfind ⟨.int _,H,I.tok _,⟨_,rfl⟩,q⟩
def HR{p:String}{r:V->V%0->Hp->VK->Prop}{b:Str->ß}(k:Slot "str" d p)(q:acC (.builtin p)=pure (.type "method_descriptor"))(hm:Š a p r)(hg:∀i ds n H Q,S a.K H ds n->ð a H (b i ds) Q->r (.str i) n H Q)(ho:FE a y A)(ha:FA a (g::u) ο)(j:Wz y d a.env (eval y a.env)=eval y a.env:=by lk)(m:((V6 w (j_ (g::u) a.env)).all (λx=>!x.1)&&(Xo w (WJ [] a.env)).all (λx=>x.1.isSome)&&o_ ((g::u).length+([]:Xu%0).length+(if([]:Xu%0).isEmpty then 0 else 1)<30))=L:=by lk)(h:(o.endLine==w.line)=L:=by lk)(hs:g%8:=by lk)(f:(V6 w (j_ u a.env)).any (·.1)=D:=by lk):FE a (.Call (.Attribute y d o) (g::u) [] w) (fM b A ο):=dI (zj PySem.F.plainAttrs_str k q hm ho.h ha.h j m h hs f) λσ H Q s E y=>⟨s,E,ð.bind y λe v H1 e1 rd z=>by
 cases e<;>try exact(show False from z).elim
 rename_i i;cases(show v=.str i from rd);exact⟨rfl,s,E.mono e1,ï.bind z λds n H2 e2 I o2=>hg i ds n H2 Q I o2⟩⟩
def F9{h:Str->Str->Bool}(i:Str)(e:N%0)(d:V%0)(H:Hp)(Q:VK)(f:S a.K H e d)(o:ð a H (si h i e) Q):HQ h (.str i) d H Q:=by
 unfold si at o;split at o;·rename_i j;obtain⟨w,rfl,b⟩:=fN f;cases(show w=.str j from b);exact⟨i,j,rfl,rfl,o _ H (.refl H) rfl⟩
 ·exact o.elim
def MO{h:Str->Str->Int}(i:Str)(e:N%0)(d:V%0)(H:Hp)(Q:VK)(f:S a.K H e d)(o:ð a H (QQ h i e) Q):MN h (.str i) d H Q:=by
 unfold QQ at o;split at o;·rename_i j;obtain⟨w,rfl,b⟩:=fN f;cases(show w=.str j from b);exact⟨i,j,rfl,rfl,o _ H (.refl H) rfl⟩
 ·exact o.elim
def Uu(K:d_):R2:=λx y H Q=>∃(a b:O)(d:Int%0),x=.ref a/\y=.ref b/\č K H a (d.map V.int)/\H b=Z (.lst [])/\Q (.bl d.isEmpty) H
def RM(g:a.A.units<cLine):ă a (Wh .Eq) (Uu a.K):=by intro f' s σ H x y v u Q I p o h;obtain⟨d,b,f,rfl,rfl,h1,E,q⟩:=h;cases p;cases o;obtain⟨e,r,pl,hz⟩:=I.list h1;obtain⟨z2,m,n2,w,a',e2⟩:=I.lstM E;cases w;have k:s.heap.IsList b #[]:=⟨_,e2,rfl,_,rfl⟩;have j:=r.length;cases f with
 |nil=>
 have e0:e=[]:=by cases e with|nil=>rfl|cons _ _=>simp at j
 subst e0;exact SeqAt.eq_listAt (e:=λ_=>L) pl.isList k rfl g (λi A=>absurd A ∅) (by first|exact⟨.bl _,H,I,rfl,q⟩|(refine⟨.bl _,H,I,?_,q⟩;simp[â]))        |cons n f=>
 refine SeqAt.eq_list_lengthsAt pl.isList k ?_ g ⟨.bl _,H,I,rfl,q⟩;have:0<e.length:=by rw[<-j];simp
 simp;exactλz=>by rw[z]at this;simp at this
def QR:N->N->Rs N%1|.scr a,.lst []=>.bl a.isEmpty%3|_,_=>U
def RN:ĝ a (Uu a.K) QR:=by
 intro n m x y H Q g f o;unfold QR at o;split at o;·rename_i h;obtain⟨d,rfl,k⟩:=g.scrE;obtain⟨b,e,rfl,j,i⟩:=f.lstE;cases(show e=[]from i);exact⟨d,b,h,rfl,rfl,k,j,o _ H (.refl H) rfl⟩
 ·exact o.elim
def MP:W0 (b_ "str")=Z (.type "str"):=PyProof.Rows.boot_str
def Dt:W0 (b_ "tuple")=Z (.type "tuple"):=by decide+kernel
def HS:W0 (b_ "bool")=Z (.type "bool"):=by decide+kernel
mutual
def gV:N->PyData|.non=>.none|.bl b=>.bool b|.int i=>.int i|.str x=>.str x|.tup a=>.tuple (ý a)|.lst a=>.list (ý a)|.scr e=>.list (e.map PyData.int)|.exn _=>.dict []|.obj _ _=>.dict []def ý:N%0->PyData%0|[]=>[]|d::ds=>gV d::ý ds
end
def oR{s:h_}:∀{a:Int%0}{us:B%0},Ú (a.map V.int) us->∃as,ReadsAll s.heap us (a.map PyData.int) as|[],us,r=>by cases r;exact⟨_,.nil⟩|n::a,us,r=>by cases r with|cons d b=>obtain⟨t,rfl⟩:=d;obtain⟨as,q⟩:=oR b;exact⟨_,.cons (.int n t) q⟩
mutual
theorem Ü.reads{X:C}{E:(O×Obj)%0}{w:L2.St}{H:Hp}{s:h_}(I:Õ X E w H s):∀(d:N)(v:V)(u:B),Ü X.K H d v->â v u->(gV d).canLay0=L->∃as,Reads s.heap u (gV d) as|.non,v,u,r,q,f=>by cases(show v=.non from r);cases(show u=J_ from q);exact⟨_,.none⟩|.bl b,v,u,r,q,f=>by cases(show v=.bl b from r);cases(show u=T_ b from q);exact⟨_,.bool b⟩|.int i,v,u,r,q,f=>by cases(show v=.int i from r);obtain⟨t,rfl⟩:=(show∃t,u=abk i t from q);exact⟨_,.int i t⟩|.str x,v,u,r,q,f=>by cases(show v=.str x from r);obtain⟨t,rfl⟩:=(show∃t,u=Yp x t from q);exact⟨_,.str x t⟩|.tup ds,v,u,r,q,f=>by obtain⟨a,y,rfl,h,A⟩:=r.tupE;cases(show u=C_ a from q);obtain⟨g,k,⟨o,e,c,n,d⟩,hz⟩:=I.tuple (Ā.of h);obtain⟨as,m⟩:=S.reads I ds y g A k (by simpa[gV,Wi]using f);exact⟨as,.tuple e c d (by simpa using m)⟩|.lst ds,v,u,r,q,f=>by obtain⟨a,y,rfl,h,A⟩:=r.lstE;cases(show u=C_ a from q);obtain⟨z,g,n,k,hl,e⟩:=I.lstM h;obtain⟨as,m⟩:=S.reads I ds y g A k (by simpa[gV,Wi]using f);exact⟨a::as,.list e rfl rfl (by simpa using m)⟩|.scr ns,v,u,r,q,f=>by obtain⟨a,rfl,h⟩:=r.scrE;cases(show u=C_ a from q);obtain⟨g,k,⟨o,n,e,c,hd,d⟩,hz⟩:=I.list h;obtain⟨as,m⟩:=oR (s:=s) k;exact⟨a::as,.list e c d (by simpa using m)⟩|.exn c,v,u,r,q,f=>by simp[gV,Wi]at f|.obj c ds,v,u,r,q,f=>by simp[gV,Wi]at f
theorem S.reads{X:C}{E:(O×Obj)%0}{w:L2.St}{H:Hp}{s:h_}(I:Õ X E w H s):∀(ds:N%0)(j:V%0)(us:B%0),S X.K H ds j->Ú j us->X3 (ý ds)=L->∃as,ReadsAll s.heap us (ý ds) as|[],j,us,r,q,_=>by cases(show j=[]from r);cases q;exact⟨_,.nil⟩|d::ds,j,us,r,q,f=>by obtain⟨v,Q,rfl,r1,r2⟩:∃v us,j=v::us/\Ü X.K H d v/\S X.K H ds us:=r;cases q with|cons q1 q2=>
 have p:(gV d).canLay0=L/\X3 (ý ds)=L:=by simpa[ý,X3]using f
 obtain⟨as,a⟩:=Ü.reads I d v _ r1 q1 p.1;obtain⟨bs,b⟩:=S.reads I ds Q _ r2 q2 p.2;exact⟨_,.cons a b⟩end
def okP(d:N):Bool:=SeqAt.shaped (gV d)
def rPy(X:C)(d:Bool):R2:=λx y H Q=>∃b a,Ü X.K H b x/\Ü X.K H a y/\okP b=L/\okP a=L/\Q (.bl (if d then !WY (gV b) (gV a)else WY (gV b) (gV a))) H
def MQ(m:a.A.units+64<cLine):ă a (Wh .Eq) (rPy a D):=by intro r s p H x y v u Q I f e h;obtain⟨o,n,k,j,d,b,q⟩:=h;obtain⟨as,i⟩:=Ü.reads I o x v k f (YY.mp d).1;obtain⟨bs,g⟩:=Ü.reads I n y u j e (YY.mp b).1;exact SeqAt.compareEq_shaped i g d b m ⟨.bl _,H,I,rfl,q⟩
def MR(m:a.A.units+64<cLine):ă a (Wh .NotEq) (rPy a L):=by intro r s p H x y v u Q I f e h;obtain⟨o,n,k,j,d,b,q⟩:=h;obtain⟨as,i⟩:=Ü.reads I o x v k f (YY.mp d).1;obtain⟨bs,g⟩:=Ü.reads I n y u j e (YY.mp b).1;exact SeqAt.compareNe_shaped i g d b m ⟨.bl _,H,I,rfl,q⟩
def è(x y:N):Rs N%1:=match ū x y with|some b=>.bl b%3|none=>if okP x&&okP y then .bl (WY (gV x) (gV y))%3 else U
def İ(x y:N):Rs N%1:=match ū x y with|some b=>.bl (!b)%3|none=>if okP x&&okP y then .bl (!WY (gV x) (gV y))%3 else U
def Uw(X:C):R2:=λx y H Q=>rEq x y H Q\/rPy X D x y H Q
def Ux(X:C):R2:=λx y H Q=>rNe x y H Q\/rPy X L x y H Q
def MS(b:a.A.units+64<cLine):ă a (Wh .Eq) (Uw a):=op_eq.or (MQ b)
def MT(b:a.A.units+64<cLine):ă a (Wh .NotEq) (Ux a):=op_ne.or (MR b)
def MU:ĝ a (Uw a) è:=by
 intro k j x y H Q f e o;unfold è at o;split at o;·rename_i b g;obtain⟨i,h⟩:=F6 f e g;exact .inl ⟨i,by rw[h];exact o _ H (.refl H) rfl⟩
 · split at o;·rename_i d;rw[m_]at d;exact .inr ⟨k,j,f,e,d.1,d.2,o _ H (.refl H) rfl⟩
   ·exact o.elim
def MV:ĝ a (Ux a) İ:=by
 intro k j x y H Q f e o;unfold İ at o;split at o;·rename_i b g;obtain⟨i,h⟩:=F6 f e g;exact .inl ⟨i,by rw[h];exact o _ H (.refl H) rfl⟩
 · split at o;·rename_i d;rw[m_]at d;exact .inr ⟨k,j,f,e,d.1,d.2,o _ H (.refl H) rfl⟩
   ·exact o.elim
def Œ:N->N->Rs N%1|.int i,.int j=>.bl (o_ (i<j))%3|.str x,.str y=>.bl (o_ (x.cps.toList<y.cps.toList))%3|_,_=>U
def Uy:R2:=λx y H Q=>ű (λi j=>.bl (o_ (i<j))) x y H Q\/∃i j,x=.str i/\y=.str j/\Q (.bl (o_ (i.cps.toList<j.cps.toList))) H
def HU:ă a (Wh .Lt) Uy:=op_lt.or yS
def HV:ĝ a Uy Œ:=by
 intro f e x y H Q d b o;cases f<;>cases e<;>try exact(show False from o).elim
 ·rename_i i j;exact .inl ⟨i,j,d,b,o _ H (.refl H) rfl⟩
 ·rename_i i j;exact .inr ⟨i,j,d,b,o _ H (.refl H) rfl⟩
def sj:∀(a:Str%0)(k:Nat),Ú (a.map V.str) (strsFrom k a)|[],_=>.nil|p::a,k=>.cons ⟨k,rfl⟩ (sj a (k+1))
def sk{K:d_}{H:Hp}:∀a:Str%0,S K H (a.map N.str) (a.map V.str)|[]=>rfl|p::a=>⟨.str p,a.map V.str,rfl,rfl,sk a⟩
def je:Str->ß|x,[.str y]=>if y.length≠0/\x.length<=100000/\(X0 x y).length<=100000 then .lst ((X0 x y).map N.str)%3 else U|_,_=>U
def Ga:V->V%0->Hp->VK->Prop:=λx a H Q=>∃i j,x=.str i/\a=[.str j]/\j.length≠0/\i.length<=sizeLine/\(X0 i j).length<=sizeLine/\∀p,H p=U->Q (.ref p) (æ H p (.lst ((X0 i j).map V.str)))
def Du:Š a "str.split" Ga:=by
 intro A s o H x E v us Q I p w h;obtain⟨i,j,rfl,rfl,y,z,g,q⟩:=h;obtain⟨t,rfl⟩:=p;obtain⟨u,rfl,r⟩:=iP w;obtain⟨f,rfl⟩:=r;have n:(j.length==0)=D:=by simpa using y
 have one:∀{m:h_},m={s with heap:=s.heap.push {cls:=.type "list",data:=.seq [Yp i t].toArray}}->X0 i j=[i]->EP a A o Q (.ref s.heap.objs.size) m:=λe k=>by subst e;rw[k]at q;exact⟨.ref _,_,I.lnew (its:=[Yp i t]) (ys:=[V.str i]) (t':=s.toks) (.cons ⟨t,rfl⟩ .nil) (by show 1<=sizeLine;decide),rfl,q _ I.fresh⟩
 cases b:(o_ (i.length<j.length)||o_ (XF i<XF j))
 · cases d:(Wq i j 0 i.length (i.length+1)).isEmpty
   · have k:X0 i j=Builtin.Str.partsBetween i (Wq i j 0 i.length (i.length+1)) j.length:=by unfold X0;rw[if_neg (by rw[b];exact q_),if_neg (by rw[d];exact q_)]
     rw[k]at q g;refine Yd Zw (Zj _ _ _) aa2 (aaL _ _) (meets_str_split_sep i j t f b n d z g) ?_;exact⟨.ref _,_,I.lnew (t':=_) (sj _ _) (by rw[S_];exact g),rfl,q _ I.fresh⟩
   ·refine Yd Zw (Zj _ _ _) aa2 (aaL _ _) (meets_str_split_not_found i j t f b n d) ?_;exact one rfl (by unfold X0;rw[if_neg (by rw[b];exact q_),if_pos d])
 ·refine Yd Zw (Zj _ _ _) aa2 (aaL _ _) (meets_str_split_cannot_occur i j t f b) ?_;exact one rfl (by unfold X0;rw[if_pos b])
def HW(i:Str)(f:N%0)(e:V%0)(H:Hp)(Q:VK)(g:S a.K H f e)(o:ð a H (je i f) Q):Ga (.str i) e H Q:=by
 unfold je at o;split at o
 · rename_i j;split at o;·rename_i b;obtain⟨w,rfl,d⟩:=fN g;cases(show w=.str j from d);exact⟨i,j,rfl,rfl,b.1,bT b.2.1,bT b.2.2,λp h=>o _ _ (aH h _) ⟨p,_,rfl,az,sk _⟩⟩
   ·exact o.elim
 ·exact o.elim
def xu:N%0->(Str%0)%1|[]=>Z []|.str x::r=>(match xu r with|some a=>Z (x::a)|none=>U)|_=>U
def Dw:Str->ß|x,[.lst ds]=>(match xu ds with|some a=>if JoinOk x a=L then .str (YU x a)%3 else U|none=>U)|_,_=>U
def MW(K:d_):V->V%0->Hp->VK->Prop:=λx e H Q=>∃i a d ds b,x=.str i/\e=[.ref a]/\H a=Z (.lst d)/\S K H ds d/\xu ds=Z b/\JoinOk i b=L/\Q (.str (YU i b)) H
def oU{K:d_}{H:Hp}:∀{ds:N%0}{a:V%0}{us:B%0}{e:Str%0},S K H ds a->Ú a us->xu ds=Z e->∃l:(Str×Tok)%0,us=strValues l/\l.map (·.1)=e
 |[],a,us,e,r,q,h=>by cases(show a=[]from r);cases q;cases h;exact⟨[],rfl,rfl⟩|d::ds,a,us,e,r,q,h=>by obtain⟨v,p,rfl,i,g⟩:∃v us,a=v::us/\Ü K H d v/\S K H ds us:=r;cases q with|cons k j=>
 cases d<;>try(cases h;done)
 rename_i b;simp![xu]at h;cases f:xu ds with|none=>rw[f]at h;cases h|some o=>rw[f]at h;cases h;cases(show v=.str b from i);obtain⟨t,rfl⟩:=k;obtain⟨l,n,m⟩:=oU g j f;exact⟨(b,t)::l,by rw[n];rfl,by rw[G_,m]⟩
def HX:Š a "str.join" (MW a.K):=by intro f' s E H x xs v us Q I d j h;obtain⟨i,b,vs,ds,ts,rfl,rfl,r,p,o,m,q⟩:=h;obtain⟨t,rfl⟩:=d;obtain⟨u,rfl,g⟩:=iP j;cases g;obtain⟨z,A,n,f,hl,e⟩:=I.lstM r;obtain⟨l,y,w⟩:=oU p f o;subst y;exact SC.join ⟨_,e,rfl,_,rfl⟩ w m λt' k=>⟨.str _,H,I.tok _,⟨_,rfl⟩,q⟩
def MX(i:Str)(f:N%0)(e:V%0)(H:Hp)(Q:VK)(j:S a.K H f e)(o:ð a H (Dw i f) Q):MW a.K (.str i) e H Q:=by
 unfold Dw at o;split at o
 · rename_i q;split at o
   · rename_i h k;split at o;·rename_i m;obtain⟨w,rfl,d⟩:=fN j;obtain⟨b,g,rfl,p,n⟩:=d.lstE;exact⟨i,b,g,q,h,rfl,rfl,p,n,k,m,o _ H (.refl H) rfl⟩
     ·exact o.elim
   ·exact o.elim
 ·exact o.elim
def qe:Str->ß|x,[.str y]=>if y.length≠0/\x.length<=100000 then .tup [.str (XM x y).1,.str (XM x y).2.1,.str (XM x y).2.2]%3 else U|_,_=>U
def MY:V->V%0->Hp->VK->Prop:=λx a H Q=>∃i j,x=.str i/\a=[.str j]/\j.length≠0/\i.length<=sizeLine/\∀p,H p=U->Q (.ref p) (æ H p (.tup [.str (XM i j).1,.str (XM i j).2.1,.str (XM i j).2.2]))
def HY:Š a "str.partition" MY:=by
 intro f' s p H x xs v us Q I y A h;obtain⟨i,j,rfl,rfl,hj,hi,q⟩:=h;obtain⟨t,rfl⟩:=y;obtain⟨u,rfl,z⟩:=iP A;obtain⟨w,rfl⟩:=z;have E:(j.length==0)=D:=by simpa using hj
 have f:∀(d b c:Str)(n m g:Tok)(k:Nat),XM i j=(d,b,c)->EP a f' p Q (.ref s.heap.objs.size) {s with toks:=k,heap:=s.heap.push {cls:=.type "tuple",data:=.seq [Yp d n,.str b m,.str c g].toArray}}:=λd b c n m g k e=>by rw[e]at q;refine⟨.ref _,_,I.laid (t':=k) (λb u e=>l_ _ e) (rl _) ?_,rfl,q _ I.fresh⟩;exact⟨by show 3<=sizeLine;decide,[Yp d n,.str b m,.str c g],.cons ⟨_,rfl⟩ (.cons ⟨_,rfl⟩ (.cons ⟨_,rfl⟩ .nil)),⟨_,xy _ rfl,rfl,_,rfl⟩⟩
 refine Yd abm (Zj _ _ _) F.entry_str_partition (F.args_str_partition_2 _ _) (meets_str_partition i j t w E hi) ?_;cases o:Wq i j 0 i.length 1 with|nil=>exact f _ _ _ _ _ _ _ (by unfold XM;rw[o])|cons k r=>exact f _ _ _ _ _ _ _ (by unfold XM;rw[o])
def MZ(i:Str)(f:N%0)(d:V%0)(H:Hp)(Q:VK)(g:S a.K H f d)(o:ð a H (qe i f) Q):MY (.str i) d H Q:=by
 unfold qe at o;split at o
 · rename_i j;split at o;·rename_i e;obtain⟨w,rfl,b⟩:=fN g;cases(show w=.str j from b);exact⟨i,j,rfl,rfl,e.1,bT e.2,λp h=>o _ _ (aH h _) ⟨p,_,rfl,az,⟨_,_,rfl,rfl,_,_,rfl,rfl,_,_,rfl,rfl,rfl⟩⟩⟩
   ·exact o.elim
 ·exact o.elim
def gq:ß|[.lst a]=>.tup a%3|[.tup a]=>.tup a%3|_=>U
def Dx(y:Gl a "tuple")(s:a.mg "tuple"=U)(A:FA a (g::u) ο)(z:g%8:=by lk)(j:(V6 w (j_ u a.env)).any (·.1)=D:=by lk):FE a (.Call (.Name "tuple" o) (g::u) [] w) (é gq ο):=dI (mM pW y s (by decide+kernel) A.h #v[] #v[] z j) λI H Q p E d=>⟨p,E,ï.bind d λds vs n e1 k f=>by
 unfold gq at f;split at f;·rename_i q;obtain⟨v,rfl,r⟩:=fN k;obtain⟨b,e,rfl,h,i⟩:=r.lstE;exact⟨b,e,rfl,.inl ⟨č.of h,λl m=>f _ _ (aH m _) ⟨l,e,rfl,az,S.mono (aH m _) _ _ i⟩⟩⟩
 ·rename_i q;obtain⟨v,rfl,r⟩:=fN k;obtain⟨b,e,rfl,h,i⟩:=r.tupE;exact⟨b,e,rfl,.inr ⟨Ā.of h,f _ n (.refl n) ⟨b,e,rfl,h,i⟩⟩⟩
 ·exact f.elim⟩
def uI(x:N):N%0->Nat->Nat%1|[],_=>U|y::a,k=>if eqF y x then Z k else uI x a (k+1)
def QS:N%0->ß|a,[x]=>if jW x&&a.all jW&&o_ (a.length<=100000)then(match uI x a 0 with|some j=>.int j%3|none=>U)else U|_,_=>U
def zy{K:d_}{H:Hp}{x:N}{u:V}(q:Ü K H x u)(n:jW x=L):∀{d:N%0}{b:V%0}{k j:Nat},S K H d b->d.all jW=L->uI x d k=Z j->k<=j/\(∃v,b[j-k]?=Z v/\Ľ v u=L)/\∀(m:Nat)v,m<j-k->b[m]?=Z v->Ľ v u=D
 |[],b,k,j,r,_,h=>by cases h|y::p,b,k,j,r,g,h=>by
  obtain⟨v,ws,rfl,A,s⟩:∃v us,b=v::us/\Ü K H y v/\S K H p us:=r;rw[Xc,m_]at g;unfold uI at h;have o:=zv A q g.1 n;split at h;·rename_i f;cases h;refine⟨rl _,⟨v,by simp,by rw[o];exact f⟩,λm w E=>by omega⟩
  · rename_i f;obtain⟨a,⟨w,Q,I⟩,c⟩:=zy q n s g.2 h;refine⟨by omega,⟨w,?_,I⟩,λm z E i=>?_⟩
    · have e:j-k=(j-(k+1))+1:=by omega
      rw[e,Zv];exact Q
    ·cases m with|zero=>
      have:z=v:=by simpa using i.symm
      subst this;rw[o];simpa using f|succ m=>exact c m z () (by simpa using i)
def M1:V->V%0->Hp->VK->Prop:=λx d H Q=>∃a b y j,x=.ref a/\d=[y]/\H a=Z (.lst b)/\ji y=L/\b.all ji=L/\b.length<=100000/\(∃v,b[j]?=Z v/\Ľ v y=L)/\(∀(m:Nat)v,m<j->b[m]?=Z v->Ľ v y=D)/\Q (.int j) H
def Gb(r:Ú ν ξ)(f:ν.all ji=L){m:Nat}{v:V}(h:ν[m]?=Z v):∃a:m<ξ.length,ń ψ ξ[m]=Ľ v ψ:=by obtain⟨u,d,b⟩:=r.get h;obtain⟨a,e⟩:=F_.mp d;refine⟨a,?_⟩;rw[e];exact vL b (Wu.mp f v (We h))
def Dy:Š a "list.index" M1:=by
 intro f' s σ H x xs v us Q I A rs h;obtain⟨b,r,y,j,rfl,rfl,h1,fy,g,hz,⟨w,hw,p⟩,k,q⟩:=h;cases A;obtain⟨u,rfl,E⟩:=iP rs;obtain⟨z,i,n,f,hl,e⟩:=I.lstM h1;obtain⟨hj,ej⟩:=Gb (ψ:=y) f g hw;refine Yd abn ⟨_,e,rfl⟩ PySem.F.entry_list_index (PySem.F.args_list_index_2 _ _) (SeqAt.list_indexAt b i.toArray n U #[] u (ń y) j (by simpa using hj) () (by simpa[ej]using p) λm hm o=>?_) ⟨e,λt ht=>iQ E fy f g t (by simpa using ht),⟨.int j,H,I.tok _,⟨_,rfl⟩,q⟩⟩;have d:m<r.length:=by rw[f.length];simpa using hm
 obtain⟨a',em⟩:=Gb (ψ:=y) f g (I_ d);have:=k m r[m] o (I_ d);simpa[em]using this
def fML(g:N%0->ß)(e:Û)(d:ë):Û:=λa=>Þ (e a) λx=>match x with|.lst i=>Þ (d a) λb=>g i b|_=>U
def Dz(ho:FE a y A)(ha:FA a (g::u) ο)(k:Wz y "index" a.env (eval y a.env)=eval y a.env:=by lk)(q:((V6 w (j_ (g::u) a.env)).all (λx=>!x.1)&&(Xo w (WJ [] a.env)).all (λx=>x.1.isSome)&&o_ ((g::u).length+([]:Xu%0).length+(if([]:Xu%0).isEmpty then 0 else 1)<30))=L:=by lk)(i:(o.endLine==w.line)=L:=by lk)(hs:g%8:=by lk)(f:(V6 w (j_ u a.env)).any (·.1)=D:=by lk):FE a (.Call (.Attribute y "index" o) (g::u) [] w) (fML QS A ο):=dI (zj Xz abn PySem.F.type_list_index Dy ho.h ha.h k q i hs f) λσ H Q r E y=>⟨r,E,ð.bind y λd v H1 e1 rd z=>by
 cases d<;>try exact(show False from z).elim
 rename_i ds;obtain⟨e,s,rfl,h1,I⟩:=rd.lstE;refine⟨.inl ⟨rfl,s,č.of h1⟩,r,E.mono e1,ï.bind z λu ws H2 e2 rs h=>?_⟩;unfold QS at h;split at h
 · rename_i x;split at h
   · rename_i m;rw[m_,m_]at m;split at h;·rename_i j hj;obtain⟨b,rfl,n⟩:=fN rs;have p:=S.mono e2 _ _ I;obtain⟨c1,c2,c3⟩:=zy n m.1.1 p m.1.2 hj;refine⟨e,s,b,j,rfl,rfl,e2 _ _ h1,p8 n m.1.1,mr p m.1.2,by rw[I.length];exact of_decide_eq_true m.2,by simpa using c2,by simpa using c3,h _ H2 (.refl H2) rfl⟩
     ·exact h.elim
   ·exact h.elim
 ·exact h.elim⟩
structure FG(X:C)(tg:t_)(b:N->Ev->Ev%1):Prop where h:∀(f':(O×Obj)%0)(s:h_)(σ:L2.St)(H:Hp)(v:V)(u:B)(d:N)(ρ ρ':Ev),Õ X f' σ H s->â v u->Ü X.K H d v->ã X.K H σ ρ->b d ρ=Z ρ'->w_ (D_ X.prog X.w) X.A (Ye tg X.env u) (λ_ s'=>∃σ' H',Õ X f' σ' H' s'/\Ù H H'/\ã X.K H' σ' ρ') X.xe s
def gN(i:Nat):N->Ev->Ev%1:=λd a=>Z (a.set i (Z d))
def gP(i j:Nat):N->Ev->Ev%1:=λd b=>match d with|.tup [a,c]=>Z ((b.set i (Z a)).set j (Z c))|_=>U
def HZ(i:Nat){x:Str}(n:a.N.Nodup)(k:a.N[i]?=Z x)(j:Ŏ a.env.scope x)(m:a.fn x=L\/a.env.scope.names.lookup x=Z .local):FG a (.Name x o) (gN i):=⟨λp s f H v u d A z I r h E e=>by cases e;exact ê (iO n k j m p s f H v u (λb g=>g=H/\b=f.set i (Z v)) I r ⟨rfl,rfl⟩) λ_ Q⟨b,g,y,w,q⟩=>by subst w q;exact⟨_,_,y,.refl _,E.set h⟩⟩
def zC(i j:Nat){x y:Str}{k:Nat}(hc:a.calm=L)(z:a.N.Nodup)(hi:a.N[i]?=Z x)(hx:Ŏ a.env.scope x)(hf:a.fn x=L\/a.env.scope.names.lookup x=Z .local)(hj:a.N[j]?=Z y)(hy:Ŏ a.env.scope y)(hg:a.fn y=L\/a.env.scope.names.lookup y=Z .local)(n:(V_ [.Name x w,.Name y Ο] a.env).map (·.2)=Ye (.Name x w) a.env::(V_ [.Name y Ο] a.env).map (·.2):=by lk)(m:(V_ [.Name y Ο] a.env).map (·.2)=Ye (.Name y Ο) a.env::(V_ [] a.env).map (·.2):=by lk)(hn:(V_ [.Name x w,.Name y Ο] a.env).length=2:=by lk)(h:(V_ [.Name x w,.Name y Ο] a.env).findIdx? (·.1)=U:=by lk):FG a (.Tuple [.Name x w,.Name y Ο] k o) (gP i j):=⟨λf' s p H v u d ρ a' I r Q E e=>by
 unfold gP at e;split at e;·rename_i b c;cases e;obtain⟨ad,xs,rfl,h1,h2⟩:=Q.tupE;obtain⟨q,g,rfl,ra,rc⟩:=Dk h2;refine ê (yK (j:=2) hc (pR (iO (b:=i) z hi hx hf) (pR (iO (b:=j) z hj hy hg) yJ m) n) hn h f' s p H _ u (λf A=>A=H/\f=(p.set i (Z q)).set j (Z g)) I r ⟨ad,_,rfl,Ā.of h1,rfl,q,[g],rfl,g,[],rfl,rfl,rfl,rfl⟩) λ_ s'⟨f,A,I',e1,e2⟩=>?_;subst e1 e2;exact⟨_,_,I',.refl _,(E.set ra).set rc⟩
 ·cases e⟩
structure WkG(K:d_)(J:It)(ds:N%0)(H0:Hp):Prop where
 go:∀i H,Ù H0 H->i<ds.length->J.go i H
 stop:∀H,Ù H0 H->J.stop ds.length H
 yld:∀i H x H',Ù H0 H->i<ds.length->J.yld i H x H'->Ù H H'/\∃d,ds[i]?=Z d/\Ü K H' d x
def Wk.toG{J:It}(w:Wk q J E h):WkG q J E h:=⟨w.go,w.stop,λi H x g e a y=>by obtain⟨rfl,d,f,b⟩:=w.yld i H x g e a y;exact⟨.refl _,d,f,b⟩⟩
def Ĺ(X:C)(H:Hp)(o:Rs (N%0)%1)(R:It->Hp->Prop):Prop:=match o with|none=>False|some (.exc c)=>XW X c H|some (.ok ds)=>∀J a,Ù H a->WkG X.K J ds a->R J a
def Ĺ.mono{R:It->Hp->Prop}(e:Ù h Δ):∀{o:Rs (N%0)%1},Ĺ a h o R->Ĺ a Δ o R|none,b=>b|some (.exc _),b=>XW.mono b e|some (.ok _),b=>λv f d r=>b v f (e.trans d) r
structure Ű(X:C)(tg iter:t_)(f:ë):Prop where h:PI X tg iter λσ H R=>∃ρ,ã X.K H σ ρ/\Ĺ X H (f ρ) R
def FI.toG(h:FI a g y ο):Ű a g y ο:=⟨λf s d H R I⟨b,E,o⟩=>h.h f s d H R I ⟨b,E,by match j:ο b,o with|some (.exc c),o=>exact o|some (.ok ds),o=>exactλJ i e w=>o J i e w.toG⟩⟩
def jj(m:Nat)(b:(Str×Nat)%0)(a:Ev):Ev:=u_ m U++b.map λc=>(a[c.2]?).join
def lA(b:N->Ev->Ev%1)(a:î%1)(e:Û)(f:Ev):N%0->(N%0)%1|[]=>Z []|d::ds=>match b d f with|none=>U|some g=>match(match a with|none=>(L%3:Rs Bool%1)|some t=>t g)with|some (.ok L)=>(match e g with|some (.ok y)=>(match lA b a e f ds with|some h=>Z (y::h)|none=>U)|_=>U)|some (.ok D)=>lA b a e f ds|_=>U
def sr(m:Nat)(b:(Str×Nat)%0)(a:L2.St):L2.St:=u_ m U++b.map λc=>(a[c.2]?).join
def ss{l:Option θ%0}(h:(u_ b (U:θ%1)++l)[j]?=Z (Z Ó)):∃k,j=b+k/\l[k]?=Z (Z Ó):=by
 by_cases a:j<b;·rw[N_ (by simpa using a),Yv,if_pos a]at h;cases h
 ·refine⟨j-b,by omega,?_⟩;rw[Q_ (by simpa using a)]at h;simpa using h
def zD(m:Nat)(g:(Str×Nat)%0)(E:ã q h Ι ζ):ã q h (sr m g Ι) (jj m g ζ):=by refine⟨by simp[sr,jj],λi d b=>?_⟩;obtain⟨k,rfl,e⟩:=ss b;rw[K_]at e;cases f:g[k]? with|none=>rw[f]at e;simp at e|some c=>
 rw[f]at e;simp![YI,ZK]at e;have p:ζ[c.2]?=Z (Z d):=by cases a:ζ[c.2]? with|none=>rw[a]at e;simp at e|some o=>rw[a]at e;simp at e;rw[e]
 obtain⟨v,n,j⟩:=E.at' c.2 d p;refine⟨v,?_,j⟩;unfold sr;rw[Q_ ∅];simp![W_,abw,K_,f,YI,n];rfl
def su{R:aca->h_->Prop}{b':B}{d:Env}(b:Nat->h_->Prop)(c':∀n f,b n f->w_ (D_ s r) I (ů Α) (λa z=>match a with|none=>R (.ok .next) z|some v=>w_ (D_ s r) I (aai y Α v) (λ_ Q=>w_ (D_ s r) I (Ye y d v) (λ_ H=>w_ (D_ s r) I (ad1 u L λc a=>if a=L then do let ok<-isTrue c d (eval c d);pure (YJ ok)else pure (YJ a)) (λok w=>if ok=L then w_ (D_ s r) I (eval g d) (λx q=>w_ (D_ s r) I (call (.builtin "list.append") [b',x]) (λ_ p=>∃m,m<n/\b m p) (acP (D_ s r) I d λe k=>R (.error e) k) q) (acP (D_ s r) I d λe k=>R (.error e) k) w else∃m,m<n/\b m w) (acP (D_ s r) I d λe k=>R (.error e) k) H) (acP (D_ s r) I d λe k=>R (.error e) k) Q) (acP (D_ s r) I d λe k=>R (.error e) k) z) (acP (D_ s r) I d λe k=>R (.error e) k) f)(n:Nat)(h:b n f):Yl (D_ s r) I (.compLoop (.ListComp g [⟨y,Ê,u,0⟩] ω o) 0 Α b' d) R f:=by refine codeAny_loop rfl b (λn f hI=>?_) n h;show w_ _ I ((compTurn (.ListComp g [⟨y,Ê,u,0⟩] ω o) 0 Α b' d).onRaise (λx=>do ada x d;theTreesLotGoes x)) _ _ f;refine wpAny_noted ?_;rw[compTurn_list];refine e_ (acv (e_ (Wr (c' n f hI) (λa z a'=>?_) λ_ _ j=>j)));cases a with|none=>exact k_ a'|some v=>refine e_ (Wr a' (λ_ Q e'=>?_) λ_ _ j=>j);refine e_ (Wr e' (λ_ H d'=>e_ (Wr d' (λok w i=>?_) λ_ _ j=>j)) λ_ _ j=>j);cases ok with
 |false=>rw[if_neg q_]at i;first|exact e_ (k_ (k_ ⟨rfl,i⟩))|exact k_ ⟨rfl,i⟩|(show w_ _ _ (again _) _ _ _;exact k_ ⟨rfl,i⟩)
 |true=>rw[if_pos rfl]at i;first|exact e_ (e_ (Wr i (λx q E=>e_ (Wr E (λ_ p A=>k_ (k_ ⟨rfl,A⟩)) λ_ _ j=>j)) λ_ _ j=>j))|exact e_ (Wr i (λx q E=>e_ (Wr E (λ_ p A=>k_ ⟨rfl,A⟩) λ_ _ j=>j)) λ_ _ j=>j)
def dt(m:Nat)(h:(Str×Nat)%0)(d:ë)(b:N->Ev->Ev%1)(a:î%1)(e:Û):Û:=λf=>Þ (d f) λds=>match lA b a e (jj m h f) ds with|some g=>if g.length<=100000/\ds.length<=100000 then .lst g%3 else U|none=>U
def RO{i:(Str×Nat)%0}{a:N->Ev->Ev%1}{d:î%1}{o:Rs N}(h:dt b i ο a d A ζ=Z o):(∃c,ο ζ=c%9/\o=.exc c)\/∃ds e,ο ζ=ds%3/\lA a d A (jj b i ζ) ds=Z e/\ds.length<=100000/\e.length<=100000/\o=.ok (.lst e):=by unfold dt at h;match g:ο ζ with|none=>rw[g]at h;cases h|some (.exc c)=>rw[g]at h;cases h;exact .inl ⟨c,rfl,rfl⟩|some (.ok ds)=>rw[g]at h;dsimp only[Þ]at h;match f:lA a d A (jj b i ζ) ds with
 |none=>rw[f]at h;cases h|some e=>
 rw[f]at h;dsimp only at h;split at h;·rename_i j;cases h;exact .inr ⟨ds,e,rfl,f,j.2,j.1,rfl⟩
 ·cases h
def M3(e:(Str×Nat)%0)(b:Ev)(d:N)(a:Ev)(h:gN 0 d (jj 1 e b)=Z a):fgt [0] a=jj 1 e b:=by cases h;rfl
def RP(e:(Str×Nat)%0)(b:Ev)(d:N)(a:Ev)(h:gP 0 1 d (jj 2 e b)=Z a):fgt [0,1] a=jj 2 e b:=by
 unfold gP at h;split at h;·cases h;rfl
 ·cases h
def Ite(K:d_)(a:O):It:=⟨λi H=>∃b x,č K H a b/\b[i]?=Z x,λi H v d=>∃p x,v=.ref p/\H p=U/\d=æ H p (.tup [.int i,x])/\∀b,č K H a b->b[i]?=Z x,λi H=>∃b,č K H a b/\b.length<=i⟩
def zE(a e A:O)(e':e≠A):yM s r q (.Tuple u b o) (Ite q a) [e,A] e (λi h=>(∃Q,IsEnum h e A i Q)/\h.IsListIter A a i)where
 mem:=by simp
 obj:=λi h st f hb=>by
  obtain⟨⟨Q,he⟩,j,e2,c,d⟩:=st;have n':f=e\/f=A:=by simpa using hb
  rcases n' with rfl|rfl;·exact⟨_,he,λv z=>by cases z⟩
  ·exact⟨j,e2,λv z=>by rw[d]at z;cases z⟩
 keep:=λi h h' st kk=>by obtain⟨⟨Q,he⟩,a'⟩:=st;exact⟨⟨Q,kk e ∅ _ he⟩,a'.at λj ee=>kk A ∅ j ee⟩
 item:=by
  intro X hP hw hK hc i f' k σ H E I hf st hg;subst hP hw hK;obtain⟨xs,x,hq,hx⟩:=hg;obtain⟨l',rv,p,hz⟩:=I.list hq;obtain⟨w,hu,ru⟩:=rv.get hx;obtain⟨⟨Q,he⟩,a'⟩:=st;obtain⟨f0,f1,R,f3,f4,f5⟩:=hf e ∅;obtain⟨g0,g1,g2,g3,g4,g5⟩:=hf A ∅;refine wpAny_pyNext_enum_item he a' p.isList (x:=w) (by simpa using hu) e' λh' eo k' tp sz kk=>?_;refine⟨_,rfl,wpAny_letOwnedTupleGo_enum eo λh2 m' c'=>?_⟩;have hp:H k.heap.objs.size=U:=I.hok.fresh (rl _);have g':e<k.heap.objs.size:=z_ he;have k2:∀f j,f∉[e,A]->k.heap.get? f=Z j->h2.get? f=Z j:=λf j hb g=>c'.extBut f j (λz=>hb (by simp[z])) (kk f j (λz=>hb (by simp[z])) (λz=>hb (by simp[z])) g);have i':h2.get? k.heap.objs.size=Z {cls:=.type "tuple",data:=.seq #[.int i k.toks,w]}:=c'.extBut _ _ (Y3 g') tp;have I1:Õ X f' σ (æ H k.heap.objs.size (.tup [.int i,x])) {k with heap:=h2,toks:=k.toks+1}:=by
   have nt:∀f w,H f=Z w->f∉[e,A]:=λf w g z=>by
    have z':f=e\/f=A:=by simpa using z
    rcases z' with rfl|rfl;·rw[f0]at g;cases g
    ·rw[g0]at g;cases g
   refine I.step (g':=k.gens) (d':=k.drawn) (ch:=[e,A]) (λf hb=>?_) (λf j _ _ b' g _=>k2 f j b' g) (λf j _ _ b' g _=>⟨j.slots,k2 f j b' g⟩) (λf j b' g n=>?_) (λf j b' g=>⟨j,k2 f j b' g⟩) (λf ys g=>by rw[ay (aF g hp)];exact g) (λf j ys g=>by rw[ay (aF g hp)];exact g) (λf ps g=>⟨#[],by rw[ay (aF g hp),g];simp⟩) (λm hm=>?_) (λf u2 g=>?_) I.bare
   · have z':f=e\/f=A:=by simpa using hb
     rcases z' with rfl|rfl;·exact⟨f3,f1,f4,f5⟩
     ·exact⟨g3,g1,g4,g5⟩
   ·rw[ay (V7 (z_ g))];exact n
   ·obtain⟨j,o',ep,ho,y⟩:=hm;exact⟨j,o',ep,k2 _ j (λz=>by
      have z':X.env.locals=e\/X.env.locals=A:=by simpa using z
      rcases z' with z'|z';·exact f1 z'.symm
      ·exact g1 z'.symm) ho,y⟩
   · by_cases hb:f=k.heap.objs.size;·subst hb;rw[az]at g;cases g;exact⟨by show 2<=sizeLine;decide,[.int i k.toks,w],.cons ⟨_,rfl⟩ (.cons ru .nil),⟨_,i',rfl,_,rfl⟩⟩
     · rw[ay hb]at g;refine(I.hok f u2 g).stay (λc v d' qq=>k2 c v ?_ qq) (λc qq=>by rw[ay (aF qq hp)];exact qq) λc ys qq=>by rw[ay (aF qq hp)];exact qq
       rcases d' with rfl|d';·exact nt _ _ g
       ·exact nt _ _ d'
  refine⟨.ref k.heap.objs.size,_,I1,rfl,⟨_,x,rfl,hp,rfl,λzs hy=>by rw[I.list_inj hy hq];exact hx⟩,⟨⟨_,by simpa using m'⟩,?_⟩,λf hb=>?_⟩;·exact k'.at λj g=>c'.extBut _ _ (WO e') g
  · have z':f=e\/f=A:=by simpa using hb
    rcases z' with rfl|rfl;·rw[ay (V7 g')];exact f0
    ·obtain⟨j,g,_⟩:=id a';rw[ay (V7 (z_ g))];exact g0
 done:=by intro X hP hw hK hc i f' k σ H E I hf st hg;subst hP hw hK;obtain⟨xs,hq,hx⟩:=hg;obtain⟨l',rv,p,hz⟩:=I.list hq;obtain⟨⟨Q,he⟩,a'⟩:=st;obtain⟨g0,g1,g2,g3,g4,g5⟩:=hf A ∅;have hl:=rv.length;exact wpAny_pyNext_enum_end (I.ok.hd hc) he a' p.isList (by simp;omega) λh' eb=>⟨rfl,I.turned (t':=k.toks) (λf j hb e=>eb f j hb e) g0 g1 g3 g4 g5⟩
 self:=λ_ _ _ _ _ st h=>by obtain⟨⟨Q,he⟩,_⟩:=st;exact wpAny_pyIter_enum he h
def lB:Nat->N%0->N%0|_,[]=>[]|k,d::ds=>.tup [.int k,d]::lB (k+1) ds
def jp:∀(ds:N%0)(k:Nat),(lB k ds).length=ds.length|[],_=>rfl|d::ds,k=>by show(lB (k+1) ds).length+1=ds.length+1;rw[jp]
def sw:∀(ds:N%0)(k i:Nat)(d:N),ds[i]?=Z d->(lB k ds)[i]?=Z (.tup [.int ((k+i:Nat):Int),d])
 |[],_,_,_,h=>by simp at h|d::ds,k,0,a,h=>by simp at h;subst h;rfl|d::ds,k,i+1,a,h=>by
  have q:=sw ds (k+1) i a (by simpa using h);show(N.tup [.int k,d]::lB (k+1) ds)[i+1]?=_;rw[Zv,q];have e:k+1+i=k+(i+1):=by omega
  rw[e]
def Ia(b:h e=Z (.lst ν))(r:S q h E ν):WkG q (Ite q e) (lB 0 E) h where
 go:=λi k a g=>by
  rw[jp]at g;have m:i<ν.length:=by rw[r.length];exact g
  exact⟨ν,ν[i],č.of (a _ _ b),by simp[m]⟩
 stop:=λk a=>⟨ν,č.of (a _ _ b),by rw[r.length,jp];exact rl _⟩;yld:=λi k v s a g y=>by obtain⟨p,x,rfl,j,rfl,y⟩:=y;obtain⟨d,o,n⟩:=S.get (S.mono a _ _ r) (y ν (č.of (a _ _ b)));have f:=sw E 0 i d o;rw[YE]at f;exact⟨aH j _,_,f,⟨p,_,rfl,az,⟨.int i,[x],rfl,rfl,x,[],rfl,Ü.mono (aH j _) _ _ n,rfl⟩⟩⟩
def DB:N%0->Rs (N%0)%1|[.lst ds]=>lB 0 ds%3|_=>U
def DC(hg:Gl a "enumerate")(hm:a.mg "enumerate"=U)(ha:FA a [g] ο)(hs:j_ [g] a.env=[(D,eval g a.env)]:=by lk):Ű a (.Tuple u b o) (.Call (.Name "enumerate" w) [g] [] Ο) (λn=>Þ (ο n) DB):=by
 constructor;intro f' s σ H R I h;obtain⟨n,E,d⟩:=h;have key:ï a H (ο n) λr z=>∃ds,S a.K z ds r/\Ĺ a z (DB ds) R:=by match hf:ο n,d with|some (.exc c),d=>exact d|some (.ok ds),d=>exactλr z e y=>⟨ds,y,Ĺ.mono e d⟩
 refine Call_ (j3 I hg hm (show W0 "enumerate"=Z (.type "enumerate")by decide+kernel) (W1 (ê (ha.h Ο f' s σ H _ I ⟨n,E,key⟩) λus k⟨r,q,m,r1,ds,y,p⟩=>?_) hs rfl));unfold DB at p;split at p
 · rename_i xs;obtain⟨v,rfl,rv⟩:=fN y;obtain⟨i,ws,rfl,h1,h2⟩:=rv.lstE;obtain⟨j,rfl,ru⟩:=iP r1;cases ru;obtain⟨b',a',pl,hz⟩:=m.list (č.of h1);refine call_enumerate_list pl.isList λh' he A c' kk=>?_;refine wpAny_pyIter_enum he ?_;have I2:Õ a f' σ q {k with heap:=h'}:=m.kept (t':=k.toks) kk;refine⟨k.heap.objs.size+1,[k.heap.objs.size+1,k.heap.objs.size],_,Ite a.K i,q,rfl,I2,zE i _ _ (Nat.succ_ne_self _),⟨⟨_,he⟩,A⟩,λf hb=>?_,p _ q (.refl q) (Ia h1 h2)⟩;have Q:f=k.heap.objs.size+1\/f=k.heap.objs.size:=by simpa using hb
   rcases Q with rfl|rfl;·exact m.fpOk (aa5 _) (m.hok.fresh (aa5 _))
   ·exact m.fpOk (rl _) (m.hok.fresh (rl _))
 ·exact p.elim
def QT:Nat%0->V%0->L2.St->L2.St|i::is,v::b,a=>QT is b (a.set i (Z v))|_,_,a=>a
def QU:Nat%0->N%0->Ev->Ev|i::is,d::ds,a=>QU is ds (a.set i (Z d))|_,_,a=>a
def Gc(b:Nat%0):TGs:=λa d H Q=>a.length=b.length/\Q (QT b a d) H
def vQ{t e:TGs}(h:ţ a u t)(w:∀d b H Q,e d b H Q->t d b H Q):ţ a u e:=λf s b H d us Q I r q=>h f s b H d us Q I r (w d b H Q q)
def M4:ţ a [] (Gc []):=vQ yJ λb d H Q⟨l,q⟩=>by cases b with|nil=>exact⟨rfl,q⟩|cons v r=>cases l
def Ib(i:Nat){x:Str}{d:Nat%0}{b:t_%0}(n:a.N.Nodup)(k:a.N[i]?=Z x)(g:Ŏ a.env.scope x)(m:a.fn x=L\/a.env.scope.names.lookup x=Z .local)(h:ţ a b (Gc d))(j:(V_ (.Name x o::b) a.env).map (·.2)=Ye (.Name x o) a.env::(V_ b a.env).map (·.2):=by lk):ţ a (.Name x o::b) (Gc (i::d)):=vQ (pR (iO (b:=i) n k g m) h j) λf e H Q⟨l,q⟩=>by cases f with|nil=>cases l|cons v r=>exact⟨v,r,rfl,(⟨Nat.succ.inj l,q⟩:Gc d r (e.set i (Z v)) H Q)⟩
def ã.setAll{K:d_}{H:Hp}:∀(is:Nat%0){ds:N%0}{a:V%0}{b:L2.St}{e:Ev},ã K H b e->S K H ds a->ã K H (QT is a b) (QU is ds e)|[],_,_,_,_,E,_=>E|_::_,[],a,_,_,E,r=>by cases(show a=[]from r);exact E|i::is,d::ds,a,b,e,E,r=>by obtain⟨v,us,rfl,h,t⟩:∃v us,a=v::us/\Ü K H d v/\S K H ds us:=r;exact ã.setAll is (E.set h) t
def Vo(a:Nat%0)(b:Ev):N->Fl%1|.tup ds=>if ds.length=a.length then Z (.nx (QU a ds b))else U|_=>U
def M5(b:Nat%0)(f:Û):ä:=λa=>cV (f a) (Vo b a)
variable{Ç:Nat%0}
def M6(hc:a.calm=L)(h:ţ a u (Gc Ç))(he:FE a g A)(hn:(V_ u a.env).length=Ç.length:=by lk)(q:(V_ u a.env).findIdx? (·.1)=U:=by lk)(Q:aa_ [.Tuple u b w] g o.line a.env=pure D:=by lk)(I:aba [.Tuple u b w] g a.env=pure U:=by lk)(n:(V_ [.Tuple u b w] a.env).map (·.2)=[Ye (.Tuple u b w) a.env]:=by lk):FS a (.Assign [.Tuple u b w] g o) (M5 Ç A):=uC (yL he.h (yK (j:=Ç.length) hc h hn q) Q I n) λi σ H s E e=>⟨s,E,ð.bindS e λd v p g r y=>by cases d with
 |tup ds=>
 have j:þ a p (if ds.length=Ç.length then Z (.nx (QU Ç ds s))else U) i:=y;by_cases k:ds.length=Ç.length;·rw[if_pos k]at j;obtain⟨f,z,rfl,n,m⟩:=r.tupE;exact⟨f,z,rfl,Ā.of n,m.length.trans k,m.length.trans k,j _ p (.refl p) (ã.setAll Ç (E.mono g) m)⟩
 ·rw[if_neg k]at j;exact j.elim|_=>exact y.elim⟩
def ax{b:ä}{a:Ev}(h:Χ ζ=Z (.nx a)):aQ Χ b ζ=b a:=by unfold aQ;rw[h];rfl
def mT{b:ä}(h:Χ ζ=Z (.rt i)):aQ Χ b ζ=Z (.rt i):=by unfold aQ;rw[h];rfl
def cA(h:Ν ζ=D%3):bt Ν Χ (λζ=>Z (.nx ζ)) ζ=Z (.nx ζ):=by unfold bt;rw[h];rfl
def ci{a:Ev}(h:A ζ=i%3)(e:ζ.set b (Z i)=a):cx b A ζ=Z (.nx a):=by unfold cx;rw[h,<-e];rfl
def mv(h:A ζ=i%3):fA A ζ=Z (.nx ζ):=by unfold fA;rw[h];rfl
def eV(h:A ζ=i%3):aR A ζ=Z (.rt i):=by unfold aR;rw[h];rfl
def zF{b:î}(h:Ν ζ=L%3):mR Ν b ζ=b ζ:=by unfold mR;rw[h];rfl
def zI{b:î}(h:Ν ζ=D%3):mR Ν b ζ=D%3:=by unfold mR;rw[h];rfl
def lC(h:Ν ζ=δ%3):cw Ν ζ=(!δ)%3:=by unfold cw;rw[h];rfl
def bd(h:A ζ=.bl δ%3):fB A ζ=δ%3:=by unfold fB;rw[h];rfl
def ba{g:N->N->Rs N%1}(b:A ζ=i%3)(a:Ä ζ=v%3):R g A Ä ζ=g i v:=by unfold R;rw[b,a];rfl
def qf(h:ζ[b]?=Z (Z i)):Y b ζ=i%3:=by unfold Y;rw[h]
def ac(h:A ζ=i%3)(t:ο ζ=E%3):aO A ο ζ=(i::E)%3:=by unfold aO;rw[h,t];rfl
def aq:dP ζ=Z (.ok []):=rfl
def qg(h:ο ζ=E%3)(a:E.length=b)(d:Ω E=i%3):ag Ω b ο ζ=i%3:=by unfold ag;rw[h];show(if _ then _ else _)=_;rw[if_pos a,d]
def fP(F:ß){f:Û}{b:Ev}{a d:N}(h:f b=a%3)(e:F [a]=d%3):ag F 1 (aO f dP) b=d%3:=qg (ac h aq) rfl e
def gS(F:ß){f g:Û}{e:Ev}{a b d:N}(h:f e=a%3)(j:g e=b%3)(i:F [a,b]=d%3):ag F 2 (aO f (aO g dP)) e=d%3:=qg (ac h (ac j aq)) rfl i
def io(h:ο ζ=E%3)(a:E.length<=100000):cT ο ζ=.tup E%3:=by unfold cT;rw[h];show(if _ then _ else _)=_;rw[if_pos a]
def M7(h:A ζ=.bl D%3):ľ A Ä ζ=Ä ζ:=by unfold ľ;rw[h];rfl
def M8(h:A ζ=.bl L%3):ľ A Ä ζ=.bl L%3:=by unfold ľ;rw[h];rfl
def M9(h:A ζ=.bl L%3):li A Ä ζ=Ä ζ:=by unfold li;rw[h];rfl
def bR(h:ο ζ=E%3):é Ω ο ζ=Ω E:=by unfold é;rw[h];rfl
def RQ(h:Ν ζ=L%3):ĥ Ν A Ä ζ=A ζ:=by unfold ĥ;rw[h];rfl
def RS(h:Ν ζ=D%3):ĥ Ν A Ä ζ=Ä ζ:=by unfold ĥ;rw[h];rfl
def ka(h:ο ζ=E%3)(a:E.length<=100000):eU ο ζ=.lst E%3:=by unfold eU;rw[h];show(if _ then _ else _)=_;rw[if_pos a]
def iz(h:Χ (E.map Z++u_ (b-E.length) U)=Z (.rt i)):bM b Χ E=i%3:=by unfold bM;rw[h]
structure Aft(X:C)(e:O)(Ts:O%0)(h h':O_):Prop where
 keep:∀b o,h.get? b=Z o->b≠e->b∉Ts->b∉frs X.stack->h'.get? b=Z o
 slot:∀b o,h.get? b=Z o->b∈frs X.stack->∃sl,h'.get? b=Z {o with slots:=sl}
def Aft.any{h:O_}(A:Aft a e υ h Q){b:O}{o:Obj}(q:h.get? b=Z o)(i:b≠e)(g:b∉υ):∃f,Q.get? b=Z {o with slots:=f}:=by
 by_cases d:b∈frs a.stack;·exact A.slot b o q d
 ·exact⟨o.slots,A.keep b o q i g d⟩
def Õ.aft(I:Õ a ε Ι h f)(A:Aft a e υ f.heap Q)(b':a.ex=[])(H:∀b,b=e\/b∈υ->h b=U/\a.s₀.heap.get? b=U/\(∀p∈a.pn++ε,p.1≠b)/\∃o E,f.heap.get? b=Z o/\o.data=.fields E):Õ a ε Ι h {f with heap:=Q}:=by
 have nE:∀b,h b≠U->b≠e/\b∉υ:=λb j=>⟨λz=>j (H b (.inl z)).1,λz=>j (H b (.inr z)).1⟩;have n0:∀b o,a.s₀.heap.get? b=Z o->b≠e/\b∉υ:=λb o j=>⟨λz=>(by simp:(Z o:Obj%1)≠U) (j.symm.trans (H b (.inl z)).2.1),λz=>(by simp:(Z o:Obj%1)≠U) (j.symm.trans (H b (.inr z)).2.1)⟩;have nx:∀b,b∉a.ex:=λb=>by rw[b'];simp
 have nD:∀b o,f.heap.get? b=Z o->(∀E,o.data≠.fields E)->b≠e/\b∉υ:=λb o j hd=>
  have go:(b=e\/b∈υ)->False:=λz=>by obtain⟨o',E,q,d⟩:=(H b z).2.2.2;rw[j]at q;cases q;exact hd E d
  ⟨λz=>go (.inl z),λz=>go (.inr z)⟩;have nS:∀b∈frs a.stack,h b=U:=I.stkFree;have y:∀c v,f.heap.IsCell c v->Q.IsCell c v:=λc v⟨o,ho,hd⟩=>by
  obtain⟨w,s⟩:=nD c o ho λE q=>by rw[hd]at q;cases q
  obtain⟨sl,q⟩:=A.any ho w s;exact⟨_,q,hd⟩
 refine⟨I.ok,I.os,I.bare,⟨λb o q n j hx=>?_,λb o q n j hx=>?_,I.base.free,λb o q hx=>?_,I.base.tups,I.base.frzs,I.base.tbls⟩,?_,λx c q=>?_,I.free,I.freeC,λp hp=>?_,λg o q=>?_,I.len⟩
 · have h1:=I.base.keep b o q n j hx;obtain⟨w,s⟩:=n0 b o q;refine A.keep b o h1 w s λz=>?_;rcases v_.mp (I.stkSub b z)with z|z;·exact absurd z (V7 (R_ (z_ q) I.ok.above))
   ·exact j z
 ·obtain⟨sl,h1⟩:=I.base.slot b o q n j hx;obtain⟨w,s⟩:=n0 b o q;obtain⟨a',h2⟩:=A.any h1 w s;exact⟨a',h2⟩
 ·obtain⟨o',h1⟩:=I.base.there b o q hx;obtain⟨w,s⟩:=n0 b o q;obtain⟨sl,h2⟩:=A.any h1 w s;exact⟨_,h2⟩
 · obtain⟨m,⟨o,es,ep,ho,hd,r⟩,hl⟩:=I.loc;obtain⟨w,s⟩:=nD _ o ho λE q=>by rw[hd]at q;cases q
   obtain⟨sl,q⟩:=A.any ho w s;refine⟨m,⟨_,es,ep,q,hd,r⟩,λi x v e1 e2 e3=>?_⟩;obtain⟨u,ru,l⟩:=hl i x v e1 e2 e3;refine⟨u,ru,?_⟩;rcases l with l|⟨k,c,ec,z⟩;·exact .inl l
   ·exact .inr ⟨k,c,ec,y c _ z⟩
 ·obtain⟨v,z⟩:=I.cell x c q;exact⟨v,y c v z⟩
 · obtain⟨q,n,ne,nf,d⟩:=I.pin p hp;have w:p.1≠e:=(H e (.inl rfl)).2.2.1 p hp;have s:p.1∉υ:=λz=>(H p.1 (.inr z)).2.2.1 p hp rfl;refine⟨A.keep p.1 p.2 q w s λz=>?_,n,ne,nf,d⟩;rcases v_.mp (I.stkSub _ z)with z|z;·exact ne z
   ·exact nf z
 · refine(I.hok g o q).stay (λb u j hu=>?_) (λ_ z=>z) λ_ _ z=>z;have hn:h b≠U:=by
    rcases j with rfl|j;·rw[q];simp
    ·rw[j];simp
   exact A.keep b u hu (nE b hn).1 (nE b hn).2 λz=>hn (nS b z)
abbrev ŉ(X:C)(e:O)(a:O%0)(h:O_):O_:=adC h (e::(a++frs X.stack))
def vR(I:Õ a ε Ι h f)(k:(ŉ a e υ f.heap).StaysIn Q)(u:∀b o,f.heap.get? b=Z o->(∀i,o.data≠.fields i)->∃j,Q.get? b=Z {o with slots:=j}):Aft a e υ f.heap Q:=⟨λb o q p n m=>k b o (aap _ q (by simp![v_,V8];rintro(z|z|z);exact p z;exact n z;exact m z)),λb o q r=>by obtain⟨_,s,g,d⟩:=I.stack.mem r;rw[q]at g;cases g;exact u b o q d⟩
def qh(I:Õ a ε Ι h f):f.heap.FunFrames (ŉ a e υ f.heap) a.stack:=PySem.W.funFrames_hide I.stack λg i b d=>s_ _ (on _ (aaS.mpr ⟨g,i,d⟩))
def KE.imp{N d:O->Prop}(F:KE N h e Α Q)(k:∀a,N a->d a):KE d h e Α Q:=by
 obtain⟨y,w,u,f,z,s,r,q,p,b⟩:=F;refine⟨y,k _ w,u,f,z,s,r,q,p,?_⟩;rcases b with b|⟨T,v,g,o,n,m,j,i⟩;·exact .inl b
 ·exact .inr ⟨T,v,g,o,n,m,k _ j,i⟩
def Ge(I:Õ a ε Ι h f)(p:a.ex=[])(he:h e=U/\a.s₀.heap.get? e=U)(hT:∀T∈υ,h T=U/\a.s₀.heap.get? T=U)(ff:Q.FunFrames (ŉ a e υ f.heap) a.stack){T:O}{s:Obj}{r:Array B}(E:(ŉ a e υ f.heap).get? T=U)(A:T≠e)(H:Q.get? T=Z s)(hd:s.data=.fields r):h T=U/\a.s₀.heap.get? T=U:=by
 have w:T∉frs a.stack:=λz=>by obtain⟨_,o,q,d⟩:=ff.mem z;rw[H]at q;cases q;exact d r hd
 have k:T∈υ\/f.heap.get? T=U:=by cases q:f.heap.get? T with|none=>exact .inr rfl|some o=>
   by_cases j:T∈υ;·exact .inl j
   ·have:=aap (e::(υ++frs a.stack)) q (by simp![v_,V8];rintro(z|z|z);exact A z;exact j z;exact w z);rw[E]at this;cases this
 rcases k with j|j;·exact hT T j
 · constructor;·cases q:h T with|none=>rfl|some u=>
    have i:=I.hok T u q;exfalso;have:∃o,f.heap.get? T=Z o:=by clear q;induction u with|lst v=>obtain⟨_,_,_,_,z⟩:=i;exact⟨_,z⟩|tup v=>obtain⟨_,_,_,o,z,_⟩:=i;exact⟨_,z⟩|dK m=>obtain⟨_,_,_,_,o,_,_,z,_⟩:=i;exact⟨_,z⟩|dT m=>obtain⟨_,_,_,_,o,_,_,z,_⟩:=i;exact⟨_,z⟩|set S n=>obtain⟨o,_,_,_,z,_⟩:=i;exact⟨_,z⟩|ins g dx fs=>obtain⟨_,_,_,z,_⟩:=i;exact⟨_,z⟩|own y=>obtain⟨_,z⟩:=i;exact⟨_,z⟩|xd fs=>obtain⟨_,⟨_,_,_,z,_⟩,_⟩:=i;exact⟨_,z⟩|rng lo hi=>obtain⟨_,_,_,z⟩:=i;exact⟨_,z⟩|frz ob u ih=>obtain⟨z,_⟩:=i;exact⟨_,z⟩|tbl ps=>obtain⟨_,z,_⟩:=i;exact⟨_,z⟩|met b y=>exact⟨_,(show f.heap.get? T=Z _ from i)⟩|ext φ=>obtain⟨_,⟨_,z⟩,_⟩:=i;exact⟨_,z⟩
    obtain⟨o,z⟩:=this;rw[j]at z;cases z
   ·cases q:a.s₀.heap.get? T with|none=>rfl|some o=>obtain⟨o',z⟩:=I.base.there T o q (by rw[p];simp);rw[j]at z;cases z
def sx(I:Õ a ε Ι h f)(H:a.ex=[])(g:a.stack=a.env::a.outer)(A:a.env.frame=Z a.env.locals)(F:KE (λd=>a.s₀.heap.get? d=U) h e Α f.heap){Q:Unit->h_->Prop}{E:B->h_->Prop}(k:∀i Ts,KE (λd=>a.s₀.heap.get? d=U) h e Α i->Aft a e Ts f.heap i->(∀b,b=e\/b∈Ts->h b=U/\a.s₀.heap.get? b=U/\∃o r,f.heap.get? b=Z o/\o.data=.fields r)->Q Unit.unit {f with heap:=i}):w_ (D_ a.prog a.w) a.A (leaving a.env (.ref e)) Q E f:=by
 obtain⟨f1,R,oe,r,a0,q1,q2,q3,q4,q5⟩:=F;have y:a.A.frames=Z (a.env::a.outer):=g▸I.ok.frames;subst q2;rcases q5 with q5|⟨T,oT,ts,r1,r2,r3,r4,r5,r6,r7⟩
 · have b3:f.heap.FunFrames (ŉ a e [] f.heap) (a.env::a.outer):=g▸qh I;refine wpAny_leaving_firstW (base:=ŉ a e [] f.heap) y b3 A q1 (λb o z=>YA _ z) (Xj _ (pi ..)) q3 q5 q4 λi hL=>?_;obtain⟨k1,k2,⟨p,m,T,oT,ts,t1,⟨t2,t3⟩,t4,t5,t6,v,u,s,n⟩,k4⟩:=hL;have q:i.FunFrames (ŉ a e [] f.heap) a.stack:=g▸k2;have w:=Ge I H ⟨f1,R⟩ (λ_ z=>absurd z ∅) q t6 v u s;refine k i [] ⟨f1,R,p,m,a0,t1,t2,t4,t3,.inr ⟨T,oT,ts,t5,v,w.1,w.2,u,s,n⟩⟩ (vR I k1 k4) λb j=>?_;rcases j with rfl|j;·exact⟨f1,R,oe,r,q1,q3⟩
   ·cases j
 · have b3:f.heap.FunFrames (ŉ a e [T] f.heap) (a.env::a.outer):=g▸qh I;have ht:f.heap.TracedW (ŉ a e [T] f.heap) e oe.cls a0:=⟨oe,r,T,oT,ts,q1,⟨rfl,q4⟩,q3,r1,Xj _ ∅,r2,r5,r6,r7⟩;refine wpAny_leaving_nextW (base:=ŉ a e [T] f.heap) y b3 A ht (λb o z=>YA _ z) (Xj _ (pi ..)) λi hL=>?_;obtain⟨k1,k2,⟨p,m,T',b',a',t1,⟨t2,t3⟩,t4,t5,t6,v,u,s,n⟩,k4⟩:=hL;have q:i.FunFrames (ŉ a e [T] f.heap) a.stack:=g▸k2;have w:=Ge I H ⟨f1,R⟩ (λT0 z=>by simp at z;subst z;exact⟨r3,r4⟩) q t6 v u s;refine k i [T] ⟨f1,R,p,m,a0,t1,t2,t4,t3,.inr ⟨T',b',a',t5,v,w.1,w.2,u,s,n⟩⟩ (vR I k1 k4) λb j=>?_;rcases j with rfl|j;·exact⟨f1,R,oe,r,q1,q3⟩
   ·simp at j;subst j;exact⟨r3,r4,oT,ts,r5,r6⟩
def ņ(P:n_)(w:y_):ō:=λb H s E h d=>∃e f g,h=.ref e/\d.os=s.os/\aay d.gens/\Un (frs b) [] H g s.heap d.heap/\ĕ P w g d.heap/\KE (λa=>s.heap.get? a=U) g e f d.heap/\E f U g
def spE(K:d_)(F:ß)(n:Nat):Sp:=λb H Q E=>∃ds,S K H ds b/\ds.length=n/\match F ds with|some (.ok d)=>∀v a,Ù H a->Ü K a d v->Q v a|some (.exc c)=>∀C a,Wv K E_ (į c)=Z (Z (.ref C))->Ù H a->E (.ref C) U a|none=>False
def EX(X:C):XK:=λb _ d=>∃c a,b=.ref a/\Wv X.K E_ (į c)=Z (Z (.ref a))/\XW X c d
def xx(i:a.ex=[]):kz (ņ a.prog a.w) a (EX a):=by
 intro r k H s A m I⟨e,Q,u,y,os,g,un,h,F,c,f,j,hC,v⟩;have E:Õ a r k u m:=I.call' (ch:=[]) os un h g λb z=>absurd z ∅;refine v r k u m A (λ_ _ z=>z) E ⟨e,f,y,hC,j▸F.imp λd n=>⟨?_,λp w z=>?_⟩⟩;·cases q:a.s₀.heap.get? d with|none=>rfl|some o=>obtain⟨o',z⟩:=I.base.there d o q (by rw[i];simp);rw[n]at z;cases z
 ·have:=(I.pin p (P_ _ w)).1;rw[z,n]at this;cases this
def aC(F:ß)(n:Nat)(g:ë):Û:=λa=>Þ (g a) λds=>if ds.length=n then F ds else U
def QV(P:n_)(w:y_)(K:d_)(d:Str->B%1)(a:O_)(x:Str)(k:Nat)(b:Str%0)(F:ß):Prop:=∃f e,ö P w K d a (ņ P w) k f e b (spE K F b.length)/\d x=Z (.ref f)/\WG K (.ref f)=L/\õ K e b []
def DD(k:Nat)(p:Str%0)(F:ß)(h:QV a.prog a.w a.K a.mg a.base d k p F)(hr:å j a.A)(hk:k<=j)(y:a.ex=[])(hg:Gl a d)(ha:FA a (g::u) ο)(hn:b=p.length:=by lk)(z:(d==("__debug__":Str))=D:=by lk)(he:g%8:=by lk)(s:(V6 w (j_ u a.env)).any (·.1)=D:=by lk):FE a (.Call (.Name d o) (g::u) [] w) (aC F b ο):=by
 subst hn;obtain⟨f,fd,G,hm,v,hb⟩:=h;refine dI (mL (G.mono hk) hr hg hm v hb .nil (xx y) ha.h z he s) λσ H Q A E e=>⟨A,E,ï.bind e λds I H' g rs n=>?_⟩;show spE a.K F p.length (I++[]) H' Q (EX a);rw[Xe];by_cases q:ds.length=p.length
 ·rw[if_pos q]at n;refine⟨ds,rs,q,?_⟩;match r:F ds with|none=>rw[r]at n;exact n.elim|some (.ok m)=>rw[r]at n;exact n|some (.exc c)=>rw[r]at n;exactλi H1 hC e1=>⟨c,i,rfl,hC,XW.mono n e1⟩
 ·rw[if_neg q]at n;exact n.elim
def fX(m:Nat)(a:ä):ß:=λds=>match a (ds.map Z++u_ (m-ds.length) U)with|some (.nx _)=>.non%3|some (.rt d)=>d%3|some (.exc c)=>c%9|none=>U
def RT{m:Env%0}{E:XK}(k:∀C n,Wv q E_ (į b)=Z (Z (.ref C))->Ù h n->E (.ref C) U n):XW (oh (ņ s r) s r q Ζ Q H d ω e Α I m f h E) b h:=by intro f' σ n y ev e1 g⟨j,C,z,hC,F⟩;subst z;have F':KE (λa=>f.heap.get? a=U) n j (.ref C) y.heap:=F.imp λa A=>A.1;refine sx g rfl rfl rfl F' λh' Ts F2 A2 u=>?_;have w:=Õ.aft (ε:=[]) (g.pins_of (pins':=[]) λp o=>nomatch o) A2 rfl λi v=>⟨(u i v).1,(u i v).2.1,λp o=>absurd (show p∈([]:(O×Obj)%0)from o) ∅,(u i v).2.2⟩;exact⟨j,.ref C,n,rfl,g.os,g.bare,w.base,w.hok,F2,k C n hC e1⟩
def Gf(N w:Str%0)(y:ä)(hF:Ω=fX N.length y)(hn:j=w.length)(Fn:ł q d p Γ e Æ)(S:il N w (ao Γ))(hb:∀(o:B)(A:B_)(n:Env%0)(f:h_)(H:Hp)(E:XK),å b (A.deeper (Yi p (ao Γ) f.heap.objs.size e o))->Ħ (oh (ņ s r) s r q Ζ Q N p (ao Γ) e o A n f H E) (bQ Γ) y):ö s r q Ζ Q (ņ s r) (b+1) e Æ w (spE q Ω j):=by
 subst hF hn;obtain⟨oc,od,kV,c',pm,an,o,ct,b',rfl,lk,I⟩:=Fn.ex;refine Da lk I S (λvs H k E h=>?_) λA n f H vs k E hr h=>?_;·obtain⟨ds,g,hl,_⟩:=h;rw[g.length,hl]
 ·obtain⟨ds,g,hl,a⟩:=h;refine⟨_,(hb o A n f H E hr).h,ds.map Z++u_ (N.length-ds.length) U,lu g,?_⟩;unfold fX at a;match u:y (ds.map Z++u_ (N.length-ds.length) U)with|none=>rw[u]at a;exact a.elim|some (.exc c)=>rw[u]at a;exact RT a|some (.rt m)=>rw[u]at a;exactλv z i r'=>a v z i r'|some (.nx ρ)=>rw[u]at a;exactλa' z i _=>a .non z i rfl
def qi(g:ĕ s r h Q){a:O}{u:HO}(q:h a=Z u):∃o,Q.get? a=Z o:=by have b:=g a u q;clear q;induction u with|lst e=>obtain⟨_,_,_,_,z⟩:=b;exact⟨_,z⟩|tup e=>obtain⟨_,_,_,o,z,_⟩:=b;exact⟨_,z⟩|dK d=>obtain⟨_,_,_,_,o,_,_,z,_⟩:=b;exact⟨_,z⟩|dT d=>obtain⟨_,_,_,_,o,_,_,z,_⟩:=b;exact⟨_,z⟩|set S n=>obtain⟨o,_,_,_,z,_⟩:=b;exact⟨_,z⟩|ins C v fs=>obtain⟨_,_,_,z,_⟩:=b;exact⟨_,z⟩|own y=>obtain⟨_,z⟩:=b;exact⟨_,z⟩|xd fs=>obtain⟨_,⟨_,_,_,z,_⟩,_⟩:=b;exact⟨_,z⟩|rng lo p=>obtain⟨_,_,_,z⟩:=b;exact⟨_,z⟩|frz k u m=>obtain⟨z,_⟩:=b;exact⟨_,z⟩|tbl j=>obtain⟨_,z,_⟩:=b;exact⟨_,z⟩|met f y=>exact⟨_,(show Q.get? a=Z _ from b)⟩|ext i=>obtain⟨_,⟨_,z⟩,_⟩:=b;exact⟨_,z⟩
def zJ(b:ĕ s r h Q){a:O}(n:Q.get? a=U):h a=U:=by cases q:h a with|none=>rfl|some u=>obtain⟨o,z⟩:=qi b q;rw[n]at z;cases z
def zK{b:String}(X:q.In Q)(u:Ζ d=Z (.ref e))(a:acy q e ξ b=L):OwnCls d e ξ b Ζ Q:=by
 constructor;·exact u
 unfold acy at a;split at a
 · rename_i dd cd s look;split at a;·rename_i C2 rest n m k j g i o H;simp![m_,beq_iff_eq,ac8]at a;have e1:=a.1.1.1.1.1;have e2:=a.1.1.1.1.2;have r:=a.1.1.1.2;have e4:=a.1.1.2;have f:=a.1.2;have p:=a.2;clear a;subst e1 e2;obtain⟨f1,R,f3,E,A,z,y,w,v,h,a'⟩:=cd;dsimp only at o r f p;subst o r;obtain⟨l⟩:=s;have I:l=[n,m,k,j,Z (.builtin g),i]:=H;subst I;refine⟨rest,E,f1,A,R,z,y,w,v,h,dd,n,m,k,j,i,_,X _ _ look,.of_isNs (PySem.W.isNs_of_in X f),?_,PySem.W.tail_of_in X e4⟩;exact PySem.W.nsMap_none_of_in X f p
   ·cases a
 ·cases a
abbrev Ů:B%0:=[.type "ValueError",.type "Exception",.type "BaseException",.type "object"]
structure XC(K:d_)(c:Nat)(C:O):Prop where nm:Wv K E_ (į c)=Z (Z (.ref C))ex:acy K C Ů "ValueError.__new__"=L
def eW(c:Nat)(f:Û):ä:=λa=>cV (f a) λ_=>c%9
def DE(c:Nat)(K:XC a.K c e)(hx:į c=d)(hm:a.mg d=Z (.ref e))(b':a.ex=[])(hc:a.calm=L)(hg:Gl a d)(ha:FE a g A)(he:j_ [g] a.env=(D,eval g a.env)::j_ [] a.env:=by lk)(c':(d==("__debug__":Str))=D:=by lk):FS a (.Raise (Z (.Call (.Name d o) [g] [] w)) U Ο) (eW c A):=by
 subst hx;constructor;intro f' s u H i I⟨v,E,b⟩;obtain⟨tl,N,nm,q,bs,m,sn,sub,ab,d',dd,k0,k1,k2,k3,k5,mN,hC,hN,a',T⟩:=(zK I.ok.mod.kin hm K.ex).obj;refine wpAny_Raise_call_subT (C:=e) (nm:=nm) (q:=q) (N:=N) (bs:=bs) (bm:=tl) (hdct:=m) (sn:=sn) (sub:=sub) (ab:=ab) (col:=d') (dd:=dd) (k0:=k0) (k1:=k1) (k2:=k2) (k3:=k3) (k5:=k5) YV (mN:=mN) (T.hasType YV.hasBase) (I.ok.hd hc) (by rw[he];rfl) a' (j9 I hg hm ⟨rfl,?_⟩ c');have n:=(uF ha zm he).h w f' s u H (λy k=>y.length=1/\XW a c k) I ⟨v,E,?_⟩
 · rw[he]at n⊢;refine aab (ê n λus s2⟨y,k,j,rv,hl,hw⟩=>⟨rfl,?_,j.bk _ _ hC,hN.keeps j.bk,T.keeps j.bk,λh' f me=>?_⟩);·rw[<-rv.length,hl];decide
   · have I2:Õ a f' u k {s2 with heap:=h'}:=j.kept (t':=s2.toks) me.keeps;obtain⟨t,t1,t2,t3⟩:=me.there;refine hw f' u k _ (.ref f) (λ_ _ z=>z) I2 ⟨f,e,rfl,K.nm,zJ j.hok me.new,⟨?_,λp n z=>?_⟩,_,_,.ref t,t1,rfl,rfl,rfl,.inl rfl⟩;·cases z:a.s₀.heap.get? f with|none=>rfl|some o2=>obtain⟨o3,z3⟩:=j.base.there f o2 z (by rw[b'];simp);rw[me.new]at z3;cases z3
     ·have z2:=(j.pin p (P_ _ n)).1;rw[z,me.new]at z2;cases z2
 ·show ï a H (aO A dP v) _;unfold aO;unfold eW at b;match Q:A v with|none=>rw[Q]at b;exact b.elim|some (.exc c2)=>rw[Q]at b;exact b|some (.ok h)=>rw[Q]at b;exactλy k e1 r=>⟨r.length,XW.mono b e1⟩
open PySem.W Builtin.Getset_descriptor
def zL:plainId "BaseException.__getattribute__"=L:=by decide+kernel
def vS:builtinKind "BaseException.__getattribute__"=Z .slot:=by decide+kernel
def zM:splitId "BaseException.__getattribute__"=Z ("BaseException","__getattribute__"):=by decide+kernel
def DF(a:B):bindSpecial (.builtin "BaseException.__getattribute__") a=pure (.builtin "BaseException.__getattribute__",[a]):=by
 have d:withoutEnding? "BaseException.__getattribute__" "#opaque"=U:=by decide+kernel
 have b:withoutEnding? "BaseException.__getattribute__" "#data"=U:=by decide+kernel
 simp![bindSpecial,acC,builtinType,d,b,vS];rfl
structure XI(K:d_)(C:O):Prop where
 ga:findIn K (.ref C) "__getattribute__"=Z (Z (.builtin "BaseException.__getattribute__"))gt:findIn K (.ref C) "__getattr__"=Z U
 cl:findIn K (.ref C) "__class__"=Z (Z (.builtin "object.__class__"))sp:specialIn K (.builtin "object.__class__") "__get__"=Z (Z (.builtin "getset_descriptor.__get__"))tk:takesIn K (.builtin "object.__class__")=Z L
 ob:mroIn K C (.type "object")=Z L
 be:mroIn K C (.type "BaseException")=Z L
def Na(a:f.heap.get? e=Z Å)(b:Å.cls=.ref z){M:Yr}:Looks M f.heap (acC (.ref e)) (.ref z):=b▸(Looks.ld a).andThen .now
def DG(X:q.In f.heap)(k:XI q z){M:Yr}:Looks M f.heap (abr (.ref e) (.ref z) "__class__") (.bind (.builtin "getset_descriptor.__get__") (.builtin "object.__class__")):=by have j:=looks_findIn (M:=M) X k.cl;have L2:=looks_specialIn (M:=M) X k.sp;have i:=looks_takesIn (M:=M) X k.tk;intro g m d a b h;unfold abr;refine e_ (j g _ d a b (e_ (L2 g _ d a b (e_ ?_))));unfold acJ;refine e_ (i g _ d a b ?_);rw[if_pos rfl];exact k_ (e_ (YT (k_ h)))
def Nb{R:aca->h_->Prop}(X:q.In f.heap)(j:f.heap.get? e=Z Å)(m:Å.cls=.ref z)(k:mroIn q z (.type "object")=Z L)(h:R (.ok (.ret (.ref z))) f):Yl (D_ s r) I (.call (.builtin "getset_descriptor.__get__") ⟨[.builtin "object.__class__",.ref e,Α],[]⟩) R f:=by
 have u:=Na (M:=D_ s r) j m;have p:=looks_mroIn (M:=D_ s r) X k;obtain⟨n,g,o,t,os⟩:=f;refine Z9 KF.slot_gs.plain KF.entry_gs (KF.slot_gs.check _ _ _ _ _ _ _ _ KF.type_class (KF.args_gs _ _ _) ?_);unfold XV.«getset_descriptor.__get__» descrGet;rw[dga_obj];refine e_ (k_ ?_);unfold descrGetter descrCheckInstance descrNameAndClass isInstance;simp![KF.owner_class];repeat lk
 refine⟨acI _ (by decide+kernel),Ze KF.entry_class ?_⟩;unfold XV.«object.__class__»shownTypeOf;repeat lk
 exact h
def zN{Q:B%1->h_->Prop}(X:q.In f.heap)(b:f.heap.get? e=Z Å)(j:Å.cls=.ref z)(k:XI q z)(h:Q (Z (.ref z)) {f with toks:=f.toks+1}):w_ (D_ s r) I (getAttr? (.ref e) "__class__") Q χ f:=by
 have n:=Na (M:=D_ s r) b j;have L2:=DG (M:=D_ s r) (e:=e) X k;obtain⟨i,g,d,t,os⟩:=f;have w:=looks_findIn (M:=D_ s r) X k.ga;have v:=looks_findIn (M:=D_ s r) X k.gt;have u:=looks_mroIn (M:=D_ s r) X k.be;unfold getAttr? getAttrBy? getAttrBy;refine e_ (wpAny_mkText (e_ (Yb (WN (e_ (n.at (e_ (w.at ?_))))))));have m:(W5 "BaseException.__getattribute__"==W5 "object.__getattribute__")=D:=by decide+kernel
 dsimp!;rw[m,aci,if_neg q_];unfold getAttrByItsOwn;refine e_ ?_;show w_ _ _ (typeLookup (.ref z) "__getattr__") _ _ _;refine v.at ?_;refine e_ (Yb (WN ?_));unfold callGetattribute boundAndCalled;rw[if_neg #v[]];rw[DF];refine e_ (k_ ?_);refine ZY (Z9 zL F.entry_bexc_ga ?_);simp![checkBuiltinCall,vS,zM];have y:=F.args_bexc_ga (.ref e) (.str "__class__" t);have p:Looks (D_ s r) i (isInstance (.ref e) (.type "BaseException")) L:=n.andThen u;show w_ _ _ (isInstance (.ref e) (.type "BaseException")>>=_) _ _ _;refine e_ (p.at ?_);simp![YM,x_,if_false];have o:i.get? e=Z Å/\True:=⟨b,trivial⟩;clear b;repeat(any_goals(first|assumption|wp_step))
 have a:=o.1;refine aaY a ?_;refine k_ ?_;rw[j];refine e_ (L2.at ?_);dsimp!;unfold ad2;dsimp!;refine e_ (WN (ZY (Nb (f:=⟨i,g,d,t+1,os⟩) (Å:=Å) X a j k.ob ?_)));refine k_ ?_;show w_ _ _ (handedOut (.ref z)) _ _ _;rw[handedOut_of rfl];exact k_ (k_ h)
def vT(h:mroIn q e Α=Z δ):∃b,clsIn q e=Z b:=by unfold mroIn at h;cases a:clsIn q e with|none=>rw[a]at h;cases h|some b=>exact⟨b,rfl⟩
def DH(k:XI q z)(f:Å.cls=.ref z):KitX q (.ref e) (.ref z) (λh=>h.get? e=Z Å)where
 ty:=λM h _ b=>f▸(Looks.ld b).andThen .now;it:=λ_ _ X _=>by
  obtain⟨o,f⟩:=vT k.ob;unfold clsIn at f;split at f;·rename_i look;intro y v w s m j;unfold isType loadHead;exact e_ (wpAny_loadPart (m _ _ (X _ _ look)) (k_ j))
  ·cases f
 ne:=λh i u p n r X g=>by obtain⟨o,f⟩:=vT k.ob;cases a:(C_ z==C_ i)with|false=>rfl|true=>
  have d:=Value.ref.inj (beq_iff_eq.mp a);subst d;unfold clsIn at f;split at f;·rename_i look;cases(X _ _ look).symm.trans g
  ·cases f
 ca:=λX b a=>zN X b f k a
def L'(a:Nat->Bool%1):N->Rs N%1
 |.exn c=>match a c with|some b=>.bl b%3|none=>U
 |_=>U
def XT(K:d_)(a:Nat->Bool%1)(T:B):Prop:=∀c b,a c=Z b->∀C,nsIn K E_ (į c)=Z (Z (.ref C))->XI K C/\kitOne K (.ref C) T=Z b
def vU(w:∀u,â ψ u->u=Α){g:Nat->Bool%1}(k:XT a.K g Α):l4 a (.builtin "isinstance") (λf H Q=>∃v c b,f=[v,ψ]/\Ü a.K H (.exn c) v/\g c=Z b/\Q (.bl b) H):=by intro f' s σ H f us Q I r h;obtain⟨v,c,b,rfl,p,hb,q⟩:=h;obtain⟨d,o,u,e,rfl,hH,hc,hn⟩:=p.exnE;obtain⟨m,j,rfl,A,y⟩:=CW r;cases(show m=C_ d from A);cases(w j y);obtain⟨i,E⟩:=k c b hb e hn;have hg:s.heap.get? d=Z o:=(I.hok d _ hH).1;exact kia_one (DH i hc) I.kIn hg E (by intro z;cases z) λn=>⟨.bl b,H,I.tok n,rfl,q⟩
def Nc{j:Nat->Bool%1}(k:XT a.K j (.ref e))(hT:a.mg d=Z (.ref e))(y:Gl a d)(I:(d==("__debug__":Str))=D)(hg:Gl a "isinstance")(hm:a.mg "isinstance"=U)(ha:FE a g A)(i:j_ [g,.Name d Ο] a.env=(D,eval g a.env)::j_ [.Name d Ο] a.env:=by lk)(p:j_ [.Name d Ο] a.env=(D,eval (.Name d Ο) a.env)::j_ [] a.env:=by lk)(s:(V6 w (j_ [.Name d Ο] a.env)).any (·.1)=D:=by lk):FE a (.Call (.Name "isinstance" o) [g,.Name d Ο] [] w) (f1 (L' j) A):=dI (gU (vU (ψ:=.ref e) (λu z=>z) k) hg hm YH (ij ha.h (ij (uv (ψ:=.ref e) y hT rfl I) oN p) i) #v[] #v[] i s) λσ H Q ρ E f=>⟨ρ,E,ð.bind f λh v n e1 r o1=>by show∃v2 c b,[v,V.ref e]=[v2,V.ref e]/\_;cases h with
 |exn c=>have m:ð a n (match j c with|some b=>.bl b%3|none=>U) Q:=o1;cases q:j c with|none=>rw[q]at m;exact m.elim|some b=>rw[q]at m;exact⟨v,c,b,rfl,r,q,m _ n (.refl n) rfl⟩
 |_=>exact o1.elim⟩
def Nd{T:String}{h:Nat->Bool%1}(k:XT a.K h (.type T))(hT:W0 (b_ T)=Z (.type T))(hn:b_ T≠"__name__")(y:(b_ T==("__debug__":Str))=D)(hg:Gl a "isinstance")(hm:a.mg "isinstance"=U)(s:Gl a (b_ T))(p:a.mg (b_ T)=U)(ha:FE a g A)(f:j_ [g,.Name (b_ T) Ο] a.env=(D,eval g a.env)::j_ [.Name (b_ T) Ο] a.env:=by lk)(m:j_ [.Name (b_ T) Ο] a.env=(D,eval (.Name (b_ T) Ο) a.env)::j_ [] a.env:=by lk)(n:(V6 w (j_ [.Name (b_ T) Ο] a.env)).any (·.1)=D:=by lk):FE a (.Call (.Name "isinstance" o) [g,.Name (b_ T) Ο] [] w) (f1 (L' h) A):=dI (gU (vU (ψ:=.ty T) (λu z=>z) k) hg hm YH (ij ha.h (ij (yH (ψ:=.ty T) s p hT rfl hn y) oN m) f) #v[] #v[] f n) λσ H Q ρ E e=>⟨ρ,E,ð.bind e λd v j e1 r I=>by show∃v2 c b,[v,V.ty T]=[v2,V.ty T]/\_;cases d with
 |exn c=>have i:ð a j (match h c with|some b=>.bl b%3|none=>U) Q:=I;cases q:h c with|none=>rw[q]at i;exact i.elim|some b=>rw[q]at i;exact⟨v,c,b,rfl,r,q,i _ j (.refl j) rfl⟩
 |_=>exact I.elim⟩
def zO{Q:Unit->h_->Prop}(g:Õ a ε Ι h f)(hN:a.N.Nodup)(hi:a.N[b]?=Z d)(hk:a.env.scope.names.lookup d=Z .local)(hv:Ι[b]?=Z (Z ψ))(s:∀s',Õ a ε (Ι.set b U) h s'->Q Unit.unit s'):w_ Ë I (unbindBehindTheSuite a.env d o) Q χ f:=by
 obtain⟨m,hn,hl⟩:=id g.loc;have a':a.env.kindOf d=Z .local:=hk;obtain⟨u,ru,lk⟩:=hl b d ψ hi hv (.inl hk);have hm:m d=Z u:=by
  rcases lk with⟨_,z⟩|⟨z,_⟩;·exact z
  ·rw[a']at z;rcases z with z|z<;>cases z
 have b':(a.env.scope.kind==.class||(a.env.scope.kind==.module&&a.env.locals !=a.env.globals))=D:=by rw[g.ok.kind];rfl
 have cne:=g.cne;obtain⟨oL,_,_,e',_⟩:=id hn;refine aa8 (wpAny_unbindName_local a' hn hm b' λh' w c' A=>?_);refine s _ ⟨g.ok,g.os,g.bare,⟨λi r e n hb hx=>?_,λi r e n hb hx=>?_,g.base.free,λi r e hx=>?_,g.base.tups,g.base.frzs,g.base.tbls⟩,⟨_,c',λj y v' H e2 e3=>?_⟩,λy c e=>?_,g.free,g.freeC,λp hp=>?_,λi ob e=>?_,by simpa using g.len⟩;·exact(A.2 i (V7 (R_ (z_ e) g.ok.above))).trans (g.base.keep i r e n hb hx)
 ·obtain⟨sl,H⟩:=g.base.slot i r e n hb hx;exact⟨sl,(A.2 i (V7 (R_ (z_ e) g.ok.above))).trans H⟩
 ·obtain⟨o',H⟩:=g.base.there i r e hx;exact⟨o',(A.2 i (V7 (R_ (z_ e) g.ok.above))).trans H⟩
 · by_cases hj:j=b
   · subst hj;have d':j<Ι.length:=by rw[g.len];exact(F_.mp hi).1
     rw[A_ d']at e2;cases e2
   · rw[p_ (WO hj)]at e2;obtain⟨u',r',q⟩:=hl j y v' H e2 e3;refine⟨u',r',?_⟩;rcases q with⟨k,e⟩|⟨k,c,e,z⟩;·refine .inl ⟨k,?_⟩;have:y≠d:=λe=>hj (pP hN H (e▸hi));simp[this,e]
     ·exact .inr ⟨k,c,e,z.sameBut A (cne y c e)⟩
 ·obtain⟨w',z⟩:=g.cell y c e;exact⟨w',z.sameBut A (cne y c e)⟩
 ·obtain⟨e,n,ne,nf,v⟩:=g.pin p hp;exact⟨(A.2 p.1 ne).trans e,n,ne,nf,v⟩
 · refine(g.hok i ob e).stay (λc w' E q=>(A.2 c ?_).trans q) (λ_ q=>q) λ_ _ q=>q;rintro rfl;rcases E with E|E;·rw[<-E,g.free]at e;cases e
   ·rw[g.free]at E;cases E
def Õ.freeze{A:Array B}(I:Õ a ε Ι h f)(he:h e=U)(s:f.heap.get? e=Z Å)(y:Å.data=.fields A)(h0:a.s₀.heap.get? e=U)(hp:∀p∈a.pn++ε,p.1≠e):Õ a ε Ι (æ h e (.frz Å (.ext λ_=>True))) f:=by
 have ne:∀b u,h b=Z u->b≠e:=λb u q=>aF q he;refine⟨I.ok,I.os,I.bare,⟨I.base.keep,I.base.slot,λb o q n hx=>?_,I.base.there,λb w q=>?_,λb o u q=>?_,λb ps q=>?_⟩,I.loc,I.cell,?_,λx c q=>?_,λp k=>?_,λb u q=>?_,I.len⟩
 · have i:b≠e:=λz=>by rw[z,h0]at q;cases q
   rw[ay i];exact I.base.free b o q n hx
 ·have g:=I.base.tups b w q;rw[ay (ne b _ g)];exact g
 ·have g:=I.base.frzs b o u q;rw[ay (ne b _ g)];exact g
 ·obtain⟨r,g⟩:=I.base.tbls b ps q;exact⟨r,by rw[ay (ne b _ g)];exact g⟩
 · obtain⟨m,⟨o,es,ep,j,d,_⟩,_⟩:=I.loc;have i:a.env.locals≠e:=λz=>by rw[z,s]at j;cases j;rw[y]at d;cases d
   rw[ay i];exact I.free
 · obtain⟨v,o,j,d⟩:=I.cell x c q;have i:c≠e:=λz=>by rw[z,s]at j;cases j;rw[y]at d;cases d
   rw[ay i];exact I.freeC x c q
 ·obtain⟨Q,H,E⟩:=I.pin p k;exact⟨Q,by rw[ay (hp p k)];exact H,E⟩
 · by_cases i:b=e;·subst i;rw[az]at q;cases q;exact⟨s,trivial,⟨Å,s⟩,λ_ _ _ _=>trivial⟩
   ·rw[ay i]at q;exact(I.hok b u q).stay (λ_ _ _ z=>z) (λc z=>by rw[ay (ne c _ z)];exact z) (λc w z=>by rw[ay (ne c _ z)];exact z) λc _ _ z=>by rw[ay (ne c _ z)];exact z
structure Ă(k:Nat)(A:B_):Prop where
 dp:A.depth+3*k+5<recursionLimit
 un:A.units+16*k+200<cLine
def Ă.of(r:å b I):Ă b I:=⟨r.dp,r.un⟩
def Ă.mono(r:Ă j I)(h:b<=j):Ă b I:=⟨by have:=r.dp;omega,by have:=r.un;omega⟩
def Ă.deeper(r:Ă (b+1) I)(a:Env):Ă b (I.deeper a):=⟨by have:=r.dp;show I.depth+1+3*b+5<_;omega,by have:=r.un;show I.units+3+16*b+200<_;omega⟩
def Ă.units(r:Ă b I):I.units+64<cLine:=by have:=r.un;omega
structure FnM(P:n_)(w:y_)(K:d_)(mg:Str->B%1)(base:O_)(k:Nat)(f:O)(fd:WE)(ps:Str%0)(F:ß):Prop where run:∀(A:B_)(outer:Env%0)(s:h_)(H:Hp)(args:Args)(us:B%0)(vs:V%0)(ds:N%0)(d:N)(Q:VK),Ă k A->Ń P w K mg base A outer s H->abH s fd args (ps.zip us)->Ú vs us->S K H ds vs->ds.length=ps.length->F ds=d%3->(∀v H',Ù H H'->Ü K H' d v->Q v H')->Yl (D_ P w) A (.call (.ref f) args) (CR Ĳ outer P w H s Q E0) s
def QW(P:n_)(w:y_)(K:d_)(d:Str->B%1)(a:O_)(x:Str)(k:Nat)(b:Str%0)(F:ß):Prop:=∃f e,FnM P w K d a k f e b F/\d x=Z (.ref f)/\WG K (.ref f)=L/\õ K e b []
def DI(k:Nat)(p:Str%0)(F:ß)(h:QW a.prog a.w a.K a.mg a.base d k p F)(hr:Ă j a.A)(hk:k<=j)(hg:Gl a d)(ha:FA a (g::u) ο)(hn:b=p.length:=by lk)(d':(d==("__debug__":Str))=D:=by lk)(he:g%8:=by lk)(b':(V6 w (j_ u a.env)).any (·.1)=D:=by lk):FE a (.Call (.Name d o) (g::u) [] w) (ag F b ο):=by
 subst hn;obtain⟨f,fd,G,hm,c',hb⟩:=h;constructor;intro f' s σ H Q I⟨ρ,E,i⟩;have hp:w_ (D_ a.prog a.w) a.A (spliced (V6 w (j_ (g::u) a.env))) (AP a f' σ λvs H1=>∃ds,S a.K H1 ds vs/\ds.length=p.length/\∃e,F ds=e%3/\∀v H',Ù H1 H'->Ü a.K H' e v->Q v H') a.xe s:=by
  refine ha.h w f' s σ H _ I ⟨ρ,E,ï.bind i λds vs H' g rs n=>?_⟩;by_cases y:ds.length=p.length
  ·rw[if_pos y]at n;refine⟨ds,rs,y,?_⟩;match hF:F ds with|none=>rw[hF]at n;exact n.elim|some (.exc c)=>rw[hF]at n;exact n.elim|some (.ok e)=>rw[hF]at n;exact⟨e,rfl,n⟩
  ·rw[if_neg y]at n;exact n.elim
 refine Xg (j9 I hg hm ?_ d');refine Zk (h₀:=a.base) I.ok.mod.kin c' (ê hp λus s1⟨vs,H1,I1,r,ds,rs,y,e,hF,q⟩=>⟨I1.kIn,?_⟩) he b';have a':us.length=p.length:=by rw[<-r.length,rs.length,y]
 have e':abH s1 fd ⟨us,[]⟩ (p.zip us):=by have z:=hb s1 us I1.kIn (by rw[Xe];exact a');rw[Xe]at z;exact z
 refine ZY (Yz (G.run a.A a.stack s1 H1 ⟨us,[]⟩ us vs ds e Q (hr.mono hk) I1.env0 e' r rs y hF q) λr s' A=>?_);cases r with|error g=>exact A.elim|ok fl=>cases fl with|ret m=>exact I1.after A|next=>exact Wg A|brk=>exact Wg A|cont=>exact Wg A
def cxM(P:n_)(w:y_)(K:d_)(g:Str->B%1)(e:O_)(N:Str%0)(d:Str)(a:Xk)(f:O)(h:B)(A:B_)(b:Env%0)(s:h_)(H:Hp):C:={oh Ĳ P w K g e N d a f h A b s H E0 with calm:=D,xe:=λ_ _=>False}
def Nf(N ps:Str%0)(fb:ä)(hF:Ω=bM N.length fb)(Fn:ł q d p Γ e Æ)(S:il N ps (ao Γ))(hb:∀(E:B)(A:B_)(m:Env%0)(a:h_)(H:Hp),Ă b (A.deeper (Yi p (ao Γ) a.heap.objs.size e E))->Ħ (cxM s r q Ζ Q N p (ao Γ) e E A m a H) (bQ Γ) fb):FnM s r q Ζ Q (b+1) e Æ ps Ω:=by
 subst hF;obtain⟨oc,od,kV,n',pm,an,E,ct,l',rfl,lk,h'⟩:=Fn.ex;refine⟨λA m a H k' us vs ds k h hr e0 i' j rs hl hF g=>?_⟩;have f':vs.length=ps.length:=by rw[rs.length,hl]
 have KX:q.In a.heap:=e0.mod.kin.keeps λi o f=>(e0.bs i o f).1;have e':a.heap.NoLimit:=e0.mod.nolimit.keeps λi o f=>(e0.bs i o f).1;have b':∀y∈ps.zip us,(ao Γ).names.lookup y.1=Z .local\/((ao Γ).names.lookup y.1=Z .cell/\((WF (a.heap.objs.size+1) (ao Γ).names []).lookup y.1).isSome=L):=λ⟨n,v⟩hy=>by
  rcases S.par n (aam hy).1 with z|z;·exact .inl z
  ·exact .inr ⟨z,ZC _ _ _ (.inl z)⟩
 have g':A.depth<recursionLimit:=by have:=hr.dp;omega
 refine abZ g' (KX _ _ lk) rfl S.co S.gen rfl (acE KX h') (i' _ _ _ _ ?_);refine aaC S.kind b' λm' he s1 d=>?_;subst he;refine⟨e'.keeps d.toInCall.keep,codeAny_func ?_⟩;have e1:Ń s r q Ζ Q {A with handled:=U} m a H:=⟨e0.frames,e0.mod,e0.bs,e0.bsz,e0.funs,e0.frf,e0.hok,e0.bare⟩;have w:Õ (oh Ĳ s r q Ζ Q N p (ao Γ) e E {A with handled:=U} m a H E0) [] (start N vs) H s1:=rW S rfl e1 f' j d;have I:Õ (cxM s r q Ζ Q N p (ao Γ) e E A m a H) [] (start N vs) H s1:=⟨⟨w.ok.mod,w.ok.kind,w.ok.glob,w.ok.blt,w.ok.above,w.ok.inj,w.ok.has,w.ok.cab,(λz=>absurd z q_),acf e0.frames,w.ok.stk,w.ok.exf,w.ok.bs,w.ok.bsz,w.ok.noex,w.ok.exfs,w.ok.funs,w.ok.frf⟩,w.os,w.bare,w.base,w.loc,w.cell,w.free,w.freeC,w.pin,w.hok,w.len⟩;have c':∀{s':h_}{a':L2.St}{H':Hp}{v:V}{u:B},Õ (cxM s r q Ζ Q N p (ao Γ) e E A m a H) [] a' H' s'->â v u->h v H'->CE m s r H a h u s':=λ{s' a' H' v u}J rv g=>⟨v,H',J.os,J.bare,J.base,J.hok,rv,g⟩;have hq:þ (cxM s r q Ζ Q N p (ao Γ) e E A m a H) H (fb (ds.map Z++u_ (N.length-ds.length) U)) {nx:=λ_ H'=>h .non H',rt:=h}:=by unfold bM at hF;match hf:fb (ds.map Z++u_ (N.length-ds.length) U)with|none=>rw[hf]at hF;cases hF|some (.exc c)=>rw[hf]at hF;cases hF|some (.rt d')=>rw[hf]at hF;cases hF;exact g|some (.nx ρ)=>rw[hf]at hF;cases hF;exactλa' H' f _=>g .non H' f rfl
 refine Wr ((hb E A m a H (hr.deeper _)).h [] s1 (start N vs) H _ I ⟨_,lu rs,hq⟩) (λfl s' hs=>?_) λf s' hs=>hs.elim;cases fl with|ret u=>obtain⟨v,a',H',J,rv,z⟩:=hs;exact c' J rv z|next=>obtain⟨a',H',J,z⟩:=hs;exact c' (v:=V.non) (u:=J_) J rfl z|brk=>obtain⟨_,_,_,z⟩:=hs;exact Wg z|cont=>obtain⟨_,_,_,z⟩:=hs;exact Wg z
abbrev Lh(X:C)(a:(O×Obj)%0)(E:B->h_->Prop):C:={X with pn:=X.pn++a,xe:=E}
abbrev sy(X:C)(a:(O×Obj)%0)(e:O):C:={X with A:=X.A.mark (Z (.ref e)),calm:=D,pn:=X.pn++a,xe:=λ_ _=>False}
def Ic(I:Õ a ε Ι h f):Õ (Lh a ε χ) [] Ι h f:=⟨⟨I.ok.mod,I.ok.kind,I.ok.glob,I.ok.blt,I.ok.above,I.ok.inj,I.ok.has,I.ok.cab,I.ok.hd,I.ok.frames,I.ok.stk,I.ok.exf,I.ok.bs,I.ok.bsz,I.ok.noex,I.ok.exfs,I.ok.funs,I.ok.frf⟩,I.os,I.bare,I.base,I.loc,I.cell,I.free,I.freeC,λp b=>I.pin p (by simpa using b),I.hok,I.len⟩
def mU{b:(O×Obj)%0}(I:Õ (Lh a ε χ) b Ι h f):Õ a ε Ι h f:=⟨⟨I.ok.mod,I.ok.kind,I.ok.glob,I.ok.blt,I.ok.above,I.ok.inj,I.ok.has,I.ok.cab,I.ok.hd,I.ok.frames,I.ok.stk,I.ok.exf,I.ok.bs,I.ok.bsz,I.ok.noex,I.ok.exfs,I.ok.funs,I.ok.frf⟩,I.os,I.bare,I.base,I.loc,I.cell,I.free,I.freeC,λp d=>I.pin p (P_ _ d),I.hok,I.len⟩
def vV(I:Õ a ε Ι h f):Õ (sy a ε e) [] Ι h f:=⟨⟨I.ok.mod,I.ok.kind,I.ok.glob,I.ok.blt,I.ok.above,I.ok.inj,I.ok.has,I.ok.cab,λz=>absurd z q_,I.ok.frames,I.ok.stk,I.ok.exf,I.ok.bs,I.ok.bsz,I.ok.noex,I.ok.exfs,I.ok.funs,I.ok.frf⟩,I.os,I.bare,I.base,I.loc,I.cell,I.free,I.freeC,λp b=>I.pin p (by simpa using b),I.hok,I.len⟩
def xz{b:(O×Obj)%0}(d:a.Ok)(I:Õ (sy a ε e) b Ι h f):Õ a ε Ι h f:=⟨d,I.os,I.bare,I.base,I.loc,I.cell,I.free,I.freeC,λp g=>I.pin p (P_ _ g),I.hok,I.len⟩
def DJ(I:Õ a ε Ι h f)(a':a.ex=[])(i:a.stack=a.env::a.outer)(n:a.env.frame=Z a.env.locals){y:B}(F:KE (Ry a) h e y f.heap){Q:Unit->h_->Prop}{E1 E2:B->h_->Prop}(k:∀g E p,(ŉ a e E f.heap).StaysIn g->g.FunFrames (ŉ a e E f.heap) a.stack->g.TracedW (ŉ a e E f.heap) e y p->(∀b o,f.heap.get? b=Z o->(∀m,o.data≠.fields m)->∃r,g.get? b=Z {o with slots:=r})->(∀b,b=e\/b∈E->h b=U/\Ry a b/\∃o m,f.heap.get? b=Z o/\o.data=.fields m)->Q Unit.unit {f with heap:=g}):w_ (D_ a.prog a.w) a.A (ada (.ref e) a.env) (λ_ s2=>w_ (D_ a.prog a.w) a.A (setFlight (.ref e) U) Q E1 s2) E2 f:=by
 obtain⟨f1,R,v,m,p,u,q2,s,q4,A⟩:=F;have w:a.A.frames=Z (a.env::a.outer):=i▸I.ok.frames;subst q2;rcases A with A|⟨T,oT,ts,r1,r2,r3,r4,r5,r6,r7⟩
 · have b3:f.heap.FunFrames (ŉ a e [] f.heap) (a.env::a.outer):=i▸qh I;have go:∀g,Heap.NotedW (ŉ a e [] f.heap) (a.env::a.outer) e v.cls p (ż a.env.locals) f.heap g->w_ (D_ a.prog a.w) a.A (setFlight (.ref e) U) Q E1 {f with heap:=g}:=λg⟨k1,k2,k3,k4⟩=>ZW (s:={f with heap:=g}) k1 k2 k3 λh2 m1 m2 m3 m4=>k h2 [] p m1 (i▸m2) m3 (λb o q d=>by obtain⟨r,H⟩:=k4 b o q d;exact⟨r,m4 b _ H d⟩) λb j=>by
    rcases j with rfl|j;·exact⟨f1,R,v,m,u,s⟩
    ·cases j
   unfold ada;simp![n];refine e_ (WV u s A ?_);rw[if_neg #v[]];exact wpAny_entryW w b3 n u (λb o z=>YA _ z) (Xj _ (pi ..)) s (Xm.mp A).1 q4 go
 ·have b3:f.heap.FunFrames (ŉ a e [T] f.heap) (a.env::a.outer):=i▸qh I;have ht:f.heap.TracedW (ŉ a e [T] f.heap) e v.cls p:=⟨v,m,T,oT,ts,u,⟨rfl,q4⟩,s,r1,Xj _ ∅,r2,r5,r6,r7⟩;refine wpAny_noteFrame_onW w b3 n ht (λb o z=>YA _ z) (Xj _ (pi ..)) λg⟨k1,k2,k3,k4⟩=>?_;refine ZW (s:={f with heap:=g}) k1 k2 k3 λh2 m1 m2 m3 m4=>k h2 [T] p m1 (i▸m2) m3 (λb o q d=>by obtain⟨r,H⟩:=k4 b o q d;exact⟨r,m4 b _ H d⟩) λb j=>by
    rcases j with rfl|j;·exact⟨f1,R,v,m,u,s⟩
    ·simp at j;subst j;exact⟨r3,r4,oT,ts,r5,r6⟩
def zP{u:Str->B%1}{J:O}{Q:Bool->h_->Prop}(X:q.In f.heap)(n:OwnCls d z Ů "ValueError.__new__" Ζ f.heap)(m:OwnCls p J Ů "ValueError.__new__" u f.heap)(he:f.heap.get? e=Z Å)(hc:Å.cls=.ref z)(A:mroIn q z (.ref J)=Z L)(h:Q L f):w_ (D_ s r) I (excMatches (.ref e) (.ref J)) Q χ f:=by
 obtain⟨tl,N,nm,i,bs,a',sn,sub,ab,k',dd,k0,k1,k2,k3,k5,mN,n,hN,g',T⟩:=n.obj;obtain⟨o,N',e',q',l',y,d',E,m',c',i',l0,l1,l2,l3,l5,f',m,h',H,T'⟩:=m.obj;obtain⟨hh,g,k,t,os⟩:=f;have w:(C_ J::o).contains (.type "BaseException")=L:=by rw[List.contains_cons,T'.hasType YV.hasBase,Bool.or_true]
 have v:(C_ z::tl).contains (.ref J)=L:=by
  unfold mroIn at A;obtain⟨cd,a,b⟩:=Yt.mp A;split at b;·cases b
  · have b':=Wj b;unfold clsIn at a;split at a;·rename_i look;cases a;have p:=(X _ _ look).symm.trans n;cases p;exact b'
    ·cases a
 have j:=tc_notTuple;unfold excMatches;repeat(first|(with_reducible refine aaY he ?_;rw[hc])|with_reducible refine aaY m ?_|(with_reducible refine wpAny_isSubtype_exc m ?_;rw[w])|(with_reducible refine wpAny_isSubtype_exc n ?_;rw[v])|wp_step)
 exact h
def RU:N%0->ß|a,[x]=>if jW x&&a.all jW&&o_ (a.length<=100000)then .int (a.countP (λy=>eqF y x):Nat)%3 else U|_,_=>U
def Ng:V->V%0->Hp->VK->Prop:=λx d H Q=>∃a b y,x=.ref a/\d=[y]/\H a=Z (.lst b)/\ji y=L/\b.all ji=L/\b.length<=100000/\Q (.int (b.countP (λv=>Ľ v y):Nat)) H
def oV{y:V}:∀{b:V%0}{a:B%0},Ú b a->b.all ji=L->a.countP (ń y)=b.countP λv=>Ľ v y|_,_,.nil,_=>rfl|_,_,.cons (a:=v) (b:=u) r t,f=>by rw[Xc,m_]at f;rw[Z3,Z3,oV t f.2,vL r f.1]
def zQ:Š a "list.count" Ng:=by intro f' s w H x A v us Q I j m h;obtain⟨b,i,y,rfl,rfl,p,r,g,E,q⟩:=h;cases j;obtain⟨u,rfl,k⟩:=iP m;obtain⟨z,d,n,f,hl,e⟩:=I.lstM p;refine Yd abo ⟨_,e,rfl⟩ PySem.F.entry_list_count (PySem.F.args_list_count_2 _ _) (SeqAt.list_countAt b d.toArray n U #[] u (ń y)) ⟨e,λt o=>iQ k r f g t (by simpa using o),⟨.int (i.countP (λv=>Ľ v y):Nat),H,I.tok _,⟨s.toks,?_⟩,q⟩⟩;have:=oV (y:=y) f g;rw[aar,this]
def Gg{K:d_}{H:Hp}{x:N}{u:V}(q:Ü K H x u)(d:jW x=L):∀{b:N%0}{a:V%0},S K H b a->b.all jW=L->a.countP (λv=>Ľ v u)=b.countP λy=>eqF y x|[],a,r,_=>by cases(show a=[]from r);rfl|y::e,a,r,f=>by obtain⟨v,i,rfl,h,g⟩:∃v us,a=v::us/\Ü K H y v/\S K H e us:=r;rw[Xc,m_]at f;rw[Z3,Z3,Gg q d g f.2,zv h q f.1 d]
def DK(ho:FE a y A)(ha:FA a (g::u) ο)(i:Wz y "count" a.env (eval y a.env)=eval y a.env:=by lk)(p:((V6 w (j_ (g::u) a.env)).all (λx=>!x.1)&&(Xo w (WJ [] a.env)).all (λx=>x.1.isSome)&&o_ ((g::u).length+([]:Xu%0).length+(if([]:Xu%0).isEmpty then 0 else 1)<30))=L:=by lk)(h:(o.endLine==w.line)=L:=by lk)(hs:g%8:=by lk)(f:(V6 w (j_ u a.env)).any (·.1)=D:=by lk):FE a (.Call (.Attribute y "count" o) (g::u) [] w) (fML RU A ο):=dI (zj Xz abo PySem.F.type_list_count zQ ho.h ha.h i p h hs f) λσ H Q q E y=>⟨q,E,ð.bind y λd v H1 e1 rd s=>by
 cases d<;>try exact(show False from s).elim
 rename_i ds;obtain⟨e,r,rfl,I,z⟩:=rd.lstE;refine⟨.inl ⟨rfl,r,č.of I⟩,q,E.mono e1,ï.bind s λu ws H2 e2 rs j=>?_⟩;unfold RU at j;split at j
 · rename_i x;split at j;·rename_i k;rw[m_,m_]at k;obtain⟨b,rfl,m⟩:=fN rs;have n:=S.mono e2 _ _ z;refine⟨e,r,b,rfl,rfl,e2 _ _ I,p8 m k.1.1,mr n k.1.2,by rw[z.length];exact of_decide_eq_true k.2,?_⟩;rw[Gg m k.1.1 n k.1.2];exact j _ H2 (.refl H2) rfl
   ·exact j.elim
 ·exact j.elim⟩
def Nh{p:Û}{r j:R2}{g n:N->N->Rs N%1}(hg:ĝ a r g)(f:ĝ a j n){h:L2.St}{H:Hp}{Q:VK}{b:Ev}(E:ã a.K H h b)(o:ð a H (kB g n A Ä p b) Q):yV r j (tF a A) (tF a Ä) (tF a p) h H Q:=⟨b,E,ð.bind o λv x H1 u rx o1=>⟨b,E.mono u,ð.bind o1 λd y H2 s i o2=>hg v d x y H2 _ (Ü.mono s v x rx) i (ð.bind o2 λdz z I q rz o3=>by obtain⟨k,rfl,m⟩:=pZ rz o3;refine⟨k,rfl,?_⟩;cases k with|false=>exact Cv (m (.bl D) I (.refl I) rfl)|true=>exact Cw ⟨b,(E.mono u).mono (s.trans q),ð.bind m λdw w H4 e4 e o5=>f d dw y w H4 Q (Ü.mono (q.trans e4) d y i) e o5⟩)⟩⟩
def DM{k:Û}{j h:adz}{r i:R2}{b p:N->N->Rs N%1}(u:ă a (Wh j) r)(z:ĝ a r b)(m:ă a (Wh h) i)(n:ĝ a i p)(ha:FE a g A)(hb:FE a y Ä)(I:FE a Ê k)(w:lastMarks [j,h] [y,Ê]=D:=by lk):FT a (.Compare g [j,h] [y,Ê] o) (fB (kB b p A Ä k)):=Dg (CV u m ha.h hb.h I.h w) λq H Q ρ E f=>by show yV r i (tF a A) (tF a Ä) (tF a k) q H _;exact Nh z n E (ð.bindB f λd v H' e r s=>pY r s)
def vW(x:Str)(n:Int):Str:=if n<1 then adf else if(n==1||x.length==0)=L then x else⟨(u_ n.toNat x.cps).foldl (·++·) #[]⟩
def Uz:N->N->Rs N%1|.str x,.int n=>if x.length<=1000/\-1000<=n/\n<=1000 then .str (vW x n)%3 else U|x,y=>lj x y
def DN:R2:=λx y H Q=>∃i n,x=.str i/\y=.int n/\(i.length<=1000/\-1000<=n/\n<=1000)/\Q (.str (vW i n)) H
def vX(a:Array Nat):∀(k:Nat)(b:Array Nat),((u_ k a).foldl (·++·) b).size=b.size+k*a.size|0,b=>by simp|k+1,b=>by rw[W8,Zh,vX a k (b++a),aa7,Nat.succ_mul];omega
def zR(e:b<=1000)(d:j<=1000):j*b<=sizeLine:=by have a:j*b<=1000*1000:=Nat.mul_le_mul d e;rw[Zq];exact Wa a #v[]
def op_mulS:ă a (Xn .Mult) DN:=by
 intro f' s r H x y v u Q I j h⟨i,n,m,k,f,q⟩;subst m k;obtain⟨t,rfl⟩:=j;obtain⟨w,rfl⟩:=h;have p:(o_ (n< -(2^63:Int))||o_ (n>=2^63))=D:=by
  have d:¬n< -(2^63:Int):=by omega
  have b:¬n>=2^63:=by omega
  rw[decide_eq_false d,decide_eq_false b];rfl
 refine P.mul_str p (λd b E=>?_) (λd b=>?_) ?_
 · have o:0<n:=by omega
   have e1:=Int.mul_ediv_add_emod (2^63-1) n;have e2:=Xi (2^63-1) o;have z:(2^63-1:Int)/n<1000:=by omega
   have g:0<=(2^63-1:Int)/n:=Int.ediv_nonneg #v[] ();have A:n*((2^63-1:Int)/n)<=1000*((2^63-1:Int)/n):=Int.mul_le_mul_of_nonneg_right f.2.2 g;omega
 ·show o_ (i.length*n.toNat>sizeLine)=D;have:=zR (b:=i.length) (j:=n.toNat) f.1 ();rw[ac3];exact decide_eq_false ()
 · unfold vW at q;split;·rename_i d;rw[if_pos d]at q;exact⟨by decide,⟨.str adf,H,I.tok _,⟨_,rfl⟩,q⟩⟩
   · rename_i d;rw[if_neg d]at q;split;·rename_i b;rw[if_pos b]at q;exact⟨.str i,H,I,⟨_,rfl⟩,q⟩
     ·rename_i b;rw[if_neg b]at q;refine⟨?_,⟨.str _,H,I.tok _,⟨_,rfl⟩,q⟩⟩;show((u_ n.toNat i.cps).foldl (·++·) #[]).size<=sizeLine;rw[vX];have:=zR (b:=i.length) (j:=n.toNat) f.1 ();have e:i.cps.size=i.length:=rfl;rw[e];simpa using this
def Ni:ă a (Xn .Mult) (λx y H Q=>DN x y H Q\/rI ŝ (λi j=>.int (i*j)) x y H Q):=op_mulS.or FQ
def Gh:ĝ a (λx y H Q=>DN x y H Q\/rI ŝ (λi j=>.int (i*j)) x y H Q) Uz:=by intro h g x y H Q f e o;cases h with
 |str i=>cases g with|int n=>
 have b:ð a H (if i.length<=1000/\-1000<=n/\n<=1000 then .str (vW i n)%3 else U) Q:=o;by_cases d:i.length<=1000/\-1000<=n/\n<=1000;·rw[if_pos d]at b;exact .inl ⟨i,n,f,e,d,b _ H (.refl H) rfl⟩
 ·rw[if_neg d]at b;exact b.elim|_=>exact(show False from o).elim
 |_=>exact .inr (MF _ _ x y H Q f e o)
def xiB(K:d_)(C:O):Bool:=findIn K (.ref C) "__getattribute__"==Z (Z (.builtin "BaseException.__getattribute__"))&&findIn K (.ref C) "__getattr__"==Z U&&findIn K (.ref C) "__class__"==Z (Z (.builtin "object.__class__"))&&specialIn K (.builtin "object.__class__") "__get__"==Z (Z (.builtin "getset_descriptor.__get__"))&&takesIn K (.builtin "object.__class__")==Z L&&mroIn K C (.type "object")==Z L&&mroIn K C (.type "BaseException")==Z L
def RV(h:xiB q e=L):XI q e:=by unfold xiB at h;simp![m_,beq_iff_eq]at h;exact⟨h.1.1.1.1.1.1,h.1.1.1.1.1.2,h.1.1.1.1.2,h.1.1.1.2,h.1.1.2,h.1.2,h.2⟩
structure Vq(K:d_)(m:Nat)(cls:Nat->O)(CJ:O):Prop where at_:∀c,c<m->nsIn K E_ (į c)=Z (Z (.ref (cls c)))/\excIn K (cls c) Ů "ValueError.__new__"=L/\XI K (cls c)/\mroIn K (cls c) (.ref CJ)=Z L/\kitOne K (.ref (cls c)) (.type "ValueError")=Z L/\∀d,d<m->kitOne K (.ref (cls c)) (.ref (cls d))=Z (c==d)exJ:excIn K CJ Ů "ValueError.__new__"=L
section
variable{K:d_}{m:Nat}{cls:Nat->O}{CJ:O}(x:Vq K m cls CJ)
include x
end
def qj:W0 (b_ "ValueError")=Z (.type "ValueError"):=by lk
def mV:Str->ß|x,[.str y]=>if x.length<=100000 then .str (Xy x y)%3 else U|_,_=>U
def Gi:V->V%0->Hp->VK->Prop:=λx a H Q=>∃i j,x=.str i/\a=[.str j]/\i.length<=sizeLine/\Q (.str (Xy i j)) H
def DO:Š a "str.strip" Gi:=by intro p s g H x m v us Q I b e h;obtain⟨i,j,rfl,rfl,f,q⟩:=h;obtain⟨t,rfl⟩:=b;obtain⟨u,rfl,d⟩:=iP e;obtain⟨o,rfl⟩:=d;exact SC.stripChars (λn k=>⟨.str _,H,I.tok k,⟨_,rfl⟩,q⟩) f
def Ie(i:Str)(e:N%0)(d:V%0)(H:Hp)(Q:VK)(f:S a.K H e d)(o:ð a H (mV i e) Q):Gi (.str i) d H Q:=by
 unfold mV at o;split at o
 · rename_i j;split at o;·rename_i g;obtain⟨w,rfl,b⟩:=fN f;cases(show w=.str j from b);exact⟨i,j,rfl,rfl,bT g,o _ H (.refl H) rfl⟩
   ·exact o.elim
 ·exact o.elim
def dD(x y:N):Rs N%1:=match x,y with|.tup a,.tup b=>if a.length+b.length<=100000 then .tup (a++b)%3 else U|x,y=>cf x y
def DP(u:adZ f.heap e #[])(v:adZ f.heap z ξ.toArray)(w:Î (.ref z) f):w_ (D_ s r) I (Xn .Add (.ref e) (.ref z)) Î χ f:=by obtain⟨⟨A,y,m,p⟩,i,k,n,j⟩:=id u;obtain⟨⟨o,h,data2,g⟩,a,d,q,b⟩:=id v;simp only at k j d b;subst k j d b;exact acR ⟨_,i,rfl⟩ ⟨_,a,rfl⟩ abj acx ZG Zr (Za _ _) (tuple_addW0 e z #[] ξ.toArray n q y h p g ∅) ⟨i,a,w⟩
def Gj(K:d_):R2:=λx y H Q=>∃a b d,x=.ref a/\y=.ref b/\Ā K H a []/\Ā K H b d/\Q (.ref b) H
def DQ:ă a (Xn .Add) (Gj a.K):=by intro z s p H x y v u Q I g f h;obtain⟨d,b,r,rfl,rfl,n,m,q⟩:=h;cases g;cases f;obtain⟨o,i,k,_⟩:=I.tuple n;obtain⟨e,w,j,_⟩:=I.tuple m;cases i;exact DP k j ⟨.ref b,H,I,rfl,q⟩
def Nj(X:C):R2:=λx y H Q=>HG x y H Q\/(L5 X.K x y H Q\/Gj X.K x y H Q)
def Nk:ă a (Xn .Add) (Nj a):=o_add.or (op_catT.or DQ)
variable{i v:N}
def zS(h:∀a b,¬(i=.tup a/\v=.tup b)):dD i v=cf i v:=by
 unfold dD;split;·rename_i a b;exact absurd ⟨rfl,rfl⟩ (h a b)
 ·rfl
def Nl:ĝ a (Nj a) dD:=by
 intro z w x y H Q s r o;by_cases v:∃d b,z=.tup d/\w=.tup b
 · obtain⟨d,b,rfl,rfl⟩:=v;have e:ð a H (if d.length+b.length<=100000 then .tup (d++b)%3 else U) Q:=o;split at e;·rename_i i;obtain⟨p,k,rfl,q,g⟩:=s.tupE;obtain⟨m,j,rfl,n,f⟩:=r.tupE;cases k with
   |nil=>
   have I:d=[]:=by have:=g.length;exact Yu.mp this.symm
   subst I;exact .inr (.inr ⟨p,m,j,rfl,rfl,Ā.of q,Ā.of n,e _ H (.refl H) ⟨m,j,rfl,n,by simpa using f⟩⟩)|cons A k=>refine .inr (.inl ⟨p,m,A::k,j,rfl,rfl,Ā.of q,Ā.of n,by simp,by rw[g.length,f.length];exact bT i,λu=>?_,λu l i=>e _ _ (aH i _) ⟨l,_,rfl,az,S.mono (aH i _) _ _ (g.append f)⟩⟩);subst u;have E:b=[]:=Yu.mp f.length.symm;subst E;exact e _ H (.refl H) ⟨p,_,rfl,q,by simpa using g⟩
   ·exact e.elim
 ·rw[zS (λd b h=>v ⟨d,b,h⟩)]at o;exact .inl (ME z w x y H Q s r o)
def kc{a:Array B}{k:B}(b:adZ f.heap e a)(n:f.heap.IsSliceOf z Α k .none)(p:abF Α Η)(o:abF k Ρ)(m:HT.sIx a.size 0 Η=0/\HT.sIx a.size a.size Ρ=a.size)(h:Î (.ref e) f):w_ (D_ s r) I (abA (.ref e) (.ref z)) Î χ f:=by
 obtain⟨os,g,i,q⟩:=id n;have j:f.TypeIs (.ref z) "slice":=⟨os,g,i⟩;unfold abA;try with_reducible refine WN ?_
 first|refine e_ (k_ ?_)|skip
 refine e_ (wpAny_sequenceKey b.typeIs #v[] ?_);refine e_ (WL (name:=b_ "__getitem__") b.typeIs WI (W6 WI b.typeIs entry_tuple_getitem ?_ (args_tuple_getitem _ _)));show w_ _ _ (aaN (.ref e)>>=_) _ _ f;refine e_ (tupleItemsOf_ b ?_);refine e_ (Zx j ?_);rw[if_pos #v[]];refine e_ (HT.sliceApplied_gen n p o ?_);have d:(((HT.sIx a.size 0 Η:Nat):Int)==0&&(1:Int)==1&&(HT.sIx a.size a.size Ρ-HT.sIx a.size 0 Η)==a.size)=L:=by rw[m.1,m.2];simp
 show w_ _ _ (if(((HT.sIx a.size 0 Η:Nat):Int)==0&&(1:Int)==1&&(HT.sIx a.size a.size Ρ-HT.sIx a.size 0 Η)==a.size)=L then _ else _) _ _ f;rw[if_pos d];refine e_ (e_ (Zx b.typeIs (k_ ?_)));rw[if_pos #v[]];exact e_ (YT (k_ ⟨_,rfl,k_ h⟩))
def Vr(K:d_):V->Int%1->Int%1->Hp->VK->Prop:=λx lo d H Q=>∃a b,x=.ref a/\Ā K H a b/\(HT.sIx b.length 0 lo=0/\HT.sIx b.length b.length d=b.length)/\Q (.ref a) H
def DR:V' a (Vr a.K):=by
 intro A s o H x v u p lo z w Q I i n pl j h;obtain⟨b,g,rfl,k,m,q⟩:=h;cases i;obtain⟨e,r,f,y⟩:=I.tuple k;have d:e.toArray.size=g.length:=by rw[H_];exact r.length.symm
 refine⟨"tuple",_,WI.lookup,f.typeIs,?_⟩;exact kc f n pl j (by rw[d];exact m) ⟨.ref b,H,I,rfl,q⟩
def UB(x:N)(a b:Int%1):Rs N%1:=match x with|.tup d=>.tup (zx d a b)%3|x=>QP x a b
def l7(f:Û)(d e:FnO):Û:=λa=>Þ (f a) λx=>Þ (d a) λlo=>Þ (e a) λb=>UB x lo b
def xA{a:θ%0}(h:HT.sIx a.length 0 Η=0/\HT.sIx a.length a.length Ρ=a.length):zx a Η Ρ=a:=by unfold zx;rw[h.1,h.2];simp
variable{A:Û}
def Ig{y I:t_%1}{fl fh:FnO}(ha:FE a g A)(hl:FO a y fl)(hh:FO a I fh):FE a (.Subscript g (.Slice y I U o) w) (l7 A fl fh):=dI (vK ((ŵ.or zh).or (sl_tup.or DR)) ha.h hl.h hh.h) λσ H Q q E b=>⟨q,E,ð.bind b λd v H1 e1 r1 o1=>⟨q,E.mono e1,kH o1 λl H2 e2 o2=>⟨q,(E.mono e1).mono e2,kH o2 λu n e3 f=>by
 have r:=Ü.mono e3 d v (Ü.mono e2 d v r1);cases d<;>try exact(show False from f).elim
 · rename_i z;unfold UB QP at f;dsimp only at f;split at f;·rename_i hz;exact .inl (.inl ⟨z,r,bT hz,f _ n (.refl n) rfl⟩)
   ·exact f.elim
 · rename_i ds;obtain⟨k,e,rfl,j,h⟩:=r.tupE;have m:=h.length;by_cases s:HT.sIx e.length 0 l=0/\HT.sIx e.length e.length u=e.length;·refine .inr (.inr ⟨k,e,rfl,Ā.of j,s,f _ n (.refl n) ⟨k,e,rfl,j,?_⟩⟩);rw[xA (by rw[<-m];exact s)];exact h
   ·refine .inr (.inl ⟨k,e,rfl,Ā.of j,s,λp i=>f _ _ (aH i _) ⟨p,_,rfl,az,S.mono (aH i _) _ _ ?_⟩⟩);unfold Dc zx;rw[h.length];exact(h.drop _).take _
 ·rename_i ds;obtain⟨k,e,rfl,j,h⟩:=r.lstE;refine .inl (.inr ⟨k,e,rfl,č.of j,λp i=>f _ _ (aH i _) ⟨p,_,rfl,az,S.mono (aH i _) _ _ ?_⟩⟩);unfold Dc zx;rw[h.length];exact(h.drop _).take _⟩⟩⟩
def Nm:Str->ß
 |x,[.str y]=>match Wq x y 0 x.length 1 with|i::_=>.int i%3|[]=>U
 |_,_=>U
def UC:V->V%0->Hp->VK->Prop:=λx a H Q=>∃i j k l,x=.str i/\a=[.str j]/\Wq i j 0 i.length 1=k::l/\Q (.int (k:Nat)) H
def Nn:Š a "str.index" UC:=by intro o s g H x m v us Q I b e h;obtain⟨i,j,k,l,rfl,rfl,f,q⟩:=h;obtain⟨t,rfl⟩:=b;obtain⟨u,rfl,d⟩:=iP e;obtain⟨n,rfl⟩:=d;exact SC.index f ⟨.int _,H,I.tok _,⟨_,rfl⟩,q⟩
def RW(i:Str)(f:N%0)(e:V%0)(H:Hp)(Q:VK)(g:S a.K H f e)(o:ð a H (Nm i f) Q):UC (.str i) e H Q:=by
 unfold Nm at o;split at o
 ·rename_i j;obtain⟨w,rfl,d⟩:=fN g;cases(show w=.str j from d);match b:Wq i j 0 i.length 1 with|[]=>rw[b]at o;exact o.elim|k::l=>rw[b]at o;exact⟨i,j,k,l,rfl,rfl,b,o _ H (.refl H) rfl⟩
 ·exact o.elim
abbrev Ih(a:B%0)(n:Nat):Obj:={cls:=.type "list",data:=.seq a.toArray n}
variable{Ι:L2.St}
def Õ.untrack(I:Õ a ε Ι (æ h e (.lst ν)) f)(ha:h e=U)(y:a.ex=[]):∃j n,Ú ν j/\ν.length<=sizeLine/\(∀o,a.s₀.heap.get? e=Z o->a.H₀ e≠U)/\(∀p∈a.pn++ε,p.1≠e)/\Õ a (ε++[(e,Ih j n)]) Ι h f:=by
 obtain⟨z,j,n,rv,hl,d⟩:=I.lstM (l:=e) (xs:=ν) az;have hb:∀b u,h b=Z u->b≠e:=λb u q=>aF q ha;have g:∀b,æ h e (.lst ν) b=U->h b=U:=λb q=>by
  by_cases i:b=e;·rw[i];exact ha
  ·rw[ay i]at q;exact q
 have s:∀b u,æ h e (.lst ν) b=Z u->(∀H,u≠.lst H)->h b=Z u:=λb u q hu=>by
  by_cases i:b=e;·rw[i,az]at q;exact absurd (Wj q).symm (hu ν)
  ·rw[ay i]at q;exact q
 have a':e∉a.fs:=λhm=>by obtain⟨_,o,r,_⟩:=I.ok.funs.mem hm;have:=I.base.free e o r (I.ok.frf e hm) (by rw[y];simp);rw[az]at this;cases this
 have A:∀p∈a.pn++ε,p.1≠e:=λp hp w=>by have:=(I.pin p hp).2.1;rw[w,az]at this;cases this
 refine⟨j,n,rv,z,λo r h0=>?_,A,⟨I.ok,I.os,I.bare,⟨I.base.keep,I.base.slot,λb o q n hx=>g b (I.base.free b o q n hx),I.base.there,λb H q=>s b _ (I.base.tups b H q) (λ_ w=>by cases w),λb o u q=>s b _ (I.base.frzs b o u q) (λ_ w=>by cases w),λb ps q=>?_⟩,I.loc,I.cell,g _ I.free,λx c q=>g _ (I.freeC x c q),λp hp=>?_,λb u q=>?_,I.len⟩⟩;·have:=I.base.free e o r h0 (by rw[y];simp);rw[az]at this;cases this
 ·obtain⟨E,q'⟩:=I.base.tbls b ps q;exact⟨E,s b _ q' (λ_ w=>by cases w)⟩
 · rcases V8.mp hp with k|k;·obtain⟨q1,q2,Q⟩:=I.pin p (P_ _ k);exact⟨q1,g _ q2,Q⟩
   · rcases V8.mp k with k|k;·obtain⟨q1,q2,Q⟩:=I.pin p (on _ k);exact⟨q1,g _ q2,Q⟩
     ·simp![V5]at k;subst k;refine⟨d,ha,λw=>?_,a',λv w=>by cases w⟩;obtain⟨m,⟨o,es,ep,r,hd,_⟩,_⟩:=I.loc;have w':e=a.env.locals:=w;rw[<-w',d]at r;cases r;cases hd
 · have hq:æ h e (.lst ν) b=Z u:=by rw[ay (hb b u q)];exact q
   refine(I.hok b u hq).stay (λ_ _ _ w=>w) (λc w=>s c _ w (λ_ w=>by cases w)) (λc H w=>s c _ w (λ_ w=>by cases w)) λc _ _ w=>s c _ w (λ_ w=>by cases w)
def Õ.retrack(I:Õ a (ε++[(e,Ih ξ b)]) Ι h f)(A:Ú ν ξ)(hz:ν.length<=sizeLine)(h0:∀o,a.s₀.heap.get? e=Z o->a.H₀ e≠U)(n:∀p∈a.pn++ε,p.1≠e):h e=U/\Õ a ε Ι (æ h e (.lst ν)) f:=by
 obtain⟨g,z,nL,nf,nc⟩:=I.pin (e,Ih ξ b) (on _ (on _ ∅));have up:∀d u,h d=Z u->æ h e (.lst ν) d=Z u:=λd u q=>by rw[ay (aF q z)];exact q
 have lo:∀d,h d=U->d≠e->æ h e (.lst ν) d=U:=λd q i=>by rw[ay i];exact q
 refine⟨z,⟨I.ok,I.os,I.bare,⟨I.base.keep,I.base.slot,λd o q b hx=>lo d (I.base.free d o q b hx) (λw=>h0 o (w▸q) (w▸b)),I.base.there,λd r q=>up d _ (I.base.tups d r q),λd o u q=>up d _ (I.base.frzs d o u q),λd ps q=>?_⟩,I.loc,I.cell,lo _ I.free (WO nL),λx c q=>lo _ (I.freeC x c q) (λw=>?_),λp s=>?_,λd u q=>?_,I.len⟩⟩;·obtain⟨j,q'⟩:=I.base.tbls d ps q;exact⟨j,up d _ q'⟩
 ·obtain⟨v,o,k,hd⟩:=I.cell x c q;rw[w]at k;have e':f.heap.get? e=Z (Ih ξ b):=g;rw[e']at k;cases k;cases hd
 ·obtain⟨Q,H,E⟩:=I.pin p (by
   rcases V8.mp s with m|m;·exact P_ _ m
   ·exact on _ (P_ _ m));exact⟨Q,lo _ H (n p s),E⟩
 · by_cases y:d=e;·subst y;rw[az]at q;cases q;exact⟨hz,ξ,b,A,g⟩
   ·rw[ay y]at q;exact(I.hok d u q).stay (λ_ _ _ w=>w) (λc w=>up c _ w) (λc r w=>up c _ w) λc _ _ w=>up c _ w
def RX(t:TE):TE:=λe f Q=>∃H a b,f=æ H a (.lst b)/\H a=U/\t e H λv d=>d a=U->Q v (æ d a (.lst b))
def RY(t:TT):TT:=λe f Q=>∃H a b,f=æ H a (.lst b)/\H a=U/\t e H λv d=>d a=U->Q v (æ d a (.lst b))
def RZ(t:TA):TA:=λe f Q=>∃H a b,f=æ H a (.lst b)/\H a=U/\t e H λv d=>d a=U->Q v (æ d a (.lst b))
def R5(t:TI):TI:=λe f Q=>∃H a b,f=æ H a (.lst b)/\H a=U/\t e H λv d=>d a=U->Q v (æ d a (.lst b))
def uJ(d:a.ex=[]){t:TE}(h:PE a g t):PE a g (RX t):=by intro f' s f Hf Q I⟨H,b,xs,w,o,q⟩;subst w;obtain⟨E,n,i,k,p,m,A⟩:=Õ.untrack I o d;refine ê (h _ s f H _ A q) λu s'⟨v,H',z,r,j⟩=>?_;obtain⟨e,y⟩:=Õ.retrack z i k p m;exact⟨v,_,y,r,j e⟩
def Ii(d:a.ex=[]){t:TT}(h:PT a g t):PT a g (RY t):=by intro f' s f Hf Q I⟨H,b,A,r,o,q⟩;subst r;obtain⟨z,n,i,k,p,m,y⟩:=Õ.untrack I o d;refine ê (h _ s f H _ y q) λu E⟨H',w,j⟩=>?_;obtain⟨e,v⟩:=Õ.retrack w i k p m;exact⟨_,v,j e⟩
def Ij(e:a.ex=[]){t:TA}(h:PA a u t):PA a u (RZ t):=by intro pos f' s g Hf Q I⟨H,d,xs,w,o,q⟩;subst w;obtain⟨E,n,i,k,p,m,A⟩:=Õ.untrack I o e;refine ê (h pos _ s g H _ A q) λb s'⟨v,H',z,r,j⟩=>?_;obtain⟨f,y⟩:=Õ.retrack z i k p m;exact⟨v,_,y,r,j f⟩
def Ik(j:a.ex=[]){r:t_}{t:TI}(h:PI a r g t):PI a r g (R5 t):=by
 intro f' s y Hf R I⟨H,d,xs,e1,ha,q⟩;subst e1;obtain⟨e,n,E,hz,h0,hp,I'⟩:=Õ.untrack I ha j;refine ê (h _ s y H _ I' q) λu s1 f=>ê f λa' s2⟨it,fp,z,J,H',e2,I2,T,A,o,Q⟩=>?_;obtain⟨m,I3⟩:=Õ.retrack I2 E hz h0 hp;refine⟨it,fp,z,J,_,e2,I3,T,A,λb hb=>?_,Q m⟩;obtain⟨g0,g1,g2,g3,g4,v⟩:=o b hb;have k:b≠d:=λw=>v (d,Ih e n) (on _ (on _ ∅)) w.symm;refine⟨by rw[ay k];exact g0,g1,g2,g3,g4,λp i=>v p ?_⟩;rcases V8.mp i with w|w;·exact P_ _ w
 ·exact on _ (P_ _ w)
mutual
def ģ:N->Bool|.non=>L|.bl _=>L|.int _=>L|.str _=>L|.tup ds=>ç ds|.lst _=>D|.scr _=>D|.exn _=>D|.obj _ _=>D
def ç:N%0->Bool|[]=>L|d::ds=>ģ d&&ç ds
end
mutual
theorem Ü.tups{K:d_}{H f:Hp}(k:∀b e,H b=Z (.tup e)->f b=Z (.tup e)):∀(d:N)(v:V),ģ d=L->Ü K H d v->Ü K f d v|.non,_,_,h=>h|.bl _,_,_,h=>h|.int _,_,_,h=>h|.str _,_,_,h=>h|.tup ds,v,i,h=>by obtain⟨a,j,r,h,q⟩:=h.tupE;exact⟨a,j,r,k _ _ h,S.tups k ds j (by simpa[ģ]using i) q⟩|.lst _,_,i,_=>by simp[ģ]at i|.scr _,_,i,_=>by simp[ģ]at i|.exn _,_,i,_=>by simp[ģ]at i|.obj _ _,_,i,_=>by simp[ģ]at i
theorem S.tups{K:d_}{H f:Hp}(k:∀b e,H b=Z (.tup e)->f b=Z (.tup e)):∀(ds:N%0)(g:V%0),ç ds=L->S K H ds g->S K f ds g
 |[],_,_,h=>h|d::ds,g,i,h=>by
  obtain⟨v,us,r,h,q⟩:∃v us,g=v::us/\Ü K H d v/\S K H ds us:=h;have m:ģ d=L/\ç ds=L:=by simpa[ç]using i
  exact⟨v,us,r,Ü.tups k d v m.1 h,S.tups k ds us m.2 q⟩end
inductive Fo where|nx(ρ:Ev)(ds:N%0)|rt(d:N)
abbrev kK:=Ev->N%0->Fo%1
def ğ(X:C)(i:Nat)(a:O)(H:Hp)(o:Fo%1)(b:vD):Prop:=match o with|none=>False|some (.rt d)=>∀v e,Ù H e->Ü X.K e d v->b.rt v e|some (.nx h ds)=>∀f e g,Ù H e->e a=U->f[i]?=Z (Z (.ref a))->ã X.K e f h->S X.K e ds g->b.nx f (æ e a (.lst g))
def ğ.mono{g:vD}(f:Ù h Δ):∀{o:Fo%1},ğ a b e h o g->ğ a b e Δ o g|none,d=>d|some (.rt _),d=>λv j i r=>d v j (f.trans i) r|some (.nx _ _),d=>λk j m i=>d k j m (f.trans i)
def tO(X:C)(i:Nat)(f:kK):TS:=λb d h=>∃H a g e ds,h=æ H a (.lst g)/\H a=U/\d[i]?=Z (Z (.ref a))/\ã X.K H d e/\S X.K H ds g/\ğ X i a H (f e ds) b
structure Ŭ(X:C)(i:Nat)(st:WA)(f:kK):Prop where h:PS X st (tO X i f)
structure ŭ(X:C)(i:Nat)(st:WA%0)(f:kK):Prop where h:ŋ X st (tO X i f)
def xB(o:Rs θ%1)(k:θ->Fo%1):Fo%1:=match o with|some (.ok a)=>k a|_=>U
def Li:kK:=λa ds=>Z (.nx a ds)
def gk(f g:kK):kK:=λd ds=>match f d ds with|some (.nx a b)=>g a b|o=>o
def gW(j:Nat)(f:Û):kK:=λa ds=>xB (f a) λd=>Z (.nx (a.set j (Z d)) ds)
def oIf(c:î)(f g:kK):kK:=λa ds=>xB (c a) λk=>if k then f a ds else g a ds
def Il(i:Nat)(c:î)(f g:kK):kK:=λa ds=>xB (c (a.set i (Z (.lst ds)))) λk=>if k then f a ds else g a ds
def zT(i:Nat)(f:Û):kK:=λa ds=>xB (f (a.set i (Z (.lst ds)))) λd=>Z (.rt d)
def DS(f:Û):kK:=λa ds=>if ds.length<100000 then xB (f a) λd=>Z (.nx a (ds++[d]))else U
def zU(g:h e=U)(a:Ù (æ h e (.lst ν)) Δ):∃f,Δ=æ f e (.lst ν)/\f e=U/\Ù h f:=by
 refine⟨λb=>if b=e then U else Δ b,?_,by simp,λb u q=>?_⟩
 · funext b;by_cases d:b=e;·subst d;rw[az];exact a b _ az
   ·rw[ay d];simp[d]
 ·have d:b≠e:=aF q g;simp![d,if_false];exact a b u (by rw[ay d];exact q)
def jq(a:h e=U):Ù h (æ h e (.lst ν)):=aH a _
variable{ζ:Ev}{E:N%0}
def mW(k:h e=U)(o:Ι[b]?=Z (Z (.ref e)))(f:ã a.K h Ι ζ)(r:S a.K h E ν):ã a.K (æ h e (.lst ν)) Ι (ζ.set b (Z (.lst E))):=by
 have m:=f.mono (jq (ν:=ν) k);refine⟨by rw[Wl];exact m.len,λj d g=>?_⟩;by_cases i:b=j
 · subst i;by_cases n:b<ζ.length;·rw[A_ n]at g;cases g;exact⟨.ref e,o,e,ν,rfl,az,S.mono (jq k) _ _ r⟩
   ·rw[WC (by rw[Wl];omega)]at g;cases g
 ·rw[p_ i]at g;exact m.at' j d g
def Im:ŭ a b [] Li:=⟨λj s f n d I⟨H,e,g,m,ds,k,i,h,E,r,o⟩=>by subst k;exact uw j s f _ d I (o f H g (.refl H) i h E r)⟩
def DT{f g:kK}(Q:Ŭ a b Γ f)(A:ŭ a b À g):ŭ a b (Γ::À) (gk f g):=⟨λf' s u Hf h I⟨H,e,v,q,ds,e1,z,y,E,r,o⟩=>by refine gT Q.h A.h f' s u Hf h I ⟨H,e,v,q,ds,e1,z,y,E,r,?_⟩;unfold gk at o;match i:f q ds with|none=>rw[i]at o;exact o.elim|some (.rt d)=>rw[i]at o;exact o|some (.nx j p)=>rw[i]at o;exactλa' H' k e' n m E' w=>⟨H',e,k,j,p,rfl,n,m,E',w,ğ.mono e' o⟩⟩
def Io{f:kK}(d:Ŭ a b Γ f):ŭ a b [Γ] f:=⟨pQ d.h⟩
def No(q:a.ex=[])(j:Nat)(n:b≠j){x:Str}{i:Pos}(hN:a.N.Nodup)(hi:a.N[j]?=Z x)(hx:Ŏ a.env.scope x)(he:FE a g A)(hs:WD g (Z (.Name x i)) o.line a.env=pure D:=by lk)(hf:a.fn x=L\/a.env.scope.names.lookup x=Z .local:=by first|exact .inl rfl|exact .inr rfl|assumption):Ŭ a b (.Assign [.Name x i] g o) (gW j A):=⟨λf' s z Hf h I⟨H,f,y,w,ds,e1,ha,p,E,r,e⟩=>by refine oH hN hi hx (uJ q he.h) hs hf f' s z Hf h I ⟨H,f,y,e1,ha,w,E,?_⟩;unfold gW at e;match k:A w with|none=>rw[k]at e;exact e.elim|some (.exc _)=>rw[k]at e;exact e.elim|some (.ok d)=>rw[k]at e;exactλv H' m Q u=>e _ H' y m u (by rw[p_ (WO n)];exact p) ((E.mono m).set Q) (S.mono m _ _ r)⟩
variable{Ν:î}
def R6{f h:kK}(v:a.ex=[]){z y:WA%0}(Q:FT a g Ν)(ha:ŭ a b z f)(hb:ŭ a b y h):Ŭ a b (.If g z y o) (oIf Ν f h):=⟨λf' s A Hf i I⟨H,e,p,m,ds,e1,w,k,E,r,d⟩=>by refine CS (Ii v Q.h) ha.h hb.h f' s A Hf i I ⟨H,e,p,e1,w,m,E,?_⟩;unfold oIf at d;match n:Ν m with|none=>rw[n]at d;exact d.elim|some (.exc _)=>rw[n]at d;exact d.elim|some (.ok L)=>rw[n]at d;exactλu j q=>Cw ⟨u,e,p,m,ds,rfl,q,k,E.mono j,S.mono j _ _ r,ğ.mono j d⟩|some (.ok D)=>rw[n]at d;exactλu j q=>Cv ⟨u,e,p,m,ds,rfl,q,k,E.mono j,S.mono j _ _ r,ğ.mono j d⟩⟩
def Np{f e:kK}{z:WA%0}(Q:FT a g Ν)(ha:ŭ a b À f)(hb:ŭ a b z e):Ŭ a b (.If g À z o) (Il b Ν f e):=⟨λf' s A Hf i I⟨H,h,y,p,ds,e1,m,k,E,r,d⟩=>by subst e1;refine CS Q.h ha.h hb.h f' s A _ i I ⟨_,mW m k E r,?_⟩;unfold Il at d;match n:Ν (p.set b (Z (.lst ds)))with|none=>rw[n]at d;exact d.elim|some (.exc _)=>rw[n]at d;exact d.elim|some (.ok L)=>rw[n]at d;intro H2 v;obtain⟨w,u,q,j⟩:=zU m v;exact Cw ⟨w,h,y,p,ds,u,q,k,E.mono j,S.mono j _ _ r,ğ.mono j d⟩|some (.ok D)=>rw[n]at d;intro H2 v;obtain⟨w,u,q,j⟩:=zU m v;exact Cv ⟨w,h,y,p,ds,u,q,k,E.mono j,S.mono j _ _ r,ğ.mono j d⟩⟩
def Nq(q:FE a g A):Ŭ a b (.Return (Z g) o) (zT b A):=⟨λu s m Hf f I⟨H,h,Q,n,ds,y,i,k,E,r,e⟩=>by subst y;refine yI q.h u s m _ f I ⟨_,mW i k E r,?_⟩;unfold zT at e;match j:A (n.set b (Z (.lst ds)))with|none=>rw[j]at e;exact e.elim|some (.exc _)=>rw[j]at e;exact e.elim|some (.ok d)=>rw[j]at e;exactλv z w p=>e v z ((jq i).trans w) p⟩
def Nr(b':a.ex=[]){x:Str}{j i:Pos}(hx:PE a (.Name x j) (yF b))(he:FE a g A)(p:Wz (.Name x j) "append" a.env (eval (.Name x j) a.env)=eval (.Name x j) a.env:=by lk)(w:((V6 i (j_ [g] a.env)).all (λx=>!x.1)&&(Xo i (WJ [] a.env)).all (λx=>x.1.isSome)&&o_ ([g].length+([]:Xu%0).length+(if([]:Xu%0).isEmpty then 0 else 1)<30))=L:=by lk){Q:Pos}(n:(Q.endLine==i.line)=L:=by lk)(hs:j_ [g] a.env=(D,eval g a.env)::j_ [] a.env:=by lk)(m:(V6 i (j_ [] a.env)).any (·.1)=D:=by lk)(a':WD (.Call (.Attribute (.Name x j) "append" Q) [g] [] i) U o.line a.env=pure D:=by lk):Ŭ a b (.Expr (.Call (.Attribute (.Name x j) "append" Q) [g] [] i) o) (DS A):=⟨λf' s σ Hf h I⟨H,f,q,y,ds,e1,d',u,E,r,e⟩=>by
 refine ux (zj Xz YQ abd r9 hx (Ij b' (uF he zm hs).h) p w n hs m) a' f' s σ Hf h I ?_;unfold DS at e;split at e
 ·rename_i hl;match k:A y with
  |none=>rw[k]at e;exact e.elim|some (.exc _)=>rw[k]at e;exact e.elim|some (.ok d)=>
  rw[k]at e;refine⟨.ref f,u,.inl ⟨rfl,q,č.of (by rw[e1];exact az)⟩,H,f,q,e1,d',y,E,?_⟩;show ï a H (aO A dP y) _;rw[ac k aq];intro vs H' z rs c';obtain⟨v,rfl,rv⟩:=fN rs;have hz:q.length<sizeLine:=by have:=r.length;have h2:=bT (b:=q.length+1) ();omega
  refine⟨f,q,v,rfl,rfl,az,hz,?_⟩;rw[yA];exact e σ H' (q++[v]) z c' u (E.mono z) ((S.mono z _ _ r).append ⟨v,[],rfl,rv,rfl⟩)
 ·exact e.elim⟩
def zV(i:Nat)(g:ë)(f:kK):ä:=λe=>cV (g e) λds=>if ds.length<=100000 then(match f (e.set i U) ds with|some (.nx a b)=>Z (.nx (a.set i (Z (.lst b))))|some (.rt d)=>Z (.rt d)|none=>U)else U
variable{ο:ë}{Ο:Pos}
def Ip{f:kK}(hN:a.N.Nodup)(hi:a.N[b]?=Z d)(hx:Ŏ a.env.scope d)(hg:FA a u ο)(hr:ŭ a b À f)(hs:WD (.List u w) (Z (.Name d Ο)) o.line a.env=pure D:=by lk)(hf:a.fn d=L\/a.env.scope.names.lookup d=Z .local:=by first|exact .inl rfl|exact .inr rfl|assumption):Ħ a (.Assign [.Name d Ο] (.List u w) o::À) (zV b ο f):=⟨λf' s σ H h I⟨n,E,e⟩=>by refine gT (oH (b:=b) hN hi hx (zb hg.h) hs hf) hr.h f' s σ H h I ⟨n,E,?_⟩;unfold zV at e;match k:ο n with
 |none=>rw[k]at e;exact e.elim|some (.exc _)=>rw[k]at e;exact e|some (.ok ds)=>
 rw[k]at e;intro vs H1 e1 rs;have i:þ a H (if ds.length<=100000 then(match f (n.set b U) ds with|some (.nx r A)=>Z (.nx (r.set b (Z (.lst A))))|some (.rt g)=>Z (.rt g)|none=>U)else U) h:=e;by_cases hl:ds.length<=100000
 · rw[if_pos hl]at i;refine⟨by rw[rs.length];exact bT hl,λp hp=>?_⟩;have c':b<σ.length:=by rw[I.len];exact(F_.mp hi).1
   refine⟨H1,p,vs,n.set b U,ds,rfl,hp,A_ c',?_,rs,?_⟩
   · have E1:=(E.mono e1).fgt1 b;refine⟨by rw[Wl];exact E1.len,λj g q=>?_⟩;by_cases y:b=j
     · subst y;by_cases b':b<n.length;·rw[A_ b']at q;cases q
       ·rw[WC (by rw[Wl];omega)]at q;cases q
     ·obtain⟨v,q1,q2⟩:=E1.at' j g q;exact⟨v,by rw[p_ y];exact q1,q2⟩
   ·match m:f (n.set b U) ds with|none=>rw[m]at i;exact i.elim|some (.rt g)=>rw[m]at i;exactλv H' e' Q=>i v H' (e1.trans e') Q|some (.nx r A)=>rw[m]at i;exactλa' H' g' e' z d' E' Q=>i a' _ ((e1.trans e').trans (jq z)) (mW z d' E' Q)
 ·rw[if_neg hl]at i;exact i.elim⟩
def om(j:Nat)(f:Nat%0)(a:kK):N%0->Ev->N%0->Fo%1|[],b,e=>Z (.nx (fgt f b) e)|d::ds,b,e=>match a ((fgt f b).set j (Z d)) e with|some (.nx g h)=>om j f a ds g h|o=>o
def zW(j:Nat)(f:Nat%0)(b:ë)(a:kK):kK:=λd e=>xB (b d) λds=>if ç ds=L then om j f a ds d e else U
def mw:∀{ds:N%0}{n:Nat}{d:N},ç ds=L->ds[n]?=Z d->ģ d=L
 |[],_,_,_,h=>by simp at h|e::ds,0,d,i,h=>by
  have a:ģ e=L/\ç ds=L:=by simpa[ç]using i
  cases(show Z e=Z d from h);exact a.1|e::ds,n+1,d,i,h=>by
  have a:ģ e=L/\ç ds=L:=by simpa[ç]using i
  exact mw a.2 (show ds[n]?=Z d from h)
def DU(d:ģ i=L)(r:Ü q (æ h e (.lst ν)) i ψ):Ü q h i ψ:=Ü.tups (λb g a=>by
 by_cases f:b=e;·rw[f,az]at a;cases a
 ·rw[ay f]at a;exact a) i ψ d r
def Nt{fb:kK}(u':a.ex=[])(j:Nat)(js:Nat%0)(q':b≠j)(hp:YK (D_ a.prog a.w) a.A a.env a.xe)(hc:a.calm=L)(hi:FI a g y ο)(hg:PG a g (w8 j))(hb:ŭ a b À fb)(hs:∀x,Wd y a.env x=pure x:=by intro _;lk):Ŭ a b (.For g y À [] o) (zW j js ο fb):=⟨λf' s σ Hf h I⟨H,e,xs,ρ,ds,e1,ha,s',E,r,f⟩=>by refine rP hp hc (Ik u' hi.h) hg hb.h hs f' s σ Hf h I ⟨H,e,xs,e1,ha,ρ,E,?_⟩;unfold zW at f;match hf:ο ρ with
 |none=>rw[hf]at f;exact f.elim|some (.exc _)=>rw[hf]at f;exact f.elim|some (.ok us)=>
 rw[hf]at f;have o0:ğ a b e H (if ç us=L then om j js fb us ρ ds else U) h:=f;by_cases d':ç us=L
 · rw[if_pos d']at o0;intro J H1 e1 wk v';have o1:=ğ.mono e1 o0;refine⟨λn m A l'=>m=us.length-n/\n<=us.length/\∃p k u v,l'=æ p e (.lst k)/\p e=U/\Ù H1 p/\A[b]?=Z (Z (.ref e))/\ã a.K p A u/\S a.K p v k/\ğ a b e p (om j js fb (us.drop n) u v) h,⟨us.length,by simp,Wm _,H1,xs,ρ,ds,rfl,v',.refl H1,s',E.mono e1,S.mono e1 _ _ r,by simpa using o1⟩,?_⟩;rintro n m A l'⟨rfl,hn,p,k,u,v,rfl,g',e2,b',E',r',w⟩;have h':Ù H1 (æ p e (.lst k)):=e2.trans (jq g');by_cases c':n<us.length;·refine .inr ⟨wk.go n _ h' c',λz k'=>∃H2 i' Q a',k'=æ H2 e (.lst i')/\H2 e=U/\Ù H1 H2/\z[b]?=Z (Z (.ref e))/\ã a.K H2 z Q/\S a.K H2 a' i'/\ğ a b e H2 (om j js fb (us.drop (n+1)) Q a') h,λz k' q=>⟨us.length-(n+1),by omega,rfl,c',q⟩,λx H2 i=>?_⟩;obtain⟨rfl,d,hd,rd⟩:=wk.yld n _ x H2 h' c' i;have n':=DU (mw d' hd) rd;rw[jn hd]at w;show tO a b fb _ _ _;refine⟨p,e,k,(fgt js u).set j (Z d),v,rfl,g',by rw[p_ (WO q')];exact b',(ã.fgt js E').set n',r',?_⟩;unfold om at w;match e':fb ((fgt js u).set j (Z d)) v with|none=>rw[e']at w;exact w|some (.rt r)=>rw[e']at w;exact w|some (.nx Q a')=>rw[e']at w;exactλz H3 m' e3 h3 t' E3 r3=>⟨H3,m',Q,a',rfl,h3,e2.trans e3,t',E3,r3,ğ.mono e3 w⟩
   · have p':n=us.length:=by omega
     subst p';rw[Y5]at w;exact .inl ⟨wk.stop _ h',w A p k (.refl p) g' b' (ã.fgt js E') r'⟩
 ·rw[if_neg d']at o0;exact o0.elim⟩
def mX:N->Bool|.bl _=>L|.int _=>L|_=>D
def Iq(K:d_)(d:N):Yo K (.type (tyD d)) (.type "int")=Z (mX d):=by cases d<;>lk
def Nu:W0 (b_ "int")=Z (.type "int"):=by lk
def Nv:ß|[.int i,.int j]=>(.int (if j>i then j else i))%3|_=>U
def Lj:ß|[.int i,.int j]=>(.int (if j<i then j else i))%3|_=>U
def R7:ß|[.int i]=>if i.natAbs.log2<1920 then .str (toString i)%3 else U|_=>U
def Nw(y:a.calm=L)(q:Gl a "max")(p:a.mg "max"=U)(z:FA a (g::u) ο)(s:g%8:=by lk)(e:(V6 w (j_ u a.env)).any (·.1)=D:=by lk):FE a (.Call (.Name "max" o) (g::u) [] w) (é Nv ο):=dI (gU (yW y) q p PyProof.Rows.boot_max z.h #v[] #v[] s e) λA H Q h E b=>⟨h,E,ï.bind b λds I f e1 m d=>by
 unfold Nv at d;split at d;·rename_i i j;obtain⟨v,k,rfl,r,n⟩:=Dk m;cases(show v=.int i from r);cases(show k=.int j from n);exact⟨i,j,rfl,d _ f (.refl f) rfl⟩
 ·exact d.elim⟩
def Nx(y:a.calm=L)(q:Gl a "min")(p:a.mg "min"=U)(z:FA a (g::u) ο)(s:g%8:=by lk)(e:(V6 w (j_ u a.env)).any (·.1)=D:=by lk):FE a (.Call (.Name "min" o) (g::u) [] w) (é Lj ο):=dI (gU (yX y) q p PyProof.Rows.boot_min z.h #v[] #v[] s e) λA H Q h E b=>⟨h,E,ï.bind b λds I f e1 m d=>by
 unfold Lj at d;split at d;·rename_i i j;obtain⟨v,k,rfl,r,n⟩:=Dk m;cases(show v=.int i from r);cases(show k=.int j from n);exact⟨i,j,rfl,d _ f (.refl f) rfl⟩
 ·exact d.elim⟩
def ĩ:N->N->Rs N%1|.int i,.int j=>.bl (o_ (i<=j))%3|.str x,.str y=>.bl (!o_ (y.cps.toList<x.cps.toList))%3|_,_=>U
def UD:R2:=λx y H Q=>ű (λi j=>.bl (o_ (i<=j))) x y H Q\/∃i j,x=.str i/\y=.str j/\Q (.bl (!o_ (j.cps.toList<i.cps.toList))) H
def zX:ă a (Wh .LtE) (λx y H Q=>∃i j,x=.str i/\y=.str j/\Q (.bl (!o_ (j.cps.toList<i.cps.toList))) H):=by intro g s e H x y v u Q I d b h;obtain⟨i,j,rfl,rfl,q⟩:=h;obtain⟨t,rfl⟩:=d;obtain⟨f,rfl⟩:=b;exact PySem.P.le_str ⟨.bl _,H,I,rfl,q⟩
def Ny:ă a (Wh .LtE) UD:=op_le.or zX
def Nz:ĝ a UD ĩ:=by
 intro f e x y H Q d b o;cases f<;>cases e<;>try exact(show False from o).elim
 ·rename_i i j;exact .inl ⟨i,j,d,b,o _ H (.refl H) rfl⟩
 ·rename_i i j;exact .inr ⟨i,j,d,b,o _ H (.refl H) rfl⟩
def R8(K:d_)(S:Nat%0)(a:O%0)(b:O):Bool:=excIn K b Ů "ValueError.__new__"&&S.all λc=>excIn K (a.getD c 0) Ů "ValueError.__new__"&&xiB K (a.getD c 0)&&mroIn K (a.getD c 0) (.ref b)==Z L&&mroIn K (a.getD c 0) (.ref (a.getD c 0))==Z L&&kitOne K (.ref (a.getD c 0)) (.type "ValueError")==Z L&&S.all λd=>kitOne K (.ref (a.getD c 0)) (.ref (a.getD d 0))==Z (c==d)
structure ē(K:d_)(S:Nat%0)(cls:Nat->O)(CJ:O):Prop where at_:∀c∈S,nsIn K E_ (į c)=Z (Z (.ref (cls c)))/\excIn K (cls c) Ů "ValueError.__new__"=L/\XI K (cls c)/\mroIn K (cls c) (.ref CJ)=Z L/\mroIn K (cls c) (.ref (cls c))=Z L/\kitOne K (.ref (cls c)) (.type "ValueError")=Z L/\∀d∈S,kitOne K (.ref (cls c)) (.ref (cls d))=Z (c==d)exJ:excIn K CJ Ů "ValueError.__new__"=L
variable{Ç:Nat%0}
def DV(f:∀c∈Ç,nsIn q E_ (į c)=Z (Z (.ref (υ.getD c 0))))(h:R8 q Ç υ e=L):ē q Ç (λc=>υ.getD c 0) e:=by unfold R8 at h;rw[m_]at h;refine⟨λc b=>?_,h.1⟩;have a:=Wu.mp h.2 c b;simp![m_,beq_iff_eq]at a;exact⟨f c b,a.1.1.1.1.1,RV a.1.1.1.1.2,a.1.1.1.2,a.1.1.2,a.1.2,λd g=>by have i:=Wu.mp a.2 d g;simpa using i⟩
section
variable{K:d_}{S:Nat%0}{cls:Nat->O}{CJ:O}(x:ē K S cls CJ)
include x
theorem ē.xc(c:Nat)(h:c∈S):XC K c (cls c):=⟨(x.at_ c h).1,(x.at_ c h).2.1⟩
theorem ē.same{c:Nat}{C:O}(h:c∈S)(q:nsIn K E_ (į c)=Z (Z (.ref C))):C=cls c:=by have z:=(x.at_ c h).1;rw[q]at z;cases z;rfl
theorem ē.xtO(d:Nat)(f:d∈S):XT K (λc=>if S.contains c then Z (c==d)else U) (.ref (cls d)):=λc b a C q=>by
 dsimp only at a;split at a
 · rename_i h;have e:c∈S:=by simpa using h
   cases a;rw[x.same e q];exact⟨(x.at_ c e).2.2.1,(x.at_ c e).2.2.2.2.2.2 d f⟩
 ·cases a
theorem ē.xtV:XT K (λc=>if S.contains c then Z L else U) (.type "ValueError"):=λc b a C q=>by
 dsimp only at a;split at a
 · rename_i h;have d:c∈S:=by simpa using h
   cases a;rw[x.same d q];exact⟨(x.at_ c d).2.2.1,(x.at_ c d).2.2.2.2.2.1⟩
 ·cases a
end
end FD
variable{E:FD.N%0}{Ι:L2.St}{ζ:FD.Ev}{Ω:FD.ß}{A:FD.Û}{Ν:FD.î}{Χ:FD.ä}{i:FD.N}{Ä:FD.Û}{ο:FD.ë}{v:FD.N}{Ο:Pos}{Ç:Nat%0}
namespace ST
open PySem.SetTable
def stp(m i:Nat):Nat:=(i*5+1)%(m+1)
def it(m:Nat):Nat->Nat->Nat|0,i=>i|k+1,i=>it m k (stp m i)
def yr(m:Nat):Bool:=(uk (m+1)).all λi=>(uk (m+1)).all λj=>(uk (m+1)).any λk=>it m k i==j
def Vs:yr 7=L:=by decide+kernel
def R9:yr 31=L:=by decide+kernel
def vY(m:Nat):∀(a b i:Nat),it m (a+b) i=it m b (it m a i)|0,b,i=>by rw[YE];rfl|a+1,b,i=>by rw[ac2];exact vY m a b (stp m i)
def orb(m:Nat):Nat->Nat->Nat%0|0,_=>[]|n+1,i=>i::orb m n (stp m i)
def Gk(m:Nat):∀(n i j:Nat),j∈orb m n i->∃k,k<n/\it m k i=j
 |0,_,_,h=>by simp[orb]at h|n+1,i,j,h=>by
  rcases v_.mp h with rfl|h;·exact⟨0,by omega,rfl⟩
  ·obtain⟨k,b,a⟩:=Gk m n _ j h;exact⟨k+1,by omega,a⟩
def Ir:((uk 128).all λj=>(orb 127 128 0).contains j)=L:=by decide+kernel
def DW:it 127 128 0=0:=by decide+kernel
def NA:yr 127=L:=by
 have d:∀j,j<128->∃k,k<128/\it 127 k 0=j:=λj e=>by have:=Wu.mp Ir j (Wf.mpr e);exact Gk 127 128 0 j (by simpa using this)
 unfold yr;refine Wu.mpr λi h=>Wu.mpr λj e=>Yx.mpr ?_;obtain⟨a,o,g⟩:=d i (Wf.mp h);obtain⟨b,n,f⟩:=d j (Wf.mp e);by_cases m:a<=b;·refine⟨b-a,Wf.mpr (),?_⟩;rw[<-g,<-vY,show a+(b-a)=b by omega,f];simp
 ·refine⟨128-a+b,Wf.mpr (),?_⟩;rw[<-g,<-vY,show a+(128-a+b)=128+b by omega,vY,DW,f];simp
def NB(h:yr b=L){i j:Nat}(m:i<=b)(g:j<=b):∃k,k<=b/\it b k i=j:=by unfold yr at h;have f:=Wu.mp h i (Wf.mpr ());have d:=Wu.mp f j (Wf.mpr ());obtain⟨k,a,e⟩:=Yx.mp d;exact⟨k,by have:=Wf.mp a;omega,by simpa using e⟩
def lp(m:Nat):Nat->Nat×Nat->Nat×Nat|0,x=>x|r+1,x=>lp m r (leap m x.1 x.2)
def zY(m:Nat):∀(a b:Nat)(x:Nat×Nat),lp m (a+b) x=lp m b (lp m a x)|0,b,x=>by rw[YE];rfl|a+1,b,x=>by rw[ac2];show lp m (a+b) (leap m x.1 x.2)=lp m b (lp m a (leap m x.1 x.2));exact zY m a b _
def Iu(m:Nat):∀(r:Nat)(x:Nat×Nat),x.1<=m->(lp m r x).1<=m|0,x,h=>h|r+1,x,h=>Iu m r _ (by show(x.1*5+1+x.2/32)%(m+1)<=m;exact X5 (aaP _ (ZL m)))
def NC(m:Nat):∀(r:Nat)(x:Nat×Nat),(lp m r x).2=x.2/32^r|0,x=>by simp[lp]|r+1,x=>by show(lp m r (leap m x.1 x.2)).2=_;rw[NC m r];show x.2/32/32^r=_;rw[Nat.div_div_eq_div_mul,Nat.pow_succ,ac3]
def zZ(m:Nat):∀(r:Nat)(i:Nat),(lp m r (i,0)).1=it m r i
 |0,i=>rfl|r+1,i=>by
  show(lp m r (leap m i 0)).1=it m r (stp m i);have e:leap m i 0=(stp m i,0):=by unfold leap stp;simp
  rw[e];exact zZ m r _
def Aa(c:yr b=L){i a j:Nat}(f:i<=b)(m:a<2^64)(d:j<=b):∃r,r<=13+b/\(lp b r (i,a)).1=j:=by
 have g:(lp b 13 (i,a)).2=0:=by rw[NC];exact Nat.div_eq_of_lt (by
 show a<32^13;have:(32:Nat)^13=2^65:=by decide
 omega)
 obtain⟨k,n,e⟩:=NB c (Iu b 13 (i,a) f) d;refine⟨13+k,by omega,?_⟩;rw[zY];have h:lp b 13 (i,a)=((lp b 13 (i,a)).1,0):=by rw[<-g]
 rw[h,zZ];exact e
def advN(t:SetTable):Nat->Probe->Probe|0,p=>p|n+1,p=>advN t n (t.advance p)
def kL(t:SetTable):∀(a b:Nat)(p:Probe),advN t (a+b) p=advN t b (advN t a p)|0,b,p=>by rw[YE];rfl|a+1,b,p=>by rw[ac2];exact kL t a b _
structure Vp(t:SetTable)(p:Probe):Prop where
 i:p.i<=t.mask
 pt:p.perturb<2^64more:p.more<=9dm:p.dummy=U
def sE(m i:Nat):adU m i-i<=9:=by unfold adU;split<;>omega
def sI(t:SetTable)(p:Probe):Probe:={p with j:=(leap t.mask p.i p.perturb).1,more:=adU t.mask (leap t.mask p.i p.perturb).1-(leap t.mask p.i p.perturb).1,i:=(leap t.mask p.i p.perturb).1,perturb:=(leap t.mask p.i p.perturb).2}
def vZ(t:SetTable)(p:Probe)(h:p.more=0):t.advance p=sI t p:=by unfold adh sI;rw[if_neg ()]
def Ab(t:SetTable)(p:Probe)(h:0<p.more):t.advance p={p with j:=p.j+1,more:=p.more-1}:=by unfold adh;rw[if_pos h]
def uK(t:SetTable):∀(k:Nat)(p:Probe),p.more=k->advN t (k+1) p=sI t p|0,p,h=>vZ t p h|k+1,p,h=>by show advN t (k+1) (t.advance p)=_;rw[Ab t p (),uK t k _ (by show p.more-1=k;omega)];rfl
def Ac(m i a:Nat)(h:a<2^64):(leap m i a).2<2^64:=Nat.lt_of_le_of_lt (Nat.div_le_self _ _) h
def Vp.leap{t:SetTable}{p:Probe}(v:Vp t p):Vp t (sI t p):=⟨by show(p.i*5+1+p.perturb/32)%(t.mask+1)<=t.mask;exact X5 (aaP _ (ZL t.mask)),(show(acz t.mask p.i p.perturb).2<2^64 from Ac _ _ _ v.pt),(show adU t.mask (acz t.mask p.i p.perturb).1-(acz t.mask p.i p.perturb).1<=9 from sE _ _),v.dm⟩
def Vp.adv{t:SetTable}{p:Probe}(v:Vp t p):Vp t (t.advance p):=by
 by_cases h:0<p.more;·rw[Ab t p h];exact⟨v.i,v.pt,by show p.more-1<=9;have:=v.more;omega,v.dm⟩
 ·rw[vZ t p ()];exact v.leap
def Vp.advN{t:SetTable}:∀(n:Nat){p:Probe},Vp t p->Vp t (advN t n p)|0,p,v=>v|n+1,p,v=>Vp.advN n v.adv
def v4(t:SetTable):∀(r:Nat)(p:Probe),Vp t p->∃n,n<=10*r/\(advN t n p).i=(lp t.mask r (p.i,p.perturb)).1/\(r≠0->(advN t n p).j=(advN t n p).i)
 |0,p,v=>⟨0,by omega,rfl,λh=>absurd rfl h⟩|r+1,p,v=>by
  obtain⟨n,f,e,d⟩:=v4 t r (sI t p) v.leap;refine⟨p.more+1+n,by have:=v.more;omega,?_,λ_=>?_⟩;·rw[kL,uK t p.more p rfl,e];rfl
  · rw[kL,uK t p.more p rfl];by_cases a:r=0
    · subst a;have b:n=0:=by omega
      subst b;rfl
    ·exact d a
structure Tb(t:SetTable)(n:Nat):Prop where
 size:t.place.size=n
 dm:t.dummies=#[]cyc:yr t.mask=L
 room:n<=t.mask
def Ad(j:Nat):has #[] j=D:=by unfold has;simp
def oW{t:SetTable}(T:Tb t b)(j:Nat):t.slot j=.empty\/∃i,t.slot j=.live i/\t.place[i]?=Z j:=by
 unfold SetTable.slot;dsimp!;split;·rename_i h;exact .inr ⟨_,rfl,by simpa using h⟩
 ·rw[T.dm,Ad];exact .inl rfl
def Ae:∀(m:Nat)(l:Nat%0),l.length<=m->∃j,j<=m/\j∉l
 |0,l,h=>⟨0,rl _,by have:l=[]:=Yu.mp ();simp[this]⟩        |m+1,l,h=>by
  by_cases a:(m+1)∈l;·obtain⟨j,e,b⟩:=Ae m (l.erase (m+1)) (by rw[List.length_erase_of_mem a];omega);refine⟨j,by omega,λd=>b ?_⟩;exact(List.mem_erase_of_ne ()).mpr d
  ·exact⟨m+1,rl _,a⟩
def DX{t:SetTable}(T:Tb t b):∃j,j<=t.mask/\t.slot j=.empty:=by
 obtain⟨j,d,a⟩:=Ae t.mask t.place.toList (by simp[T.size,T.room]);refine⟨j,d,?_⟩;rcases oW T j with h|⟨i,h,e⟩;·exact h
 ·exact absurd (X8.mpr (Array.mem_of_getElem? e)) a
def Sa{t:SetTable}(T:Tb t b){p:Probe}(v:Vp t p):∃N,N<10*acW t.mask/\t.slot (advN t N p).j=.empty:=by obtain⟨j,a,d⟩:=DX T;obtain⟨r,h,e⟩:=Aa T.cyc (Iu t.mask 1 (p.i,p.perturb) v.i) (by show(leap t.mask p.i p.perturb).2<2^64;exact Ac _ _ _ v.pt) a (a:=(lp t.mask 1 (p.i,p.perturb)).2);obtain⟨N,i,g,f⟩:=v4 t (1+r) p v;refine⟨N,by unfold acW;omega,?_⟩;rw[f (),g,zY];rw[show lp t.mask 1 (p.i,p.perturb)=((lp t.mask 1 (p.i,p.perturb)).1,(lp t.mask 1 (p.i,p.perturb)).2)from rfl,e];exact d
def first{P:Nat->Prop}[DecidablePred P]:∀(b:Nat),(∃n,n<b/\P n)->∃n,n<b/\P n/\∀k,k<n->¬P k
 |0,⟨n,h,_⟩=>absurd h (Zf _)|b+1,⟨n,h,a⟩=>by
  by_cases q:∃n,n<b/\P n
  ·obtain⟨n,i,g,f⟩:=first b q;exact⟨n,by omega,g,f⟩
  · have d:n=b:=by have:¬n<b:=λz=>q ⟨n,z,a⟩;omega
    subst d;exact⟨n,by omega,a,λk e z=>q ⟨k,e,z⟩⟩
def ND{t:SetTable}(T:Tb t b){p:Probe}(v:Vp t p):∃N,N<10*acW t.mask/\t.slot (advN t N p).j=.empty/\∀k,k<N->t.slot (advN t k p).j≠.empty:=first (P:=λb=>t.slot (advN t b p).j=.empty) _ (Sa T v)
def Gm{t:SetTable}{n:Nat}(T:Tb t n)(a:Nat->Int)(h:Int):∀(N b:Nat)(p:Probe),Vp t p->N<b->t.slot (advN t N p).j=.empty->(∀k,k<N->t.slot (advN t k p).j≠.empty)->abl t a h b p=Z (.empty (advN t N p).j U)\/∃m i,m<N/\t.slot (advN t m p).j=.live i/\t.place[i]?=Z (advN t m p).j/\a i=h/\abl t a h b p=Z (.candidate (advN t m p).j i (advN t (m+1) p))
 |N,0,p,v,e,_,_=>absurd e (Zf _)|0,b+1,p,v,e,f,_=>by refine .inl ?_;unfold abl;rw[show t.slot p.j=.empty from f];show Z (Met.empty p.j p.dummy)=_;rw[v.dm];rfl|N+1,b+1,p,v,e,f,j=>by
  rcases oW T p.j with A|⟨i,g,z⟩;·exact absurd A (j 0 ())
  · by_cases d:a i=h;·refine .inr ⟨0,i,by omega,g,z,d,?_⟩;unfold abl;rw[g];dsimp!;rw[if_pos (by simpa using d)];rfl
    · have o:abl t a h (b+1) p=abl t a h b (t.advance p):=by
       conv=>lhs;unfold abl
       rw[g];dsimp!;rw[if_neg (by simpa using d)]
      rcases Gm T a h N b (t.advance p) v.adv () f (λk H=>j (k+1) ())with q|⟨m,y,E,w,u,s,r⟩;·exact .inl (by rw[o,q];rfl)
      ·exact .inr ⟨m+1,y,by omega,w,u,s,by rw[o,r];rfl⟩
def Ag{t:SetTable}(h:Int):Vp t (t.probeStart h):=⟨by show bits h%(t.mask+1)<=t.mask;exact X5 (aaP _ (ZL t.mask)),by show bits h<2^64;unfold bits;have b:=X2 h (show(2^64:Int)≠0 by decide);have a:=Xi h (show(0:Int)<2^64 by decide);omega,sE _ _,rfl⟩
def sJ{m:Nat}{a:Array (Nat%1)}:∀(b i d:Nat),i<=m->(∃r,r<b/\(a.getD (lp m r (i,d)).1 (Z 0)).isNone=L)->∃j,Z6 m a b i d=Z j/\(a.getD j (Z 0)).isNone=L
 |0,i,d,_,⟨r,h,_⟩=>absurd h (Zf _)|b+1,i,d,n,⟨r,h,e⟩=>by
  unfold Z6;split;·rename_i k f;exact⟨i+k,rfl,by simpa using adF f⟩
  ·rename_i f;cases r with|zero=>have g:0∈uk (adU m i+1-i):=Wf.mpr (by unfold adU;split<;>omega);have:=aaU.mp f 0 g;exact absurd (show(a.getD (i+0) (Z 0)).isNone=L from e) this|succ r=>exact sJ b _ _ (by show(i*5+1+d/32)%(m+1)<=m;exact X5 (aaP _ (ZL m))) ⟨r,by omega,e⟩
def Go:∀(l:Option Nat%0)(j k:Nat),l[j]?=Z U->((l.set j (Z k)).filterMap id).Perm (k::l.filterMap id)
 |[],j,k,h=>by simp at h|x::l,0,k,h=>by
  have:x=U:=by simpa using h
  subst this;simp|x::l,j+1,k,h=>by have a:=Go l j k (by simpa using h);cases x with|none=>simpa using a|some y=>show List.Perm (y::(l.set j (Z k)).filterMap id) (k::y::l.filterMap id);exact(a.cons y).trans (ad0 ..)
def Ah:∀(l:Option Nat%0),(l.filterMap id).length<l.length->∃j,j<l.length/\l[j]?=Z U|[],h=>by simp at h|none::l,h=>⟨0,by simp,rfl⟩|some y::l,h=>by obtain⟨j,b,a⟩:=Ah l (by simpa using h);exact⟨j+1,by simpa using b,by simpa using a⟩
def Iw(m:Nat)(b:(Array (Nat%1)×Nat)%1)(h:Int):(Array (Nat%1)×Nat)%1:=do let(a,k)<-b let j<-Z6 m a (acW m) (bits h%(m+1)) (bits h)pure (a.setIfInBounds j (Z k),k+1)
def Ix(h:Int):bits h<2^64:=by unfold bits;have b:=X2 h (show(2^64:Int)≠0 by decide);have a:=Xi h (show(0:Int)<2^64 by decide);omega
def getD_none{a:Array (Nat%1)}(h:(a.getD b (Z 0)).isNone=L):b<a.size/\a.toList[b]?=Z U:=by rw[YS]at h;cases q:a[b]? with|none=>rw[q]at h;simp at h|some x=>
 rw[q]at h;have d:x=U:=by simpa using h
 subst d;refine⟨(Xm.mp q).1,by rw[XX];exact q⟩
def Ai{m:Nat}(c:yr m=L):∀(b:Int%0)(a:Array (Nat%1))(k:Nat),a.size=m+1->(a.toList.filterMap id).Perm (uk k)->k+b.length<=m->∃d,b.foldl (Iw m) (Z (a,k))=Z (d,k+b.length)/\d.size=m+1/\(d.toList.filterMap id).Perm (uk (k+b.length))
 |[],a,k,f,g,n=>⟨a,rfl,f,g⟩|h::b,a,k,f,g,n=>by
  have z:k+(b.length+1)<=m:=by simpa using n
  obtain⟨p,y,o⟩:=Ah a.toList (by rw[g.length_eq,ZQ];simp![WX,f];omega);have i:p<=m:=by simp![WX,f]at y;omega
  obtain⟨r,E,w⟩:=Aa c (i:=bits h%(m+1)) (a:=bits h) (X5 (aaP _ (ZL m))) (Ix h) i;obtain⟨j,f1,R⟩:=sJ (m:=m) (a:=a) (acW m) (bits h%(m+1)) (bits h) (X5 (aaP _ (ZL m))) ⟨r,by unfold acW;omega,by rw[w,YS];rw[XX]at o;rw[o];rfl⟩;obtain⟨A,q⟩:=getD_none R;have e:Iw m (Z (a,k)) h=Z (a.setIfInBounds j (Z k),k+1):=by show(Z6 m a (acW m) (bits h%(m+1)) (bits h)).bind (λj=>Z (a.setIfInBounds j (Z k),k+1))=_;rw[f1];rfl
  rw[Zh,e];obtain⟨d,v,u,s⟩:=Ai c b (a.setIfInBounds j (Z k)) (k+1) (by rw[Array.size_setIfInBounds];exact f) (by rw[Array.toList_setIfInBounds];refine(Go _ _ _ q).trans ((g.cons k).trans ?_);rw[Zg];exact(aaQ k (uk k)).symm) ();refine⟨d,?_,u,?_⟩;·rw[v];simp![Wb];congr 2;omega
  ·simp![Wb];rw[show k+(b.length+1)=k+1+b.length by omega];exact s
def uL(c:yr b=L)(d:Array Int)(i:d.size<=b):∃f,layClean b d=Z f/\f.size=b+1/\(f.toList.filterMap id).Perm (uk d.size):=by obtain⟨f,o,n,m⟩:=Ai c d.toList (abX (b+1) U) 0 ∅ (by simp[List.filterMap_replicate]) (by simpa using i);refine⟨f,?_,n,by simpa using m⟩;unfold layClean;rw[<-Array.foldl_toList];have e:(acL (λg h=>do let(a,k)<-g let j<-Z6 b a (acW b) (bits h%(b+1)) (bits h)pure (a.setIfInBounds j (Z k),k+1)) (Z (abX (b+1) U,0)) d.toList:(Array (Nat%1)×Nat)%1)=d.toList.foldl (Iw b) (Z (abX (b+1) U,0)):=rfl;rw[e,o];rfl
def v7:∀(l:Option Nat%0)(a:Nat),((uk l.length).filterMap λj=>(l.getD j U).map (λx=>(a+j,x))).map (·.2)=l.filterMap id
 |[],a=>rfl|x::l,a=>by
  rw[Wb,abL,Y9,aaV];have b:=v7 l (a+1);have e:(uk l.length).filterMap ((λj=>((x::l).getD j U).map (λx=>(a+j,x)))∘Nat.succ)=(uk l.length).filterMap λj=>(l.getD j U).map (λx=>(a+1+j,x)):=by congr 1;funext j;show((x::l).getD (j+1) U).map _=_;simp![List.getD_cons_succ];rw[show a+(j+1)=a+1+j by omega]
  rw[e];cases x with|none=>simpa using b|some y=>simp![List.getD_cons_zero,YI,G_];rw[b];rfl
variable{ι:Nat}
def Iy(c:yr b=L)(g:Array Int)(i:g.size<=b):∃t d,laid b j ι δ È g=Z (t,d)/\t.mask=b/\t.moves=ι/\t.led=δ/\t.plain=È/\Tb t g.size/\d.toList.Perm (uk g.size):=by
 obtain⟨h,n,m,k⟩:=uL c g i;have e:=v7 h.toList 0;have f:((uk (b+1)).filterMap λa=>(h.getD a U).map (a,·))=((uk h.toList.length).filterMap λa=>(h.toList.getD a U).map (λx=>(0+a,x))):=by rw[WX,m];congr 1;funext a;rw[YE,YS,YX,XX]
 refine⟨_,_,by unfold laid;rw[n];rfl,rfl,rfl,rfl,rfl,⟨?_,rfl,c,i⟩,?_⟩;·simp![H_,S_];rw[f];have:=congrArg aae e;rw[S_]at this;rw[this,k.length_eq,ZQ]
 ·rw[aar,f,e];exact k
def kN(a:Array θ)(p:Nat)(x:θ)(h:p<=a.size):(insertAt a p x).size=a.size+1:=by unfold insertAt;simp![aa7,Array.size_push,Array.size_extract];omega
def v8(b:Array Nat)(j:Nat):below b j<=b.size:=by
 unfold below;have:∀(a lo d:Nat),lo<=d->d<=b.size->ad_ b j a lo d<=b.size:=by intro a;induction a with|zero=>intro lo d g f;unfold ad_;omega|succ a e=>
  intro lo d g f;unfold ad_;split
  · rename_i h;dsimp!;split;·exact e _ _ () f
    ·exact e _ _ () ()
  ·omega
 exact this _ _ _ (Wm _) (rl _)
def NE{t:SetTable}(T:Tb t b)(h:b+1<=t.mask)(j:Nat):Tb (t.put j).1 (b+1)/\(t.put j).2<=b/\(t.put j).1.mask=t.mask/\(t.put j).1.led=t.led/\(t.put j).1.moves=t.moves:=by
 unfold SetTable.put;refine⟨⟨?_,?_,T.cyc,h⟩,?_,rfl,rfl,rfl⟩;·show(insertAt t.place (below t.place j) j).size=b+1;rw[kN _ _ _ (v8 _ _),T.size]
 ·show(if has t.dummies j then eraseAt t.dummies (below t.dummies j)else t.dummies)=#[];rw[T.dm,Ad];rfl
 ·show below t.place j<=b;rw[<-T.size];exact v8 _ _
abbrev TK(b:n_)(w:y_)(h:O_)(k:Str%0)(a:O):Prop:=IsTupleKey (strKind b w) h k a
abbrev ĵ(a:n_)(w:y_)(k:Str%0):Int:=tupleKeyHash (strKind a w) k
def sK(h:ItemsAre (strKind s r) H ξ):∀v∈ξ,∃x t,v=.str x t:=by induction h with|nil=>intro v a;simp at a|@cons g e f ξ d _ b=>
 intro v a;rcases v_.mp a with rfl|a;·obtain⟨t,rfl⟩:=acp d;exact⟨_,_,rfl⟩
 ·exact b v a
def Aj{Q:Bool->h_->Prop}(j:TK s r f.heap H e)(h:Q D f):w_ (D_ s r) I (ofAClassStatement 8 (.ref e)) Q χ f:=by
 have hT:=j.typeIs;obtain⟨o,items,n,k,_,p,m⟩:=j;unfold ofAClassStatement;refine e_ (Zx hT ?_);show w_ _ _ ((if("tuple"=="tuple")=L then pure L else isSubtype (.type "tuple") (.type "tuple"))>>=_) _ _ f;rw[if_pos #v[]];refine e_ (k_ ?_);simp![YM,x_,if_false];refine e_ (Xx k p ?_);refine e_ ?_;show w_ _ _ (ad1 items _ _) _ _ f;rw[<-Zo];refine YZ _ (λrest a d=>a.1=U/\d=f/\∀v∈rest,∃x t,v=Yp x t) _ ?_ ?_ _ _ ⟨rfl,rfl,sK m⟩;·rintro v rest a d⟨g,rfl,b⟩;obtain⟨x,t,rfl⟩:=b v pi;refine e_ (k_ ?_);simp![x_,if_false];exact k_ ⟨rfl,rfl,λu i=>b u (s_ _ i)⟩
 ·rintro⟨w,q⟩d⟨g,rfl,_⟩;simp only at g;subst g;exact k_ h
def NF(n:TK s r f.heap H e){l:B%0}(p:∀v∈l,∃i a,v=.ref a/\TK s r f.heap i a){Q:Bool->h_->Prop}(h:Q D f):w_ (D_ s r) I (searchCouldBeSeen (.ref e) l) Q χ f:=by
 unfold searchCouldBeSeen;refine e_ ?_;refine YZ _ (λrest b j=>b.1=U/\j=f/\∀v∈rest,∃i a,v=C_ a/\TK s r f.heap i a) _ ?_ ?_ _ _ ⟨rfl,rfl,p⟩
 · rintro v rest b j⟨k,rfl,g⟩;obtain⟨i,a,rfl,o⟩:=g v pi;have d:∀v∈rest,∃i a,v=C_ a/\TK s r j.heap i a:=λu m=>g u (s_ _ m);dsimp!;split;·exact k_ ⟨rfl,rfl,d⟩
   ·refine e_ (abY n ?_);simp![YM,x_,if_false];refine e_ (abY o ?_);simp![YM,x_,if_false];refine e_ (Aj n ?_);simp![x_,if_false];refine e_ (Aj o ?_);simp![x_,if_false];exact k_ ⟨rfl,rfl,d⟩
 ·rintro⟨w,q⟩j⟨k,rfl,_⟩;simp only at k;subst k;exact k_ h
def Z'(b:n_)(w:y_)(h:O_)(d:(Str%0)%0)(f:(Int×B)%0):Prop:=∀e∈f,∃k a,k∈d/\e.2=.ref a/\TK b w h k a
def qk{t:SetTable}(T:Tb t b):t.fits b=L:=by unfold SetTable.fits ad6;rw[T.size,T.dm];simp[T.room]
def Al{o:Array (Int×B)}{t:SetTable}{ks:(Str%0)%0}{Q:SetFound->h_->Prop}(hu:I.units<cLine)(ho:f.heap.get? e=Z Å)(hd:Å.data=.set o b t)(T:Tb t o.size)(hm:t.mask%2=1)(hE:Z' s r f.heap ks o.toList)(hx:TK s r f.heap H z)(hk:H∉ks):∀(N k:Nat)(st:Probe%1),(∀p,st=Z p->Vp t p)->N<k->t.slot (advN t N (st.getD (t.probeStart m))).j=.empty->(∀d,d<N->t.slot (advN t d (st.getD (t.probeStart m))).j≠.empty)->N<10*acW t.mask->(∀j,Q (.free j D) f)->w_ (D_ s r) I (abb e (.ref z) m δ k st) Q χ f:=by intro N;induction N using Nat.strongRecOn with|_ N ih=>intro k st hv hf he hn hN hQ;cases k with|zero=>exact absurd hf (Zf _)|succ k=>
 have w:=qk T;have v:Vp t (st.getD (t.probeStart m)):=by cases st with|none=>exact Ag m|some p=>exact hv p rfl
 unfold abb;refine e_ (YR ho hd w ?_);dsimp!;have e':t.gaveWay=D:=by unfold SetTable.gaveWay;rw[hm];rfl
 rw[e'];simp![x_,if_false];unfold SetTable.probe;rcases Gm T _ m N _ (st.getD (t.probeStart m)) v hN he hn with q|⟨d,i,m',q1,q2,q3,q5⟩;·rw[q];dsimp!;exact k_ (hQ _)
 · rw[q5];dsimp!;have hi:i<o.size:=by have:=(Xm.mp q2).1;rw[T.size]at this;exact this
   obtain⟨k',a,d',ea,ta⟩:=hE o[i] (X8.mpr (Array.getElem_mem hi));have hg:o[i]?=Z (o[i].1,.ref a):=by rw[Array.getElem?_eq_getElem hi,<-ea]
   have rest:w_ (D_ s r) I (do
    let Z (_,y):=o[i]?|adt "internal:set-entry"
    let n<-Zd [y] (eqBool y (.ref z))let(h',_,t')<-setState e if(δ&&n)=L then return SetFound.there U
    let Z same:=t'.sameMemory t.moves t.mask|adt "set.changed-during-lookup:is-the-new-block-at-the-old-address"
    let A<-match(if same then t'.slot (advN t d (st.getD (t.probeStart m))).j else .empty)with
     |.live i'=>match h'[i']? with|some (_,y')=>do pure (if<-isSame y' y then Z i' else U)|none=>pure U
     |_=>pure U
    match A with|none=>rule "set.search.anew";abb e (.ref z) m δ k U|some i'=>if n then return .there (Z i')else abb e (.ref z) m δ k (Z (advN t (d+1) (st.getD (t.probeStart m))))) Q χ f:=by
    rw[hg];dsimp!;refine e_ (WN (wpAny_eqBool_tuple hu ta hx ?_));have c':o_ (k'=H)=D:=decide_eq_false λh=>hk (h▸d');rw[c'];refine e_ (YR ho hd w ?_);dsimp!;rw[aci];simp![x_,if_false];have b':t.sameMemory t.moves t.mask=Z L:=by unfold SetTable.sameMemory;simp
    rw[b'];dsimp!;rw[if_pos rfl,q1];dsimp!;rw[hg];dsimp!;have E:isSame (C_ a) (C_ a)=pure L:=by unfold isSame;dsimp!;rw[if_pos ∅]
    rw[E];refine e_ (e_ (k_ (k_ ?_)));rw[if_pos rfl];refine ih (N-(d+1)) () k (Z (advN t (d+1) (st.getD (t.probeStart m)))) (λp hp=>by cases hp;exact Vp.advN (d+1) v) () ?_ ?_ () hQ;·show t.slot (advN t (N-(d+1)) (advN t (d+1) (st.getD (t.probeStart m)))).j=.empty;rw[<-kL,show d+1+(N-(d+1))=N by omega];exact he
    ·intro x l';show t.slot (advN t x (advN t (d+1) (st.getD (t.probeStart m)))).j≠.empty;rw[<-kL];exact hn _ ()
   by_cases u:t.led=L;·rw[u];simp![YM,x_,if_false];exact rest
   · have a':t.led=D:=by simpa using u
     rw[a'];simp![ZT,if_true];refine e_ (NF hx (λv hv=>?_) ?_)
     · obtain⟨g,g',rfl⟩:=U_.mp hv;have f':g∈o.toList:=by have:=X8.mp g';rw[Array.mem_filter]at this;exact X8.mpr this.1
       obtain⟨k2,a2,_,e2,t2⟩:=hE g f';exact⟨k2,a2,e2,t2⟩
     ·simp![x_,if_false];exact rest
abbrev Ŝ(w:y_):Bool:=w.params.followText "set-order"
def Mk(m n:Nat):Prop:=(m=7/\n<=4)\/(m=31/\n<=18)\/(m=127/\n<=20)
def Ġ(a:n_)(w:y_)(h:O_)(S:O)(d:(Str%0)%0)(e:B%0)(n:Nat):Prop:=∃o b f t,h.get? S=Z o/\o.ExactSet/\o.data=.set b f t/\b.size=n/\Tb t n/\Mk t.mask n/\Z' a w h d b.toList/\(b.toList.map (·.2)).Perm e/\t.led=(!Ŝ w)/\((∀k∈d,k≠[])->n≠0->t.plain=D)
def uM{Q:Bool->h_->Prop}(m:TK s r f.heap H e)(h:∀b,(H≠[]->b=D)->Q b f):w_ (D_ s r) I (hashByValue 8 (.ref e)) Q χ f:=by
 have hT:=m.typeIs;obtain⟨o,items,n,p,_,q,k⟩:=m;have w:items.toList=[]->H=[]:=λd=>by rw[d]at k;cases k;rfl
 unfold hashByValue;refine e_ (wpAny_specialOf hT F.slot_tuple_hash.lookup ?_);dsimp!;refine e_ (Xx p q ?_);refine e_ ?_;show w_ _ _ (ad1 items _ _) _ _ f;rw[<-Zo];refine YZ _ (λrest a i=>a.1=U/\i=f/\(∀v∈rest,∃x t,v=Yp x t)/\(rest=[]->H=[])) _ ?_ ?_ _ _ ⟨rfl,rfl,sK k,w⟩;·rintro v rest a i⟨j,rfl,g,_⟩;obtain⟨x,t,rfl⟩:=g v pi;refine e_ (k_ ?_);simp![ZT,if_true];refine k_ ?_;exact k_ (h _ λ_=>rfl)
 ·rintro⟨A,y⟩i⟨j,rfl,_,u⟩;simp only at j;subst j;exact k_ (h _ λz=>absurd (u rfl) z)
def TK.keeps{g:O_}{o p t}(x:TK s r Q H e)(i:Q.get? z=Z Å)(k:Å.data=.set o p t)(h:X4 z Q g):TK s r g H e:=by
 obtain⟨f,items,n,b,m,a,j⟩:=x;have d:e≠z:=by rintro rfl;obtain rfl:f=Å:=Wj (b.symm.trans i);rw[k]at a;exact nomatch a
 exact⟨f,items,n,(h.2 e d).trans b,m,a,j⟩
def Z'.keeps{f:O_}{d:(Str%0)%0}{l:(Int×B)%0}{p q t}(x:Z' s r Q d l)(h:Q.get? e=Z Å)(j:Å.data=.set p q t)(g:X4 e Q f):Z' s r f d l:=λb i=>by obtain⟨k,a,o,n,m⟩:=x b i;exact⟨k,a,o,n,m.keeps h j g⟩
def sL{h a:Array (Int×B)}{t d:SetTable}(g:Q.get? e=Z Å)(f:Å.data=.set h b t):(Q.update e (aaK a d)).get? e=Z {Å with data:=.set a (b+1) d}:=by have:=YO (aaK a d) g (by rw[putSet_of a d f];rfl);rw[putSet_of a d f]at this;exact this
def Z'.insert{h:(Str%0)%0}{g:Array (Int×B)}(n:Z' s r Q h g.toList)(k:TK s r Q H e):Z' s r Q (H::h) (V9 g b (m,.ref e)).toList:=λd j=>by
 have f:=(abE g b (m,C_ e)).mem_iff.mp j;rw[ac9]at f;rcases V8.mp f with q|q;·obtain⟨i,a,u,p,o⟩:=n d q;exact⟨i,a,s_ _ u,p,o⟩
 ·rw[V5]at q;subst q;exact⟨H,e,pi,rfl,k⟩
def An{t:SetTable}(T:Tb t b):t.fill=b:=by unfold ad6;rw[T.size,T.dm];simp
def oX(h:b<=20):b<=sizeLine:=by rw[Zq];omega
def DY(a:Array θ):(uk a.size).filterMap (λi=>a[i]?)=a.toList:=by
 refine ac6 ?_;intro i;have:(uk a.size).filterMap (λi=>a[i]?)=(uk a.size).pmap (λi h=>a[i]) (λi h=>Wf.mp h):=by
  rw[List.pmap_eq_map_attach,<-List.filterMap_eq_map];conv=>lhs;rw[<-List.attach_map_subtype_val (uk a.size)]
  rw[aaV];congr 1;funext⟨i,b⟩;simp[Wf.mp b]
 rw[this];simp[List.getElem?_pmap,Y8];by_cases b:i<a.size;·simp[b]
 ·simp[b]
def Iz{d:Array Int}{t:SetTable}{a:Array Nat}(e:laid b j ι δ È d=Z (t,a)):t.led=δ/\t.plain=È:=by unfold laid at e;cases f:layClean b d with|none=>rw[f]at e;cases e|some o=>rw[f]at e;cases e;exact⟨rfl,rfl⟩
def NG{ks:(Str%0)%0}{Q:Bool->h_->Prop}(hu:I.units<cLine)(hS:Ġ s r f.heap e ks ξ b)(hx:TK s r f.heap H z)(hk:H∉ks)(hn:b+1<=20)(h:∀h',X4 e f.heap h'->Ġ s r h' e (H::ks) (.ref z::ξ) (b+1)->Q L {f with heap:=h'}):w_ (D_ s r) I (setAddHashed e (.ref z) (ĵ s r H)) Q χ f:=by
 obtain⟨o,n,ep,t,ho,hex,hd,v,T,hm,hE,n',c',r'⟩:=hS;have l':=qk T;have y:t.fits n.size=L:=by rw[v];exact l'
 have k':t.mask%2=1:=by rcases hm with⟨a,_⟩|⟨a,_⟩|⟨a,_⟩<;>rw[a]
 have g':b+1<=t.mask:=by rcases hm with⟨a,q⟩|⟨a,q⟩|⟨a,q⟩<;>omega
 unfold setAddHashed setAddHashedIn;refine WN (e_ (YR ho hd y ?_));dsimp!;have p':byScan (C_ z) n=D:=by unfold byScan;rfl
 rw[p'];simp![x_,if_false];unfold setSearch;obtain⟨N,h1,h2,h3⟩:=ND T (Ag (t:=t) (ĵ s r H));have s':t.mask<=127:=by rcases hm with⟨a,_⟩|⟨a,_⟩|⟨a,_⟩<;>omega
 refine e_ (Al (ks:=ks) hu ho hd (by rw[v];exact T) k' hE hx hk N 100000 U (λp hp=>by cases hp) (by unfold acW at h1;omega) h2 h3 h1 λj=>?_);dsimp!;refine e_ (YR ho hd y ?_);dsimp!;obtain⟨P1,P2,P3,P4,P5⟩:=NE T g' j;have b':((V9 n (t.put j).2 (ĵ s r H,C_ z)).toList.map (·.2)).Perm (.ref z::ξ):=by refine((abE n (t.put j).2 (ĵ s r H,C_ z)).map (·.2)).trans ?_;rw[ac9,WU];exact(n'.append_right _).trans (aaQ _ _)
 have go:∀E:Bool,((∀x∈H::ks,x≠[])->(if E then(t.put j).1 else{(t.put j).1 with plain:=D}).plain=D)->w_ (D_ s r) I (do
  storeSet e (V9 n (t.put j).2 (ĵ s r H,.ref z)) (if E then(t.put j).1 else{(t.put j).1 with plain:=D})if(!D&&(if E then(t.put j).1 else{(t.put j).1 with plain:=D}).tooFull)=L then setRelay e (ab9 (n.size+1))
  return L) Q χ f:=by
  intro E f';have T2:∃g,(if E then(t.put j).1 else{(t.put j).1 with plain:=D})=g/\Tb g (b+1)/\g.mask=t.mask/\g.led=t.led:=by cases E with|true=>exact⟨_,rfl,P1,P3,rfl⟩|false=>exact⟨_,rfl,⟨P1.size,P1.dm,P1.cyc,P1.room⟩,P3,rfl⟩
  obtain⟨g,e2,T2,M2,L2⟩:=T2;rw[e2]at f'⊢;have k:(V9 n (t.put j).2 (ĵ s r H,C_ z)).size=b+1:=by rw[kN _ _ _ (by rw[v];exact P2),v]
  refine e_ (wpAny_storeSet_of ho hd ?_ (by rw[k];exact oX hn));have d':=XH f.heap e (aaK (V9 n (t.put j).2 (ĵ s r H,C_ z)) g);have hg:=sL (a:=V9 n (t.put j).2 (ĵ s r H,C_ z)) (d:=g) ho hd;have i':Z' s r (f.heap.update e (aaK (V9 n (t.put j).2 (ĵ s r H,C_ z)) g)) (H::ks) (V9 n (t.put j).2 (ĵ s r H,C_ z)).toList:=(hE.insert hx).keeps ho hd d';by_cases hf:g.tooFull=L
  · rw[hf];simp![ZT,Bool.and_self,if_true];have A:g.fill*5>=g.mask*3:=by unfold adg at hf;simpa using hf
    rw[An T2,M2]at A;have h5:b=4\/b=18:=by rcases hm with⟨a,q⟩|⟨a,q⟩|⟨a,q⟩<;>rw[a]at A<;>omega
    obtain⟨M,hM,cM,lM,kM⟩:∃M,sizeAbove (ab9 (b+1))-1=M/\yr M=L/\b+1<=M/\Mk M (b+1):=by
     rcases h5 with rfl|rfl;·exact⟨31,by decide,R9,by decide,.inr (.inl ⟨rfl,by decide⟩)⟩
     ·exact⟨127,by decide,NA,by decide,.inr (.inr ⟨rfl,by decide⟩)⟩
    unfold setRelay;refine e_ (e_ (YR hg rfl (by rw[k];exact qk T2) ?_));dsimp!;rw[v];rw[if_neg (by rw[Zq];rcases h5 with a|a<;>rw[a]<;>decide)];have m':g.relaid ((V9 n (t.put j).2 (ĵ s r H,C_ z)).map (·.1)) (ab9 (b+1))=laid M g.finger (g.movedTo M) g.led g.plain ((V9 n (t.put j).2 (ĵ s r H,C_ z)).map (·.1)):=by unfold SetTable.relaid;rw[hM]
    obtain⟨t3,m,r1,r2,r3,r4,r5,r6,r7⟩:=Iy (j:=g.finger) (ι:=g.movedTo M) (δ:=g.led) (È:=g.plain) cM ((V9 n (t.put j).2 (ĵ s r H,C_ z)).map (·.1)) (by rw[ZU,k];omega);have r8:t3.led=g.led/\t3.plain=g.plain:=Iz r1;rw[m',r1];rw[ZU,k]at r6 r7;have u:(m.filterMap (λi=>(V9 n (t.put j).2 (ĵ s r H,C_ z))[i]?)).toList.Perm (V9 n (t.put j).2 (ĵ s r H,C_ z)).toList:=by rw[Array.toList_filterMap];refine(r7.filterMap _).trans ?_;rw[<-k,DY]
    have w:(m.filterMap (λi=>(V9 n (t.put j).2 (ĵ s r H,C_ z))[i]?)).size=b+1:=by rw[<-WX,u.length_eq,WX,k]
    show w_ (D_ s r) I ((if((m.filterMap (λi=>(V9 n (t.put j).2 (ĵ s r H,C_ z))[i]?)).size !=(V9 n (t.put j).2 (ĵ s r H,C_ z)).size)=L then(adt "internal:set-table-lost-an-element":Sem _)else pure (m.filterMap (λi=>(V9 n (t.put j).2 (ĵ s r H,C_ z))[i]?),t3))>>=λx=>storeSet e x.1 x.2) _ _ _;rw[if_neg (by rw[w,k];simp)];refine e_ (k_ ?_);refine wpAny_storeSet_of hg rfl ?_ (by rw[w];exact oX hn);have a':=XH (f.heap.update e (aaK (V9 n (t.put j).2 (ĵ s r H,C_ z)) g)) e (aaK (m.filterMap (λi=>(V9 n (t.put j).2 (ĵ s r H,C_ z))[i]?)) t3);refine k_ (h _ (d'.trans a') ⟨_,_,_,t3,sL hg rfl,hex,rfl,w,r6,by rw[r2];exact kM,?_,(u.map (·.2)).trans b',r8.1.trans (L2.trans c'),λd _=>r8.2.trans (f' d)⟩);have q':=i'.keeps hg rfl a';exactλa he=>q' a (u.mem_iff.mp he)
  · have e':g.tooFull=D:=by simpa using hf
    rw[e'];simp![ZT,aci,x_,if_false];have A:¬(g.fill*5>=g.mask*3):=by unfold adg at e';simpa using e'
    rw[An T2,M2]at A;refine k_ (h _ d' ⟨_,_,_,g,hg,hex,rfl,k,T2,?_,i',b',L2.trans c',λd _=>f' d⟩);rw[M2];rcases hm with⟨a,q⟩|⟨a,q⟩|⟨a,q⟩;·exact .inl ⟨a,by omega⟩
    ·exact .inr (.inl ⟨a,by omega⟩)
    ·exact .inr (.inr ⟨a,hn⟩)
 cases o':(t.put j).1.plain with|true=>simp![if_true];refine e_ (uM hx λE hb=>?_);refine go E λd=>?_;rw[hb (d H pi)];rfl|false=>simp![x_,if_false];refine e_ (k_ ?_);exact go L λ_=>o'
def TK.moved{d:O_}(x:TK s r Q H e)(g:∀o,Q.get? e=Z o->d.get? e=Z o):TK s r d H e:=by obtain⟨f,items,n,a,i,b,h⟩:=x;exact⟨f,items,n,g _ a,i,b,h⟩
def Ġ.moved{g:O_}{f:(Str%0)%0}(x:Ġ s r Q e f ξ b)(v:∀o,Q.get? e=Z o->g.get? e=Z o)(p:∀k∈f,∀a,TK s r Q k a->TK s r g k a):Ġ s r g e f ξ b:=by obtain⟨o,A,E,t,n,hex,u,h,T,i,w,m⟩:=x;exact⟨o,A,E,t,v _ n,hex,u,h,T,i,λd q=>let⟨k,a,j,z,y⟩:=w d q;⟨k,a,j,z,p k j a y⟩,m⟩
def Sb{R:aca->h_->Prop}{E:O%0}{G:Array adX->Array adX->Prop}{P:Nat->B->Prop}{St:Nat->h_->Prop}(W:WalksS s r I.in1 e υ E G b P St)(S:O)(e':S∉υ)(hu:I.in1.units<cLine)(q':E=[e])(hI:∀i d,St i d->∃o vs,d.heap.get? e=Z o/\o.data=.fields vs)(n:Nat->O)(m:Nat->Str%0)(g':∀i v,P i v->v=.ref (n i))(hn:b<=20)(a':∀i j,i<b->j<b->m i=m j->i=j):∀(k i:Nat)(d:h_),b-i=k->i<=b->St i d->(∀j,j<b->TK s r d.heap (m j) (n j))->Ġ s r d.heap S (((uk i).map m).reverse) (((uk i).map λj=>C_ (n j)).reverse) i->(∀u,Moved (S::E) G d u->Ġ s r u.heap S (((uk b).map m).reverse) (((uk b).map λj=>C_ (n j)).reverse) b->R (.ok (.ret .none)) u)->Yl (D_ s r) I (.builtin "set.update.loop" ⟨[.ref S,.ref e],[]⟩) R d:=by
 have d':S∉E:=λh=>e' (W.sub _ h);have A:∀f∈E,f∈S::E:=λf hb=>s_ _ hb;have z:∀{i:Nat}{d:h_}{k:Str%0}{a:O},St i d->TK s r d.heap k a->a∉E:=λ{i d k a}p x q=>by rw[q',V5]at q;subst q;obtain⟨o',items,b,b',hc,c',hi⟩:=x;obtain⟨o,vs,w,hd⟩:=hI _ _ p;rw[w]at b';cases b';rw[hd]at c';cases c'
 intro k;induction k with|zero=>
 intro i d hk hi p hT hS hR;have t':i=b:=by omega
 subst t';refine Ze abu ?_;rw[aac Zs _];show w_ _ I.in1 (ů (.ref e)>>=_) _ _ d;refine e_ (W.done d _ _ p λu q=>?_);show w_ _ I.in1 (ret J_) _ _ u;exact k_ (hR u (q.mono A) (hS.moved (λo w=>q.heap S _ d' w) λk' _ a x=>x.moved λo w=>q.heap a _ (z p x) w))|succ k ih=>
 intro i d hk hi p hT hS hR;have y:i<b:=by omega
 refine Ze abu ?_;rw[aac Zs _];show w_ _ I.in1 (ů (.ref e)>>=_) _ _ d;refine e_ (W.item i d _ _ y p λv u hP i' q=>?_);have hv:=g' i v hP;subst hv;have Q:∀j,j<b->TK s r u.heap (m j) (n j):=λj hj=>(hT j hj).moved λo w=>q.heap _ _ (z p (hT j hj)) w;have f':Ġ s r u.heap S (((uk i).map m).reverse) (((uk i).map λj=>C_ (n j)).reverse) i:=hS.moved (λo w=>q.heap S _ d' w) λk' _ a x=>x.moved λo w=>q.heap a _ (z p x) w;show w_ _ I.in1 (Zd [C_ (n i)] (setAdd S (.ref (n i)))>>=_) _ _ u;refine e_ (WN ?_);unfold setAdd;refine WN ?_;refine e_ (wpAny_pyHash_tuple hu (Q i y) ?_);have l':m i∉((uk i).map m).reverse:=λq=>by rw[List.mem_reverse]at q;obtain⟨j,hj,g⟩:=U_.mp q;have x':=Wf.mp hj;have:=a' j i () y g;omega
 refine NG (f:={u with toks:=u.toks+((m i).length+1)}) hu f' (Q i y) l' () λh' H w'=>?_;obtain⟨oS,y',z',tS,r',_,u',_⟩:=f';have v':Ġ s r h' S (((uk (i+1)).map m).reverse) (((uk (i+1)).map λj=>C_ (n j)).reverse) (i+1):=by rw[Zg,WU,act,WU,act];exact w'
 refine k_ ⟨plainId_quiet Zs _,ih (i+1) _ () y (W.frame _ u _ _ i' ∅ λf hb o g=>?_) (λj hj=>(Q j hj).keeps r' u' H) v' λp' m' n'=>?_⟩;·rw[H.2 f (λh:f=S=>e' (by rw[<-h];exact hb))];exact g
 ·refine hR p' (Moved.trans W.gtrans ((q.mono A).then_heap ∅ λf o hb g=>?_) m') n';rw[H.2 f (λh:f=S=>hb (by rw[h];exact pi))];exact g
abbrev wa(a:Bool):Obj:={cls:=.type "set",dict:=U,data:=.set #[] 0 (.fresh 0 0 a)}
def IA(a:Q.get? e=Z (wa (!Ŝ r))):Ġ s r Q e [] [] 0:=⟨_,#[],0,_,a,⟨rfl,rfl,rfl⟩,rfl,rfl,⟨rfl,rfl,Vs,Wm _⟩,.inl ⟨rfl,by omega⟩,(λa b=>by simp at b),.refl _,rfl,λ_ z=>absurd rfl z⟩
def IB(a:B){b:B->h_->Prop}(h:b (.ref f.heap.objs.size) {f with heap:=f.heap.push (wa (!Ŝ r))}):Yl (D_ s r) I (.call (.builtin "set.__new__") ⟨[.type "set",a],[]⟩) (wants b χ) f:=by refine codeAny_of_tree ?_;show w_ _ I.in1 (do checkBuiltinCall "set.__new__" ⟨[.type "set",a],[]⟩;again (.builtin "set.__new__" ⟨[.type "set",a],[]⟩)) _ _ f;refine e_ (adq (F.newCall_set_1 a) (k_ ⟨plainId_quiet F.plain_set_new _,Ze F.entry_set_new ?_⟩));rw[aac F.plain_set_new _];unfold XV.«set.__new__»adY;have e:=sub_set_self;obtain⟨j,g,d,i,os⟩:=f;dsimp!;wp_walk;refine wpAny_askSetting (k_ ?_);dsimp!;simp![newObj];exact e_ (wpAny_alloc (k_ (k_ h)))
def NH{g:Array B}{h:Nat->Str%0}{m:Nat->O}{R:aca->h_->Prop}(hh:I.handled=U)(hu:I.units+8<cLine)(hl:f.heap.IsList e g)(hk:∀i,i<g.size->g[i]?=Z (.ref (m i))/\TK s r f.heap (h i) (m i))(hn:g.size<=20)(q:∀i j,i<g.size->j<g.size->h i=h j->i=j)(hR:∀(u:O_)(tk:Nat),Ġ s r u f.heap.objs.size (((uk g.size).map h).reverse) (((uk g.size).map λj=>C_ (m j)).reverse) g.size->(∀b o,b<f.heap.objs.size->f.heap.get? b=Z o->u.get? b=Z o)->R (.ok (.ret .none)) {f with heap:=u,toks:=tk}):Yl (D_ s r) I (.call (.builtin "set.__init__") ⟨[.ref f.heap.objs.size,.ref e],[]⟩) R {f with heap:=f.heap.push (wa (!Ŝ r))}:=by
 have hS:(f.heap.push (wa (!Ŝ r))).get? f.heap.objs.size=Z (wa (!Ŝ r)):=xy _ rfl;have hT:ad5 {f with heap:=f.heap.push (wa (!Ŝ r))} (.ref f.heap.objs.size) "set":=⟨_,hS,rfl⟩;refine Z9 YB.init.plain F.entry_set_init (check_set_init_1 hT ?_);obtain⟨ol,w,E,nl,A⟩:=hl;obtain⟨m',p,l',n⟩:=ol;simp only at E A;subst E;subst A;have H:(f.heap.push (wa (!Ŝ r))).get? e=Z {cls:=.type "list",dict:=p,data:=.seq g nl,slots:=n}:=l_ _ w;have s1:=F.sub_list_set;have s2:=F.sub_list_frozenset;have s3:(r_ "list"==r_ "dict")=D:=by decide
 have z:(f.heap.push (wa (!Ŝ r))).IsList e g:=⟨_,H,rfl,nl,rfl⟩;unfold XV.«set.__init__»noKeywords adD;generalize k':pyIter=PI;wp_walk;subst k';refine Zy z (e_ (wpAny_runValue ?_));have y:e<f.heap.objs.size:=z_ w;have Q:e≠(f.heap.push (wa (!Ŝ r))).objs.size:=by rw[WB];exact V7 (aa4 y)
 have f':f.heap.objs.size∉[(f.heap.push (wa (!Ŝ r))).objs.size,e]:=by rw[WB];simp![v_,M_,or_false,not_or];exact⟨V7 (abv _),Y3 y⟩
 have up:∀{k:Str%0}{a:O},TK s r f.heap k a->TK s r ((f.heap.push (wa (!Ŝ r))).push {cls:=.type "list_iterator",data:=.fields #[.ref e,.int 0 0]}) k a:=λx=>x.moved λo d=>l_ _ (l_ _ d);refine Sb ((adS (by simp[hh]) _ e Q g).toS) f.heap.objs.size f' (by show I.units+1+1<cLine;omega) rfl (λi s' st=>by obtain⟨⟨o,ho,_,hd⟩,_⟩:=st;exact⟨o,_,ho,hd⟩) m h (λi v hv=>?_) hn q (g.size-0) 0 _ () (Wm _) ⟨⟨_,xy _ rfl,rfl,rfl⟩,(z.push _)⟩ (λj hj=>up (hk j hj).2) ?_ ?_;·have hi:i<g.size:=(Xm.mp hv).1;have:=(hk i hi).1;rw[this]at hv;exact(Wj hv).symm
 ·exact IA (l_ _ hS)
 · intro s' hm i';obtain⟨u,g',d',a',b'⟩:=s';have eg:g'=f.gens:=hm.gens;have ed:d'=f.drawn:=hm.drawn;have eo:b'=f.os:=hm.os;subst eg;subst ed;subst eo;show w_ _ _ _ _ _ _;refine k_ ?_;show w_ _ _ (ret J_) _ _ _;refine k_ (hR u a' i' λb o hb d=>?_);have e':b≠f.heap.objs.size:=V7 hb;have c':b≠(f.heap.push (wa (!Ŝ r))).objs.size:=by rw[WB];exact V7 (aa4 hb)
   exact hm.heap b o (by simp![v_,M_,or_false,not_or];exact⟨e',c'⟩) (l_ _ (l_ _ d))
def call_set_T{g:Array B}{m:Nat->Str%0}{p:Nat->O}(hh:I.handled=U)(hu:I.units+16<cLine)(hl:f.heap.IsList e g)(hk:∀i,i<g.size->g[i]?=Z (.ref (p i))/\TK s r f.heap (m i) (p i))(hn:g.size<=20)(v:∀i j,i<g.size->j<g.size->m i=m j->i=j)(h:∀(n:O_)(y:Nat),Ġ s r n f.heap.objs.size (((uk g.size).map m).reverse) (((uk g.size).map λj=>C_ (p j)).reverse) g.size->(∀b o,b<f.heap.objs.size->f.heap.get? b=Z o->n.get? b=Z o)->Î (.ref f.heap.objs.size) {f with heap:=n,toks:=y}):w_ (D_ s r) I (call (.type "set") [.ref e]) Î χ f:=by
 obtain⟨c,tl,c'⟩:=YB.mro;have a':=YB.made;have b':=YB.sub;refine ZY (codeAny_of_tree ?_);show w_ _ _ (callAny (.type "set") _) _ _ _;refine k_ ⟨acI _ (by decide+kernel),Ze F.entry_type_call ?_⟩;rw[Around.under_plain (weight_type_call_type "set" [.ref e] []) rfl];have h1:=YB.notType;have h2:=YB.canCreate;have e':=F.typeCall_set_1 (.ref e);repeat(any_goals(first|assumption|wp_step))
 refine Yz (IB (.ref e) (χ:=χ) (b:=λz u=>z=.ref f.heap.objs.size/\u={f with heap:=f.heap.push (wa (!Ŝ r))}) ⟨rfl,rfl⟩) λa u E=>?_;cases a with|error d=>exact E|ok fl=>cases fl with
 |ret z=>
  obtain⟨rfl,rfl⟩:=E;have hT:ad5 {f with heap:=f.heap.push (wa (!Ŝ r))} (.ref f.heap.objs.size) "set":=⟨_,xy _ rfl,rfl⟩;have d':=YB.init.lookup;have f':=YB.init.bind (.ref f.heap.objs.size);repeat(any_goals(first|assumption|wp_step))
  refine Yz (NH (R:=wants (λa q=>a=.none/\∃n y,q={f with heap:=n,toks:=y}/\Ġ s r n f.heap.objs.size (((uk g.size).map m).reverse) (((uk g.size).map λj=>C_ (p j)).reverse) g.size/\(∀b o,b<f.heap.objs.size->f.heap.get? b=Z o->n.get? b=Z o)) χ) (by simp[hh]) (by show I.units+1+8<cLine;omega) hl hk hn v λn y q1 q2=>⟨rfl,n,y,rfl,q1,q2⟩) λA q k=>?_;cases A with|error d=>exact k|ok w=>cases w with
  |ret a=>
  obtain⟨rfl,n,y,rfl,Q,H⟩:=k;repeat(any_goals(first|assumption|wp_step))
  exact h _ _ Q H|_=>exact k.elim
 |_=>exact E.elim
def len_T{g:(Str%0)%0}(k:Ġ s r f.heap e g ξ b)(p:b<=20)(h:∀t d,Î (.int b t) {f with toks:=d}):w_ (D_ s r) I (call (.builtin "len") [.ref e]) Î χ f:=by obtain⟨o,m,v,t,i,hex,j,a,T,q,u,n⟩:=k;subst a;exact call_len_set i hex j (qk T) (Int.lt_of_le_of_lt (show((m.size:Nat):Int)<=20 by omega) #v[]) (h _ _)
end ST
variable{ι:Nat}
namespace FD
open L2
def du:N%0->(Str%0)%1|[]=>Z []|.str x::r=>(du r).map (x::·)|_=>U
def mY:N%0->((Str%0)%0)%1
 |[]=>Z []|.tup ds::r=>match du ds,mY r with|some k,Z a=>Z (k::a)|_,_=>U
 |_=>U
def mZ:ß
 |[.lst ds]=>match mY ds with|some a=>if a.Nodup/\a.length<=20 then .int a.length%3 else U|none=>U
 |_=>U
def oY{X:C}{H:Hp}{d:n_}{w:y_}:∀{ds:N%0}{k:Str%0}{b:V%0}{a:B%0},du ds=Z k->S X.K H ds b->Ú b a->adW (acw d w) k a
 |[],k,b,a,h,r,v=>by cases h;cases(show b=[]from r);cases v;exact .nil|.str x::ds,k,b,a,h,r,v=>by obtain⟨y,us,rfl,i,g⟩:∃v us,b=v::us/\Ü X.K H (.str x) v/\S X.K H ds us:=r;cases(show y=.str x from i);obtain⟨m,j,rfl⟩:=XJ.mp (show(du ds).map (x::·)=Z k from h);cases v with|cons f e=>obtain⟨t,rfl⟩:=f;exact .cons (by show Y_ x (.str x t)=L;simp[Y_]) (oY j g e)
 |.non::ds,k,b,a,h,r,v=>by cases h|.bl _::ds,k,b,a,h,r,v=>by cases h|.int _::ds,k,b,a,h,r,v=>by cases h|.tup _::ds,k,b,a,h,r,v=>by cases h|.lst _::ds,k,b,a,h,r,v=>by cases h|.scr _::ds,k,b,a,h,r,v=>by cases h|.exn _::ds,k,b,a,h,r,v=>by cases h|.obj _ _::ds,k,b,a,h,r,v=>by cases h
def Sd(I:Õ a ε Ι h f){j:N%0}{k:Str%0}{v:V}{u:B}(g:du j=Z k)(r:Ü a.K h (.tup j) v)(q:â v u):∃b,u=.ref b/\ST.TK a.prog a.w f.heap k b:=by obtain⟨b,w,rfl,s,p⟩:=r.tupE;cases(show u=C_ b from q);obtain⟨i,m,⟨o,e,c,n,d⟩,y⟩:=I.tuple (Ā.of s);exact⟨b,rfl,o,i.toArray,_,e,c,d,by simpa using oY g p m⟩
def Ao{X:C}{A:(O×Obj)%0}{g:L2.St}{H:Hp}{s:h_}(I:Õ X A g H s):∀{ds:N%0}{e:(Str%0)%0}{d:V%0}{b:B%0},mY ds=Z e->S X.K H ds d->Ú d b->e.length=b.length/\∀i,i<b.length->∃a,b[i]?=Z (.ref a)/\ST.TK X.prog X.w s.heap (e.getD i []) a
 |[],e,d,b,h,r,v=>by cases h;cases(show d=[]from r);cases v;exact⟨rfl,λi f=>absurd f (Zf _)⟩|.tup E::ds,e,d,b,h,r,v=>by
  obtain⟨y,us,rfl,p,o⟩:∃v us,d=v::us/\Ü X.K H (.tup E) v/\S X.K H ds us:=r;unfold mY at h;split at h;·rename_i k b' z w;cases h;cases v with|cons m j=>obtain⟨a,rfl,n⟩:=Sd I z p m;obtain⟨u,q⟩:=Ao I w o j;refine⟨by simp[u],λi f=>?_⟩;cases i with|zero=>exact⟨a,rfl,n⟩|succ i=>obtain⟨a',e1,Q⟩:=q i (by simpa using f);exact⟨a',by simpa using e1,by simpa using Q⟩
  ·cases h|.non::ds,e,d,b,h,r,v=>by cases h|.bl _::ds,e,d,b,h,r,v=>by cases h|.int _::ds,e,d,b,h,r,v=>by cases h|.str _::ds,e,d,b,h,r,v=>by cases h|.lst _::ds,e,d,b,h,r,v=>by cases h|.scr _::ds,e,d,b,h,r,v=>by cases h|.exn _::ds,e,d,b,h,r,v=>by cases h|.obj _ _::ds,e,d,b,h,r,v=>by cases h
def xD{a:θ%0}(h:a.Nodup){i j:Nat}(d:i<a.length)(b:j<a.length)(e:a.getD i Ó=a.getD j Ó):i=j:=by rw[YX,YX,I_ d,I_ b]at e;exact(ado h).mp (by simpa using e)
def Ap{f:Pos}(hu:a.A.units+64<cLine)(hc:a.calm=L)(hg:Gl a "len")(hm:a.mg "len"=U)(g':Gl a "set")(c':a.mg "set"=U)(ha:FA a [g] ο)(he:j_ [.Call (.Name "set" w) [g] [] f] a.env=(D,eval (.Call (.Name "set" w) [g] [] f) a.env)::j_ [] a.env:=by lk)(b':(V6 Ο (j_ [] a.env)).any (·.1)=D:=by lk)(i':j_ [g] a.env=(D,eval g a.env)::j_ [] a.env:=by lk)(A:(V6 f (j_ [] a.env)).any (·.1)=D:=by lk):FE a (.Call (.Name "len" o) [.Call (.Name "set" w) [g] [] f] [] Ο) (é mZ ο):=⟨λf' s σ H Q I⟨ρ,E,e⟩=>by
 refine Xg (j3 I hg hm adN ?_ #v[] #v[]);refine Z0 ?_ he b';rw[he];show w_ _ _ (spliced ((D,eval (.Call (.Name "set" w) [g] [] f) a.env)::V6 Ο (j_ [] a.env))) _ _ s;refine YC ?_;refine Xg (j3 I g' c' (Α:=.type "set") (by decide+kernel) ?_ #v[] #v[]);refine W1 (ê (ha.h f f' s σ H _ I ⟨ρ,E,ï.bind e λds vs y e1 rs k=>(show∃ds,S a.K y ds vs/\ð a y (mZ ds) Q from⟨ds,rs,k⟩)⟩) λus s1⟨vs,y,I1,r1,ds,rs,k⟩=>?_) i' A;unfold mZ at k;split at k
 · rename_i es;obtain⟨v,rfl,r⟩:=fN rs;obtain⟨l,xs,rfl,hl,rx⟩:=r.lstE;obtain⟨u,rfl,ru⟩:=iP r1;cases(show u=C_ l from ru);split at k
   · rename_i ks d';split at k
     · rename_i p;obtain⟨z,m,n,rv,hz,eh⟩:=I1.lstM hl;obtain⟨q1,q2⟩:=Ao I1 d' rx rv;have h:m.toArray.size=ks.length:=by simp[q1]
       refine ST.call_set_T (g:=m.toArray) (m:=λi=>ks.getD i []) (p:=λi=>match m[i]? with|some (.ref d)=>d|_=>0) (I1.ok.hd hc) () ⟨_,eh,rfl,n,rfl⟩ (λi hi=>?_) (by rw[h];exact p.2) (λi j hi hj k'=>?_) λh' tk hS e'=>?_;·obtain⟨d,e1,e2⟩:=q2 i (by simpa using hi);simp![List.getElem?_toArray,e1];exact⟨trivial,e2⟩
       ·exact xD p.1 (by rw[<-h];exact hi) (by rw[<-h];exact hj) k'
       ·refine ZI ?_;refine ST.len_T hS (by rw[h];exact p.2) λt a'=>⟨.int (ks.length:Nat),y,?_,⟨t,by rw[h]⟩,k _ y (.refl y) rfl⟩;exact I1.kept (t':=a') λb u q=>e' b u (z_ q) q
     ·exact k.elim
   ·exact k.elim
 ·exact k.elim⟩
def QX:N->N->Rs N%1|.lst a,.int n=>if 0<=n/\a.length*n.toNat<=100000/\n<=100000 then .lst (u_ n.toNat a).flatten%3 else U|x,y=>Uz x y
def wb{K:d_}{H:Hp}{b:N%0}{a:V%0}(h:S K H b a):∀n:Nat,S K H (u_ n b).flatten (u_ n a).flatten|0=>rfl|n+1=>by rw[W8,W8,X7,X7];exact h.append (wb h n)
def NI:R2:=λx y H Q=>Uk x y H Q\/(DN x y H Q\/rI ŝ (λi j=>.int (i*j)) x y H Q)
def NJ:ă a (Xn .Mult) NI:=op_rep.or Ni
def NK:ĝ a NI QX:=by intro q m x y H Q f e o;cases q with
 |lst d=>cases m with|int n=>
 have b:ð a H (if 0<=n/\d.length*n.toNat<=100000/\n<=100000 then .lst (u_ n.toNat d).flatten%3 else U) Q:=o;by_cases g:0<=n/\d.length*n.toNat<=100000/\n<=100000;·rw[if_pos g]at b;obtain⟨p,j,rfl,k,h⟩:=f.lstE;refine .inl ⟨p,n,j,rfl,e,k,by omega,by omega,by rw[h.length];exact bT g.2.1,λl i=>b _ _ (aH i _) ⟨l,_,rfl,az,S.mono (aH i _) _ _ (wb h _)⟩⟩
 ·rw[if_neg g]at b;exact b.elim|_=>exact .inr (Gh _ _ x y H Q f e o)
 |_=>exact .inr (Gh _ _ x y H Q f e o)
def frs{b:Type}(P:b->Bool):Sem b->Bool|.pure a=>P a|.fresh _=>L|.at _ k=>frs P (k Unit.unit)|.rule _ k=>frs P (k Unit.unit)|.point _ k=>frs P (k Unit.unit)|_=>D
def oZ{i:Array B}(h:f.heap.IsTupleIter e z b)(p:f.heap.IsTuple z i)(o:i[b]?=Z Α)(q:∀g,g.IsTupleIter e z (b+1)->X4 e f.heap g->Î Α {f with heap:=g}):w_ (D_ s r) I (WP (.ref e)) Î χ f:=by obtain⟨v,d,n,a⟩:=id h;obtain⟨u,k,_,m,j⟩:=p;unfold WP;refine e_ (WL (name:=b_ "__next__") h.typeIs XO (W6 XO h.typeIs aaw ?_ (aak _)));show w_ _ _ (adL (.ref e) 0>>=_) _ _ f;refine e_ (WV d a (x:=.ref z) rfl ?_);show w_ _ _ (if(C_ z==J_)=L then _ else _) _ _ f;rw[if_neg (show¬((C_ z==J_)=L)from q_)];show w_ _ _ (adL (.ref e) 1>>=_) _ _ f;refine e_ (WV d a (x:=.int b 0) rfl ?_);show w_ _ _ (seqItems? (.ref z)>>=_) _ _ f;refine e_ (Xx k j ?_);simp![ZS,o];refine e_ (aaB d a ∅ (k_ ⟨Α,rfl,k_ (q _ ⟨_,YO _ d (ab2 (Zl a _)),(acX ..).trans n,by rw[Zl a];simp[ż]⟩ (XH ..))⟩))
def Aq{j:Array B}(k:I.handled=U)(i:f.heap.IsTupleIter e z b)(v:f.heap.IsTuple z j)(u:j[b]?=U)(q:∀h a,Heap.ExtBut e f.heap h->(∃o,h.get? a=Z o/\o.cls=.type "StopIteration")->χ (.ref a) {f with heap:=h}):w_ (D_ s r) I (WP (.ref e)) Î χ f:=by
 obtain⟨y,g,A,d⟩:=id i;obtain⟨w,p,_,m,n⟩:=v;unfold WP;refine e_ (WL (name:=b_ "__next__") i.typeIs XO (W6 XO i.typeIs aaw ?_ (aak _)));show w_ _ _ (adL (.ref e) 0>>=_) _ _ f;refine e_ (WV g d (x:=.ref z) rfl ?_);show w_ _ _ (if(C_ z==J_)=L then _ else _) _ _ f;rw[if_neg (show¬((C_ z==J_)=L)from q_)];show w_ _ _ (adL (.ref e) 1>>=_) _ _ f;refine e_ (WV g d (x:=.int b 0) rfl ?_);show w_ _ _ (seqItems? (.ref z)>>=_) _ _ f;refine e_ (Xx p n ?_);simp![ZS,u];refine e_ (YT (e_ (aaB g d ∅ ?_)));show w_ _ _ (newExc (.type "StopIteration") []>>=_) _ _ _;refine e_ ?_;simp![newExc,newTuple];refine e_ (WM ?_ (by size_fits));refine e_ (m:=aaF _ _) (adq (a:=J_) (by first|rfl|(simp![aaF];rfl)) ?_);refine WM ?_ (by size_fits);simp![raiseNew];refine e_ (wpAny_handled ?_);first|rw[show I.in1.handled=U from k]|rw[k]
 exact e_ (k_ (wpAny_throw (q _ _ (((XH ..).extBut.push _).push _) ⟨_,xy _ rfl,rfl⟩)))
def Ar{i m k l1 l2:O}{xs ys:Array B}{y a h:B}{Q:B%1->h_->Prop}(d:adR e z i m k l1 l2)(A:Ź f.heap e z i .none)(g':ZE f.heap z (.ref m) (.ref k))(f':ZE f.heap i a h)(j1:f.heap.IsTupleIter m l1 b)(j2:f.heap.IsTupleIter k l2 b)(m1:f.heap.IsTuple l1 xs)(m2:f.heap.IsTuple l2 ys)(hx:xs[b]?=Z Α)(hy:ys[b]?=Z y)(q:∀n,Ź n e z i (ż f.heap.objs.size)->ZE n i Α y->n.IsTupleIter m l1 (b+1)->n.IsTupleIter k l2 (b+1)->ZE n f.heap.objs.size Α y->n.objs.size=f.heap.objs.size+1->(∀c o,c≠e->c≠i->c≠m->c≠k->f.heap.get? c=Z o->n.get? c=Z o)->Q (Z (.ref f.heap.objs.size)) {f with heap:=n}):w_ (D_ s r) I (ů (.ref e)) Q χ f:=by
 have ty:f.TypeIs (.ref e) "zip":=⟨_,A,rfl⟩;unfold ů;refine e_ (Yb (WL (name:=b_ "__next__") ty aaj (W6 aaj ty F.entry_zip_next ?_ (F.args_zip_next_1 _))));show w_ _ _ (adL (.ref e) 2>>=_) _ _ f;refine e_ (WV A rfl (x:=.bool D) rfl ?_);show w_ _ _ (adL (.ref e) 3>>=_) _ _ f;refine e_ (WV A rfl (x:=.ref z) rfl ?_);refine e_ (Xx g' rfl ?_);show w_ _ _ (Xa (.ref e)>>=_) _ _ f;refine e_ ?_;unfold Xa;refine e_ (WV A rfl (x:=.none) rfl (k_ ?_));simp![if_true];refine e_ (YT ?_);refine e_ (WV A rfl (x:=.ref i) rfl ?_);refine e_ (Yy A ∅ λhA zA p=>?_);have d':Ź hA e z i .ellipsis:=zA;refine e_ ?_;simp![abx,abV,aan,ZR];refine e_ (e_ (aa8 ?_));show w_ _ _ (WP (.ref m)>>=_) _ _ _;refine e_ (oZ (j1.extBut p.extBut d.i1z) (m1.extBut p.extBut d.l1z) hx λhB jB w=>k_ ?_);have tB:ZE hB i a h:=w.extBut _ _ d.TOi1 (p.extBut _ _ d.TOz f');refine e_ (Xx tB rfl ?_);refine e_ (ab6 tB λhC tC v=>?_);have e':ZE hC i Α h:=tC;refine e_ (ads (k_ ?_));refine e_ (e_ (aa8 ?_));show w_ _ _ (WP (.ref k)>>=_) _ _ _;refine e_ (oZ (((j2.extBut p.extBut d.i2z).extBut w.extBut d.i12.symm).extBut v.extBut d.TOi2.symm) (((m2.extBut p.extBut d.l2z).extBut w.extBut d.l2i1).extBut v.extBut d.l2TO) hy λhD jD H=>k_ ?_);have tD:ZE hD i Α h:=H.extBut _ _ d.TOi2 e';refine e_ (Xx tD rfl ?_);refine e_ (ab6 tD λj tF E=>?_);have b':ZE j i Α y:=tF;refine e_ (ads (k_ (k_ ?_)));refine e_ (Xx b' rfl ?_);refine e_ (wpAny_newTuple ?_);have n5:j.objs.size=f.heap.objs.size:=by rw[E.1,H.1,v.1,w.1,p.1]
 have z5:Ź j e z i .ellipsis:=E.extBut _ _ d.TOz.symm (H.extBut _ _ d.i2z.symm (v.extBut _ _ d.TOz.symm (w.extBut _ _ d.i1z.symm d')));have k5:∀c o,c≠e->c≠i->c≠m->c≠k->f.heap.get? c=Z o->j.get? c=Z o:=λc o u c2 c3 c4 g=>E.extBut _ _ c2 (H.extBut _ _ c4 (v.extBut _ _ c2 (w.extBut _ _ c3 (p.extBut _ _ u g))));have p1:j.IsTupleIter m l1 (b+1):=((jB.extBut v.extBut d.TOi1.symm).extBut H.extBut d.i12).extBut E.extBut d.TOi1.symm;have p2:j.IsTupleIter k l2 (b+1):=jD.extBut E.extBut d.TOi2.symm;have nz:e<j.objs.size:=z_ z5;show w_ _ _ (Y7 (.ref e) (.ref j.objs.size)>>=_) _ _ _;refine e_ ?_;unfold Y7;have z6:Ź (j.push {cls:=.type "tuple",data:=.seq #[Α,y]}) e z i .ellipsis:=l_ _ z5;refine e_ (Yy z6 ∅ λhG zG sG=>?_);have c':Ź hG e z i (ż j.objs.size):=zG;refine Yy c' ∅ λhH zH sH=>?_;have a':Ź hH e z i (ż j.objs.size):=zH;have up:∀c o,c≠e->j.get? c=Z o->hH.get? c=Z o:=λc o u g=>sH.extBut _ _ u (sG.extBut _ _ u (l_ _ g));have pr:ZE hH j.objs.size Α y:=sH.extBut _ _ (Y3 nz) (sG.extBut _ _ (Y3 nz) (xy _ rfl));have n8:hH.objs.size=j.objs.size+1:=by rw[sH.1,sG.1,WB]
 rw[n5]at a' pr n8;refine k_ ⟨_,rfl,k_ ?_⟩;show Q (Z (.ref j.objs.size)) _;rw[n5];exact q hH a' (up _ _ d.TOz b') (p1.at λo g=>up _ o d.i1z g) (p2.at λo g=>up _ o d.i2z g) pr n8 λc o u c2 c3 c4 g=>up c o u (k5 c o u c2 c3 c4 g)
def DZ{i k p n l2:O}{A:Array B}{h:B}{Q:B%1->h_->Prop}(hh:I.handled=U)(a:adR e z i k p n l2)(j:Ź f.heap e z i .none)(w:ZE f.heap z (.ref k) (.ref p))(a':ZE f.heap i Α h)(j1:f.heap.IsTupleIter k n b)(m1:f.heap.IsTuple n A)(hx:A[b]?=U)(q:∀h',(∀c o,c≠e->c≠i->c≠k->c≠p->f.heap.get? c=Z o->h'.get? c=Z o)->Q U {f with heap:=h'}):w_ (D_ s r) I (ů (.ref e)) Q χ f:=by
 have E:f.TypeIs (.ref e) "zip":=⟨_,j,rfl⟩;unfold ů;refine e_ (Yb (WL (name:=b_ "__next__") E aaj (W6 aaj E F.entry_zip_next ?_ (F.args_zip_next_1 _))));show w_ _ _ (adL (.ref e) 2>>=_) _ _ f;refine e_ (WV j rfl (x:=.bool D) rfl ?_);show w_ _ _ (adL (.ref e) 3>>=_) _ _ f;refine e_ (WV j rfl (x:=.ref z) rfl ?_);refine e_ (Xx w rfl ?_);show w_ _ _ (Xa (.ref e)>>=_) _ _ f;refine e_ ?_;unfold Xa;refine e_ (WV j rfl (x:=.none) rfl (k_ ?_));simp![if_true];refine e_ (YT ?_);refine e_ (WV j rfl (x:=.ref i) rfl ?_);refine e_ (Yy j ∅ λhA zA m=>?_);have v:Ź hA e z i .ellipsis:=zA;refine e_ ?_;simp![abx,abV,aan,ZR];refine e_ (e_ (aa8 ?_));show w_ _ _ (WP (.ref k)>>=_) _ _ _;refine e_ (Aq hh (j1.extBut m.extBut a.i1z) (m1.extBut m.extBut a.l1z) hx λhB d sB he=>?_);obtain⟨oe,u,g2⟩:=he;have y:Ź hB e z i .ellipsis:=sB _ _ a.i1z.symm v;have ne:d≠e:=λg=>by subst g;rw[y]at u;cases u;simp at g2
 refine Yy y ∅ λhC _ H=>?_;refine e_ (wpAny_isInstance (T:="StopIteration") (b:=L) ⟨oe,H.extBut _ _ ne u,g2⟩ isSubtype_stop (k_ (q hC λc o c1 _ c3 _ g=>H.extBut _ _ c1 (sB _ _ c3 (m.extBut _ _ c1 g)))))
abbrev zq1(h:O_)(a:O):O_:=h.push {cls:=.type "tuple_iterator",data:=.fields #[.ref a,.int 0 0]}
abbrev zq2(h:O_)(b a:O):O_:=(zq1 h b).push {cls:=.type "tuple_iterator",data:=.fields #[.ref a,.int 0 0]}
abbrev zq3(h:O_)(a b:O):O_:=(zq2 h a b).push {cls:=.type "tuple",data:=.seq #[.ref h.objs.size,.ref (zq1 h a).objs.size]}
abbrev zq4(h:O_)(b a:O):O_:=(zq3 h b a).push {cls:=.type "tuple",data:=.seq #[.none,.none]}
abbrev zq5(h:O_)(b a:O):O_:=(zq4 h b a).push {cls:=.type "zip",data:=.fields #[.none,.bool D,.bool D,.ref (zq2 h b a).objs.size,.ref (zq3 h b a).objs.size]}
def D4(a b:O)(f e:Array B):Meets (XV.«zip.__new__» ⟨[.type "zip",.ref a,.ref b],[]⟩) (λ_ R s=>s.heap.IsTuple a f/\s.heap.IsTuple b e/\R (.ok (.ret (.ref (zq4 s.heap a b).objs.size))) {s with heap:=zq5 s.heap a b}):=.of_wp λk w A R s h=>by obtain⟨j,g,d,i,os⟩:=s;obtain⟨q,p,h⟩:=h;have m:=sub_zip;have o:Heap.IsTuple (Shared.heap ⟨j,g,d,i,os⟩) a f:=q;have n:Heap.IsTuple (Shared.heap ⟨j.push {cls:=.type "tuple_iterator",data:=.fields #[.ref a,.int 0 0]},g,d,i,os⟩) b e:=Heap.IsTuple.push p _;wp_walk using Zi o,Zi n;exact⟨_,rfl,h⟩
def As{n m:Array B}(A:f.heap.IsTuple e n)(y:f.heap.IsTuple z m)(q:∀a,Ź a (f.heap.objs.size+4) (f.heap.objs.size+2) (f.heap.objs.size+3) .none->ZE a (f.heap.objs.size+2) (.ref f.heap.objs.size) (.ref (f.heap.objs.size+1))->ZE a (f.heap.objs.size+3) .none .none->a.IsTupleIter f.heap.objs.size e 0->a.IsTupleIter (f.heap.objs.size+1) z 0->a.objs.size=f.heap.objs.size+5->(∀c o,f.heap.get? c=Z o->a.get? c=Z o)->Î (.ref (f.heap.objs.size+4)) {f with heap:=a}):w_ (D_ s r) I (call (.type "zip") [.ref e,.ref z]) Î χ f:=by
 refine callType_new F.called_zip #v[] (F.typeCall_zip_2 _ _) (F.newCall_zip_2 _ _) (λk=>F.args_object_init_3 k _ _) F.entry_zip_new (D4 e z n m) ⟨A,y,?_⟩;have i:(zq1 f.heap e).objs.size=f.heap.objs.size+1:=WB ..;have h:(zq2 f.heap e z).objs.size=f.heap.objs.size+2:=by rw[WB,i]
 have d:(zq3 f.heap e z).objs.size=f.heap.objs.size+3:=by rw[WB,h]
 have b:(zq4 f.heap e z).objs.size=f.heap.objs.size+4:=by rw[WB,d]
 have w:(zq5 f.heap e z).objs.size=f.heap.objs.size+5:=by rw[WB,b]
 have P:=@l_;have j:(zq5 f.heap e z).get? (zq4 f.heap e z).objs.size=Z _:=xy _ rfl;have p:(zq5 f.heap e z).get? (zq3 f.heap e z).objs.size=Z _:=l_ _ (xy _ rfl);have u:(zq5 f.heap e z).get? (zq2 f.heap e z).objs.size=Z _:=l_ _ (l_ _ (xy _ rfl));have v:(zq5 f.heap e z).get? (zq1 f.heap e).objs.size=Z _:=l_ _ (l_ _ (l_ _ (xy _ rfl)));have E:(zq5 f.heap e z).get? f.heap.objs.size=Z _:=l_ _ (l_ _ (l_ _ (l_ _ (xy _ rfl))));show _/\_;rw[h,d,b]at j;rw[i,h]at u;rw[d]at p;rw[i]at v;rw[b];exact⟨⟨_,j,rfl⟩,q _ j u p ⟨_,E,rfl,rfl⟩ ⟨_,v,rfl,rfl⟩ w λc o g=>l_ _ (l_ _ (l_ _ (l_ _ (l_ _ g))))⟩
def Itz(a b:O):It:=⟨λi H=>∃d e x y,H a=Z (.tup d)/\H b=Z (.tup e)/\d[i]?=Z x/\e[i]?=Z y,λi H v f=>∃p x y,v=.ref p/\H p=U/\f=æ H p (.tup [x,y])/\(∀d,H a=Z (.tup d)->d[i]?=Z x)/\(∀e,H b=Z (.tup e)->e[i]?=Z y),λi H=>∃d e,H a=Z (.tup d)/\H b=Z (.tup e)/\d.length<=i⟩
structure ZSt(z TI TO i1 i2 a b:O)(i:Nat)(h:O_):Prop where
 z:Ź h z TI TO .none
 ti:ZE h TI (.ref i1) (.ref i2)to:∃p q,ZE h TO p q
 j1:h.IsTupleIter i1 a i
 j2:h.IsTupleIter i2 b i
structure ZNe(z TI TO i1 i2:O):Prop where
 n1:TI≠z
 n2:TO≠z
 n3:i1≠z
 n4:i2≠z
 n5:TI≠TO
 n6:TI≠i1
 n7:TI≠i2
 n8:TO≠i1
 n9:TO≠i2
 n10:i1≠i2
def Se{d b a c:O}(h:c∈[e,z,d,b,a]):c=e\/c=z\/c=d\/c=b\/c=a:=by simpa using h
def D6{P:n_}{w:y_}{K:d_}{es:t_%0}{k:Nat}{r':Pos}(a b z TI Q A j:O)(N:ZNe z TI Q A j):yM P w K (.Tuple es k r') (Itz a b) [z,TI,Q,A,j] z (λi h=>ZSt z TI Q A j a b i h)where
 mem:=by simp
 obj:=λi h st c hc=>by
  obtain⟨p,q,g3⟩:=st.to;rcases Se hc with rfl|rfl|rfl|rfl|rfl;·exact⟨_,st.z,λv g=>by cases g⟩
  ·exact⟨_,st.ti,λv g=>by cases g⟩
  ·exact⟨_,g3,λv g=>by cases g⟩
  ·obtain⟨o,e,_,d⟩:=st.j1;exact⟨o,e,λv g=>by rw[d]at g;cases g⟩
  ·obtain⟨o,e,_,d⟩:=st.j2;exact⟨o,e,λv g=>by rw[d]at g;cases g⟩
 keep:=λi h h' st kk=>by obtain⟨p,q,g3⟩:=st.to;exact⟨kk z ∅ _ st.z,kk TI ∅ _ st.ti,⟨p,q,kk Q ∅ _ g3⟩,st.j1.at λo e=>kk A ∅ o e,st.j2.at λo e=>kk j ∅ o e⟩
 item:=by
  intro X hP hw hK hc i f' s σ H E I hf st hg;subst hP hw hK;obtain⟨xs,ys,x,y,ha,hb,hx,hy⟩:=hg;obtain⟨i',rv,p,_⟩:=I.tuple (Ā.of ha);obtain⟨s',sv,p',_⟩:=I.tuple (Ā.of hb);obtain⟨u,hu,ru⟩:=rv.get hx;obtain⟨v,hv,q'⟩:=sv.get hy;obtain⟨q1,q2,g'⟩:=st.to;have F:∀c∈[z,TI,Q,A,j],um X f' H c:=hf;have fr:∀c∈[z,TI,Q,A,j],H c=U:=λc m=>(hf c m).1;have an:∀c∈[z,TI,Q,A,j],a≠c:=λc m g=>by rw[g,fr c m]at ha;cases ha
  have bn:∀c∈[z,TI,Q,A,j],b≠c:=λc m g=>by rw[g,fr c m]at hb;cases hb
  have f:adR z TI Q A j a b:=⟨N.n1,N.n2,N.n3,N.n4,N.n5,N.n6,N.n7,N.n8,N.n9,N.n10,an z ∅,an Q ∅,an A ∅,an j ∅,bn z ∅,bn Q ∅,bn A ∅,bn j ∅⟩;refine Ar f st.z st.ti g' st.j1 st.j2 (show s.heap.IsTuple a i'.toArray from p) (show s.heap.IsTuple b s'.toArray from p') (Α:=u) (y:=v) (by simpa using hu) (by simpa using hv) λh' a1 a2 a3 a4 a5 a6 kk=>?_;refine⟨_,rfl,wpAny_letOwnedTupleGo_zip a1 λh2 z2 d'=>?_⟩;have hp:H s.heap.objs.size=U:=I.hok.fresh (rl _);have l':z<s.heap.objs.size:=z_ st.z;have k2:∀c o,c∉[z,Q,A,j]->s.heap.get? c=Z o->h2.get? c=Z o:=λc o b' q=>d'.extBut c o (λg=>b' (by simp[g])) (kk c o (λg=>b' (by simp[g])) (λg=>b' (by simp[g])) (λg=>b' (by simp[g])) (λg=>b' (by simp[g])) q);have o':h2.get? s.heap.objs.size=Z {cls:=.type "tuple",data:=.seq #[u,v]}:=d'.extBut _ _ (Y3 l') a5;have sub:∀c,c∈[z,Q,A,j]->c∈[z,TI,Q,A,j]:=λc m=>by
   have m':c=z\/c=Q\/c=A\/c=j:=by simpa using m
   rcases m' with rfl|rfl|rfl|rfl<;>simp
  have I1:Õ X f' σ (æ H s.heap.objs.size (.tup [x,y])) {s with heap:=h2}:=by
   have nt:∀c o,H c=Z o->c∉[z,Q,A,j]:=λc o q m=>by rw[fr c (sub c m)]at q;cases q
   refine I.step (g':=s.gens) (d':=s.drawn) (t':=s.toks) (ch:=[z,Q,A,j]) (λc m=>?_) (λc o _ _ a' q _=>k2 c o a' q) (λc o _ _ a' q _=>⟨o.slots,k2 c o a' q⟩) (λc o a' q n=>?_) (λc o a' q=>⟨o,k2 c o a' q⟩) (λc zs q=>by rw[ay (aF q hp)];exact q) (λc o zs q=>by rw[ay (aF q hp)];exact q) (λc ps q=>⟨#[],by rw[ay (aF q hp),q];simp⟩) (λm hm=>?_) (λc o2 q=>?_) I.bare;·obtain⟨f0,f1,R,f3,f4,f5⟩:=hf c (sub c m);exact⟨f3,f1,f4,f5⟩
   ·rw[ay (V7 (z_ q))];exact n
   ·obtain⟨o,k',ep,ho,r⟩:=hm;exact⟨o,k',ep,k2 _ o (λm=>(hf _ (sub _ m)).2.1 rfl) ho,r⟩
   · by_cases n':c=s.heap.objs.size;·subst n';rw[az]at q;cases q;exact⟨by show 2<=sizeLine;decide,[u,v],.cons ru (.cons q' .nil),⟨_,o',rfl,_,rfl⟩⟩
     · rw[ay n']at q;refine(I.hok c o2 q).stay (λe v' c' qq=>k2 e v' ?_ qq) (λe qq=>by rw[ay (aF qq hp)];exact qq) λe zs qq=>by rw[ay (aF qq hp)];exact qq
       rcases c' with rfl|c';·exact nt _ _ q
       ·exact nt _ _ c'
  refine⟨.ref s.heap.objs.size,_,I1,rfl,⟨_,x,y,rfl,hp,rfl,λzs e'=>?_,λzs e'=>?_⟩,⟨z2,?_,⟨_,_,d'.extBut _ _ N.n2 a2⟩,a3.at λo q=>d'.extBut _ _ N.n3 q,a4.at λo q=>d'.extBut _ _ N.n4 q⟩,λc m=>?_⟩;·rw[ha]at e';cases e';exact hx
  ·rw[hb]at e';cases e';exact hy
  ·exact d'.extBut _ _ N.n1 (kk _ _ N.n1 N.n5 N.n6 N.n7 st.ti)
  · have lt:c<s.heap.objs.size:=by
     rcases Se m with rfl|rfl|rfl|rfl|rfl;·exact l'
     ·exact z_ st.ti
     ·exact z_ g'
     ·obtain⟨_,e,_⟩:=st.j1;exact z_ e
     ·obtain⟨_,e,_⟩:=st.j2;exact z_ e
    rw[ay (V7 lt)];exact fr c m
 done:=by
  intro X hP hw hK hc i f' s σ H E I hf st hg;subst hP hw hK;obtain⟨xs,ys,ha,hb,hl⟩:=hg;obtain⟨i',rv,p,_⟩:=I.tuple (Ā.of ha);obtain⟨q1,q2,g'⟩:=st.to;have fr:∀c∈[z,TI,Q,A,j],H c=U:=λc m=>(hf c m).1;have an:∀c∈[z,TI,Q,A,j],a≠c:=λc m g=>by rw[g,fr c m]at ha;cases ha
  have bn:∀c∈[z,TI,Q,A,j],b≠c:=λc m g=>by rw[g,fr c m]at hb;cases hb
  have f:adR z TI Q A j a b:=⟨N.n1,N.n2,N.n3,N.n4,N.n5,N.n6,N.n7,N.n8,N.n9,N.n10,an z ∅,an Q ∅,an A ∅,an j ∅,bn z ∅,bn Q ∅,bn A ∅,bn j ∅⟩;have t':=rv.length;refine DZ (I.ok.hd hc) f st.z st.ti g' st.j1 (show s.heap.IsTuple a i'.toArray from p) (by simp;omega) λh' kk=>⟨rfl,?_⟩;have k2:∀c o,c∉[z,Q,A,j]->s.heap.get? c=Z o->h'.get? c=Z o:=λc o b' q=>kk c o (λg=>b' (by simp[g])) (λg=>b' (by simp[g])) (λg=>b' (by simp[g])) (λg=>b' (by simp[g])) q;have sub:∀c,c∈[z,Q,A,j]->c∈[z,TI,Q,A,j]:=λc m=>by
   have m':c=z\/c=Q\/c=A\/c=j:=by simpa using m
   rcases m' with rfl|rfl|rfl|rfl<;>simp
  have nt:∀c o,H c=Z o->c∉[z,Q,A,j]:=λc o q m=>by rw[fr c (sub c m)]at q;cases q
  refine I.step (g':=s.gens) (d':=s.drawn) (t':=s.toks) (ch:=[z,Q,A,j]) (λc m=>?_) (λc o _ _ a' q _=>k2 c o a' q) (λc o _ _ a' q _=>⟨o.slots,k2 c o a' q⟩) (λc o a' q n=>n) (λc o a' q=>⟨o,k2 c o a' q⟩) (λc zs q=>q) (λc o zs q=>q) (λc ps q=>⟨#[],by rw[q];simp⟩) (λm hm=>?_) (λc o2 q=>?_) I.bare;·obtain⟨f0,f1,R,f3,f4,f5⟩:=hf c (sub c m);exact⟨f3,f1,f4,f5⟩
  ·obtain⟨o,k',ep,ho,r⟩:=hm;exact⟨o,k',ep,k2 _ o (λm=>(hf _ (sub _ m)).2.1 rfl) ho,r⟩
  · refine(I.hok c o2 q).stay (λe v' c' qq=>k2 e v' ?_ qq) (λe qq=>qq) λe zs qq=>qq;rcases c' with rfl|c';·exact nt _ _ q
    ·exact nt _ _ c'
 self:=λ_ _ _ _ _ st h=>wpAny_pyIter_zip st.z h
def Ll:N%0->N%0->N%0|x::b,y::a=>.tup [x,y]::Ll b a|_,_=>[]
def kf:∀(a b:N%0),a.length=b.length->(Ll a b).length=a.length|[],[],_=>rfl|x::a,y::b,h=>by show(Ll a b).length+1=a.length+1;rw[kf a b (by simpa using h)]|[],_::_,h=>by simp at h|_::_,[],h=>by simp at h
def wc:∀(d b:N%0)(i:Nat)(x y:N),d[i]?=Z x->b[i]?=Z y->(Ll d b)[i]?=Z (.tup [x,y])|x::d,y::b,0,f,e,h,a=>by simp at h a;subst h a;rfl|x::d,y::b,i+1,f,e,h,a=>wc d b i f e (by simpa using h) (by simpa using a)|[],_,_,_,_,h,_=>by simp at h|_::_,[],_,_,_,_,a=>by simp at a
def NL{b:V%0}{f:N%0}(n:h e=Z (.tup ν))(m:h z=Z (.tup b))(r:S q h E ν)(A:S q h f b)(k:E.length=f.length):WkG q (Itz e z) (Ll E f) h where
 go:=λi H a g=>by
  rw[kf E f k]at g;have s:i<ν.length:=by rw[r.length];exact g
  have o:i<b.length:=by rw[A.length,<-k];exact g
  exact⟨ν,b,ν[i],b[i],a _ _ n,a _ _ m,by simp[s],by simp[o]⟩
 stop:=λH a=>⟨ν,b,a _ _ n,a _ _ m,by rw[r.length,kf E f k];exact rl _⟩;yld:=λi H v H2 a g y=>by obtain⟨p,x,y,rfl,j,rfl,Q,I⟩:=y;obtain⟨d,s,o⟩:=S.get (S.mono a _ _ r) (Q ν (a _ _ n));obtain⟨d',w,u⟩:=S.get (S.mono a _ _ A) (I b (a _ _ m));exact⟨aH j _,_,wc E f i d d' s w,⟨p,_,rfl,az,⟨x,[y],rfl,Ü.mono (aH j _) _ _ o,y,[],rfl,Ü.mono (aH j _) _ _ u,rfl⟩⟩⟩
def Lm:N%0->Rs (N%0)%1|[.tup b,.tup a]=>if b.length=a.length then Ll b a%3 else U|_=>U
def IC(hg:Gl a "zip")(hm:a.mg "zip"=U)(ha:FA a [g,y] ο)(hs:j_ [g,y] a.env=[(D,eval g a.env),(D,eval y a.env)]:=by lk)(A:j_ [y] a.env=[(D,eval y a.env)]:=by lk):Ű a (.Tuple u b o) (.Call (.Name "zip" w) [g,y] [] Ο) (λz=>Þ (ο z) Lm):=by
 constructor;intro f' s σ H R I h;obtain⟨z,E,d⟩:=h;have key:ï a H (ο z) λvs H'=>∃ds,S a.K H' ds vs/\Ĺ a H' (Lm ds) R:=by match hf:ο z,d with|some (.exc c),d=>exact d|some (.ok ds),d=>exactλvs H' e rs=>⟨ds,rs,Ĺ.mono e d⟩
 refine Call_ (j3 I hg hm (show W0 "zip"=Z (.type "zip")by decide+kernel) (W1 (ê (ha.h Ο f' s σ H _ I ⟨z,E,key⟩) λus k⟨vs,H1,p,r1,ds,rs,q⟩=>?_) (by rw[hs,A]) (by rw[A];rfl)));unfold Lm at q;split at q
 · rename_i xs ys;split at q
   · rename_i hl;obtain⟨v,v',rfl,rv,a'⟩:=Dk rs;obtain⟨i,ws,rfl,h1,h2⟩:=rv.tupE;obtain⟨f,k',rfl,Q,i'⟩:=a'.tupE;obtain⟨j,u',rfl,ru,b'⟩:=Ú.two r1;cases ru;cases b';obtain⟨e',rt,pl,hz⟩:=p.tuple (Ā.of h1);obtain⟨d',l',c',m'⟩:=p.tuple (Ā.of Q);refine As (show k.heap.IsTuple i e'.toArray from pl) (show k.heap.IsTuple f d'.toArray from c') λh' g1 g2 g3 g4 g5 g6 kk=>?_;refine wpAny_pyIter_zip g1 ?_;have I2:Õ a f' σ H1 {k with heap:=h'}:=p.kept (t':=k.toks) kk;have r:∀m n:Nat,m≠n->k.heap.objs.size+m≠k.heap.objs.size+n:=λm n g' e=>g' (acs e);have g0:∀m:Nat,0≠m->k.heap.objs.size≠k.heap.objs.size+m:=λm hm e=>hm (acs (n:=k.heap.objs.size) e);refine⟨k.heap.objs.size+4,[k.heap.objs.size+4,k.heap.objs.size+2,k.heap.objs.size+3,k.heap.objs.size,k.heap.objs.size+1],_,Itz i f,H1,rfl,I2,D6 i f _ _ _ _ _ ⟨r 2 4 #v[],r 3 4 #v[],g0 4 #v[],r 1 4 #v[],r 2 3 #v[],(g0 2 #v[]).symm,r 2 1 #v[],(g0 3 #v[]).symm,r 3 1 #v[],g0 1 #v[]⟩,⟨g1,g2,⟨_,_,g3⟩,g4,g5⟩,λc hc=>?_,q _ H1 (.refl H1) (NL h1 Q h2 i' hl)⟩;rcases Se hc with rfl|rfl|rfl|rfl|rfl;·exact p.fpOk (Xq _ _) (p.hok.fresh (Xq _ _))
     ·exact p.fpOk (Xq _ _) (p.hok.fresh (Xq _ _))
     ·exact p.fpOk (Xq _ _) (p.hok.fresh (Xq _ _))
     ·exact p.fpOk (rl _) (p.hok.fresh (rl _))
     ·exact p.fpOk (Xq _ _) (p.hok.fresh (Xq _ _))
   ·exact q.elim
 ·exact q.elim
def jX(b:N->Ev->Ev%1)(f:Nat%0)(a:ä):N%0->Ev->Fl%1|[],e=>Z (.nx (fgt f e))|d::ds,e=>match b d (fgt f e)with|none=>U|some g=>match a g with|some (.nx h)=>jX b f a ds h|o=>o
def xE(b:N->Ev->Ev%1)(f:Nat%0)(d:ë)(a:ä):ä:=λe=>cV (d e) λds=>jX b f a ds e
def tgG(X:C)(b:N->Ev->Ev%1):TG:=λv h H Q=>∃d g e,Ü X.K H d v/\ã X.K H h g/\b d g=Z e/\∀a f,Ù H f->ã X.K f a e->Q a f
def FG.pg{b:N->Ev->Ev%1}(h:FG a g b):PG a g (tgG a b):=λo s k H v u Q I r⟨d,m,i,n,E,e,q⟩=>ê (h.h o s k H v u d m i I r n E e) λ_ z⟨f,j,w,p,y⟩=>⟨f,j,w,q f j p y⟩
def ID{b:N->Ev->Ev%1}(u:Nat%0)(hp:YK (D_ a.prog a.w) a.A a.env a.xe)(hc:a.calm=L)(hi:Ű a g y ο)(hg:FG a g b)(hb:Ħ a À Χ)(hs:∀x,Wd y a.env x=pure x:=by intro _;lk):FS a (.For g y À [] o) (xE b u ο Χ):=by refine uC (rP hp hc hi.h hg.pg hb.h hs) λf σ H ρ E e=>⟨ρ,E,?_⟩;unfold xE at e;match hf:ο ρ,e with
 |none,e=>exact e|some (.exc c),e=>exact e|some (.ok ds),e=>
 intro J H1 e1 wk;have o1:þ a H1 (jX b u Χ ds ρ) f:=þ.mono e1 e;refine⟨λn m v p=>m=ds.length-n/\n<=ds.length/\Ù H1 p/\∃k,ã a.K p v k/\þ a p (jX b u Χ (ds.drop n) k) f,⟨ds.length,by simp,Wm _,.refl H1,ρ,E.mono e1,by simpa using o1⟩,?_⟩;rintro n m v p⟨rfl,hn,e2,k,E',s⟩;by_cases z:n<ds.length;·refine .inr ⟨wk.go n p e2 z,λQ I=>Ù H1 I/\∃i,ã a.K I Q i/\þ a I (jX b u Χ (ds.drop (n+1)) i) f,λQ I⟨e3,i,E2,j⟩=>⟨ds.length-(n+1),by omega,rfl,z,e3,i,E2,j⟩,λx I h=>?_⟩;obtain⟨e4,d,hd,rd⟩:=wk.yld n p x I e2 z h;rw[jn hd]at s;unfold jX at s;match A:b d (fgt u k)with
   |none=>rw[A]at s;exact s.elim|some w=>rw[A]at s;refine⟨d,fgt u k,w,rd,(ã.fgt u E').mono e4,A,λc' H3 e5 E3=>?_⟩;show tS a Χ _ _ _;refine⟨w,E3,?_⟩;have j:=þ.mono (e4.trans e5) s;dsimp only at j;match q:Χ w with|none=>rw[q]at j;exact j|some (.exc c)=>rw[q]at j;exact j|some (.rt r)=>rw[q]at j;exact j|some (.nx i)=>rw[q]at j;exactλb' H4 e6 E4=>⟨((e2.trans e4).trans e5).trans e6,i,E4,þ.mono e6 j⟩
 · have a':n=ds.length:=by omega
   subst a';rw[Y5]at s;exact .inl ⟨wk.stop p e2,s v p (.refl p) (ã.fgt u E')⟩
def Ln:ß|[.str x]=>.str x%3|a=>R7 a
def Au:l4 a (.type "str") (λb H Q=>(∃i,b=[.int i]/\i.natAbs.log2<1920/\Q (.str (toString i)) H)\/∃x,b=[.str x]/\Q (.str x) H):=by
 intro f s e H b us Q I r h;rcases h with⟨i,rfl,d,q⟩|⟨x,rfl,q⟩;·obtain⟨u,rfl,t,rfl⟩:=iP r;exact PySem.P.str_of_int d ⟨.str _,H,I.tok _,⟨_,rfl⟩,q⟩
 ·obtain⟨u,rfl,t,rfl⟩:=iP r;exact PySem.P.str_of_str ⟨.str _,H,I,⟨_,rfl⟩,q⟩
def IE(n:Gl a "str")(m:a.mg "str"=U)(q:FA a (g::u) ο)(p:g%8:=by lk)(f:(V6 w (j_ u a.env)).any (·.1)=D:=by lk):FE a (.Call (.Name "str" o) (g::u) [] w) (é Ln ο):=dI (mM Au n m (by decide+kernel) q.h #v[] #v[] p f) λs H Q j E b=>⟨j,E,ï.bind b λds y e z h d=>by
 unfold Ln at d;split at d;·rename_i x;obtain⟨v,rfl,r⟩:=fN h;cases(show v=.str x from r);exact .inr ⟨x,rfl,d _ e (.refl e) rfl⟩
 · unfold R7 at d;split at d
   · rename_i i _;split at d;·rename_i k;obtain⟨v,rfl,r⟩:=fN h;cases(show v=.int i from r);exact .inl ⟨i,rfl,k,d _ e (.refl e) rfl⟩
     ·exact d.elim
   ·exact d.elim⟩
def we(b e:Û):kK:=λa ds=>xB (e a) λd=>xB (b a) λk=>match k with|.int k=>if 0<=k/\k<ds.length then Z (.nx a (ds.set k.toNat d))else U|_=>U
def S.set{K:d_}{H:Hp}{d:N}{v:V}(i:Ü K H d v):∀{ds:N%0}{b:V%0}(j:Nat),S K H ds b->S K H (ds.set j d) (b.set j v)|[],b,j,r=>by cases(show b=[]from r);exact r|g::ds,b,0,r=>by obtain⟨h,e,rfl,k,f⟩:∃v a,b=v::a/\Ü K H g v/\S K H ds a:=r;exact⟨v,e,rfl,i,f⟩|g::ds,b,j+1,r=>by obtain⟨h,e,rfl,k,f⟩:∃v a,b=v::a/\Ü K H g v/\S K H ds a:=r;exact⟨h,e.set j v,rfl,k,S.set i j f⟩
def D7(z:a.ex=[]){x:Str}{j:Pos}(hx:PE a (.Name x j) (yF b))(hi:FE a y Ä)(he:FE a g A)(hs:aa_ [.Subscript (.Name x j) y w] g o.line a.env=pure D:=by lk)(hw:aba [.Subscript (.Name x j) y w] g a.env=pure U:=by lk)(h1:(V_ [.Subscript (.Name x j) y w] a.env).map (·.2)=[Ye (.Subscript (.Name x j) y w) a.env]:=by lk)(ha:∀v,Ye (.Subscript (.Name x j) y w) a.env v=(do let Q<-Zd [v] (eval (.Name x j) a.env);let iv<-Zd [v,Q] (eval y a.env);ack w;Zd [v,Q,iv] (setItem Q iv v);release [v,Q,iv] []):=by intro _;lk):Ŭ a b (.Assign [.Subscript (.Name x j) y w] g o) (we Ä A):=⟨λf' s σ Hf i I⟨H,f,q,p,ds,e1,c',u,E,r,e⟩=>by refine yL (uJ z he.h) (LO hx (uJ z hi.h) Dd ha) hs hw h1 f' s σ Hf i I ⟨H,f,q,e1,c',p,E,?_⟩;unfold we at e;match n:A p with
 |none=>rw[n]at e;exact e.elim|some (.exc _)=>rw[n]at e;exact e.elim|some (.ok d)=>rw[n]at e;match m:Ä p with
 |none=>dsimp only[xB]at e;rw[m]at e;exact e.elim|some (.exc _)=>dsimp only[xB]at e;rw[m]at e;exact e.elim|some (.ok k)=>
 dsimp only[xB]at e;rw[m]at e;dsimp only at e;intro v H' e' rd b';refine⟨.ref f,u,H',f,q,rfl,b',p,E.mono e',?_⟩;show ð a H' (Ä p) _;rw[m];intro h H2 e2 rk a';cases k<;>try exact(show False from e).elim
 rename_i k;dsimp only at e;split at e
 · rename_i hk;cases(show h=.int k from rk);have hl:=r.length;have hj:ixN q.length k=Z k.toNat:=by unfold ixN;rw[if_pos hk.1,if_pos ()]
   refine⟨f,q,k,k.toNat,rfl,rfl,az,hj,?_⟩;rw[yA];exact e σ H2 (q.set k.toNat v) (e'.trans e2) a' u (E.mono (e'.trans e2)) (S.set (Ü.mono e2 _ _ rd) k.toNat (S.mono (e'.trans e2) _ _ r))
 ·exact e.elim⟩
def QY:ß|[.str x]=>if x.length<=640 then(match adK x with|some n=>.int n%3|none=>U)else U|_=>U
def Av:l4 a (.type "int") (λb H Q=>∃x i,b=[.str x]/\x.length<=640/\adK x=Z i/\Q (.int i) H):=by intro g s f H b us Q I r h;obtain⟨x,i,rfl,e,d,q⟩:=h;obtain⟨u,rfl,t,rfl⟩:=iP r;exact PySem.W.KIN.call_text d e ⟨.int _,H,I.tok _,⟨_,rfl⟩,q⟩
def D8(p:Gl a "int")(k:a.mg "int"=U)(s:FA a (g::u) ο)(q:g%8:=by lk)(e:(V6 w (j_ u a.env)).any (·.1)=D:=by lk):FE a (.Call (.Name "int" o) (g::u) [] w) (é QY ο):=dI (mM Av p k (by decide+kernel) s.h #v[] #v[] q e) λy H Q h E b=>⟨h,E,ï.bind b λds z f A i d=>by
 unfold QY at d;split at d
 · rename_i x;split at d
   · rename_i m;split at d;·rename_i n j;obtain⟨v,rfl,r⟩:=fN i;cases(show v=.str x from r);exact⟨x,n,rfl,m,j,d _ f (.refl f) rfl⟩
     ·exact d.elim
   ·exact d.elim
 ·exact d.elim⟩
end FD
namespace ST
open PySem.SetTable
def tm(m:Nat):SetTable:={mask:=m,place:=#[],dummies:=#[],finger:=0,led:=L,moves:=0,plain:=L}
def pos(m:Nat)(h:Int)(n:Nat):Nat:=(advN (tm m) n ((tm m).probeStart h)).j
end ST
namespace FD
open L2
def tC(X:C)(i:Nat)(j:Û):TS:=λa e H=>∃f,ã X.K H e f/\match j f with|none=>False|some (.exc c)=>XW X c H|some (.ok d)=>∃g,d=.lst g/\∀b p h,Ù H b->b p=U->S X.K b g h->a.nx (e.set i (Z (.ref p))) (æ b p (.lst h))
def Aw{m:(Str×Nat)%0}{a:N->Ev->Ev%1}{f:î%1}(i:Ev)(d:N)(h:dt b m ο a f A i=d%3):∃e,d=.lst e:=by
 rcases RO h with⟨c,k,g⟩|⟨ds,e,k,g,o,n,j⟩;·cases g
 ·cases j;exact⟨e,rfl⟩
def xF{a:Type}(b:a->a->Bool)(x:a):a%0->a%0|[]=>[x]|y::l=>if b x y then x::y::l else y::xF b x l
def gX{a:Type}(b:a->a->Bool):a%0->a%0|[]=>[]|x::l=>xF b x (gX b l)
def kO{a:Type}(b:a->a->Bool)(x:a):∀l:a%0,(xF b x l).Perm (x::l)
 |[]=>.refl _|y::l=>by
  unfold xF;split;·exact .refl _
  ·exact((kO b x l).cons y).trans (ad0 ..)
def cW{a:Type}(b:a->a->Bool):∀l:a%0,(gX b l).Perm l|[]=>.refl _|x::l=>(kO b x _).trans ((cW b l).cons x)
def sM:N%0->(Int%0)%1|[]=>Z []|.int i::r=>(sM r).map (i::·)|_=>U
def kP(h:b<64):b<=sizeLine:=by
 have:sizeLine=16777216:=by decide
 omega
def IF:ß|[.lst a]=>(match kJ a with|some bs=>.bl (bs.any id)%3|none=>U)|_=>U
def Ax:l4 a (.builtin "any") (λy H Q=>∃d p bs ds,y=[.ref d]/\H d=Z (.lst p)/\S a.K H ds p/\kJ ds=Z bs/\a.calm=L/\Q (.bl (bs.any id)) H):=by
 intro f' s σ H y us Q I r h;obtain⟨d,p,bs,ds,rfl,h1,h2,h3,hc,q⟩:=h;obtain⟨u,rfl,ru⟩:=iP r;cases ru;obtain⟨z,a',n,rv,hl,e⟩:=I.lstM h1;have eb:=qd h2 rv h3;subst eb;have A:s.heap.IsList d (bs.map T_).toArray:=⟨_,e,rfl,_,rfl⟩;have w:d<s.heap.objs.size:=z_ e;refine call_any_walk (Zy A ?_);refine⟨s.heap.objs.size,[s.heap.objs.size,d],[s.heap.objs.size],(bs.map T_).toArray.size,_,_,λi=>(bs[i]?).getD L,rfl,adS (A:=a.A.in1) (I.ok.hd hc) _ d (V7 w) (bs.map T_).toArray,⟨⟨_,xy _ rfl,rfl,rfl⟩,A.push _⟩,λi v s' Q' E' hP hQ=>?_,λh' E hk=>?_⟩
 · have f:(bs.map T_)[i]?=Z v:=by simpa using hP
   rw[K_]at f;cases j:bs[i]? with|none=>rw[j]at f;cases f|some b=>rw[j]at f;cases f;have k:Q' ((bs[i]?).getD L) s':=hQ;rw[j]at k;exact WZ k
 · have e2:((uk (bs.map T_).toArray.size).any λi=>(bs[i]?).getD L)=bs.any id:=by
    rw[H_,S_];rw[Xf];simp![Yx,Wf,id];constructor;·rintro⟨i,g,m⟩;simp![I_ g,adl]at m;exact⟨_,Z2 g,m⟩
    ·rintro⟨b,j,m⟩;obtain⟨i,g,rfl⟩:=ach.mp j;exact⟨i,g,by simpa[g]using m⟩
   rw[e2];exact⟨.bl (bs.any id),H,I.kept (t':=E) λb o q=>hk b o (by simp;exact V7 (z_ q)) (l_ _ q),rfl,q⟩
def NM(s:a.calm=L)(p:Gl a "any")(n:a.mg "any"=U)(z:FA a (g::u) ο)(q:g%8:=by lk)(f:(V6 w (j_ u a.env)).any (·.1)=D:=by lk):FE a (.Call (.Name "any" o) (g::u) [] w) (é IF ο):=dI (gU Ax p n (by decide+kernel) z.h #v[] #v[] q f) λσ H Q i E b=>⟨i,E,ï.bind b λds vs h e1 m e=>by
 unfold IF at e;split at e
 · rename_i j;split at e;·rename_i bs y;obtain⟨v,rfl,r⟩:=fN m;obtain⟨d,k,rfl,I,A⟩:=r.lstE;exact⟨d,k,bs,j,rfl,I,A,y,s,e _ h (.refl h) rfl⟩
   ·exact e.elim
 ·exact e.elim⟩
def Gp{a:î%1}{b:Û}{e:Ev}:∀ds:N%0,zr a b e ds=lA (gN 0) a b e ds|[]=>rfl|d::ds=>by unfold zr lA;rw[Gp ds];rfl
def IG(f:(Str×Nat)%0)(a:ë)(b:î%1)(e:Û):dv f a b e=dt 1 f a (gN 0) b e:=by funext d;show Þ (a d) _=Þ (a d) _;congr 1;funext ds;rw[Gp];rfl
def IH(h:PS a Γ (tC a b A))(r:∀f d,A f=d%3->∃i,d=.lst i):FS a Γ (cx b A):=⟨λu s m H e I⟨f,E,o⟩=>by refine h u s m H e I ⟨f,E,?_⟩;unfold cx at o;match g:A f with|none=>rw[g]at o;exact o.elim|some (.exc c)=>rw[g]at o;exact o|some (.ok d)=>rw[g]at o;obtain⟨i,rfl⟩:=r f d g;exact⟨i,rfl,λv p n k j q=>o _ _ (k.trans (aH j _)) ((E.mono (k.trans (aH j _))).set ⟨p,n,rfl,az,S.mono (aH j _) _ _ q⟩)⟩⟩
end FD
namespace ST
open PySem.SetTable
end ST
namespace FD
open L2
end FD
namespace TS
def Ī{a:Type}(M:Yr)(A:B_)(E:B->h_->Prop)(J:h_->Prop)(m:StateT θ Sem a)(Q:a->θ->Prop)(b:θ):Prop:=∀s,J s->w_ M A (m.run b) (λr d=>J d/\Q r.1 r.2) E s
variable{Ô:h_->Prop}
def cQ{b:Type}{a:b}{Q:b->θ->Prop}(h:Q a Ó):Ī Ë I χ Ô (pure a:StateT θ Sem b) Q Ó:=λs d=>by rw[adA];exact k_ ⟨d,h⟩
def bI{g d:Type}{m:StateT θ Sem g}{f:g->StateT θ Sem d}{Q:d->θ->Prop}(h:Ī Ë I χ Ô m (λa b=>Ī Ë I χ Ô (f a) Q b) Ó):Ī Ë I χ Ô (m>>=f) Q Ó:=λs k=>by rw[StateT.run_bind];exact e_ (Wr (h s k) (λr j i=>i.2 j i.1) λ_ _ e=>e)
def sN{d:Type}{m:StateT θ Sem d}{Q g:d->θ->Prop}(h:Ī Ë I χ Ô m Q Ó)(j:∀a b,Q a b->g a b):Ī Ë I χ Ô m g Ó:=λs i=>Wr (h s i) (λr _ f=>⟨f.1,j _ _ f.2⟩) λ_ _ e=>e
def xG{Q:θ->θ->Prop}(h:Q Ó Ó):Ī Ë I χ Ô (get:StateT θ Sem θ) Q Ó:=λs a=>by rw[StateT.run_get];exact k_ ⟨a,h⟩
def mx{f:θ->θ}{Q:PUnit->θ->Prop}(h:Q ⟨⟩ (f Ó)):Ī Ë I χ Ô (modify f:StateT θ Sem PUnit) Q Ó:=λs a=>by rw[StateT.run_modify];exact k_ ⟨a,h⟩
def Ay{b:Type}{m:Sem b}{Q:b->θ->Prop}(h:∀s,Ô s->w_ Ë I m (λa d=>Ô d/\Q a Ó) χ s):Ī Ë I χ Ô (liftM m:StateT θ Sem b) Q Ó:=λs f=>by show w_ Ë I ((StateT.lift m:StateT θ Sem b).run Ó) _ χ s;rw[StateT.run_lift];exact e_ (Wr (h s f) (λa d g=>k_ g) λ_ _ e=>e)
def NN{M:Yr}{A:B_}{E:B->h_->Prop}{J:h_->Prop}{o k:Type}(f:Nat->k->StateT o Sem (ForInStep k))(I:Nat->k->o->Prop)(Q:k->o->Prop)(b:Nat)(g:∀i c st,i<b->I i c st->Ī M A E J (f i c) (λr d=>match r with|.done j=>Q j d|.yield j=>I (i+1) j d) st)(m:∀c st,I b c st->Q c st):∀(n a:Nat)(c:k)(st:o),a+n=b->I a c st->Ī M A E J (ad1 (List.range' a n 1) c f) Q st
 |0,a,c,st,e,h=>by
  rw[List.range'_zero,ZR];have:a=b:=by omega
  subst this;exact cQ (m c st h)|n+1,a,c,st,e,h=>by rw[List.range'_succ,aan];refine bI (sN (g a c st () h) λr d p=>?_);cases r with|done j=>exact cQ p|yield j=>exact NN f I Q b g m n (a+1) j d () p
def lD{e:Type}{f:Nat->e->StateT θ Sem (ForInStep e)}(a:Nat->e->θ->Prop){Q:e->θ->Prop}(p:b<=j)(k:∀i c d,i<j->a i c d->Ī Ë I χ Ô (f i c) (λr g=>match r with|.done m=>Q m g|.yield m=>a (i+1) m g) d)(o:∀c d,a j c d->Q c d){c:e}{d:θ}(h:a b c d):Ī Ë I χ Ô (ad1 [b:j] c f) Q d:=by
 rw[Std.Legacy.Range.forIn_eq_forIn_range'];have n:([b:j]:ac_).size=j-b:=by simp[Std.Legacy.Range.size]
 show Ī Ë I χ Ô (ad1 (List.range' b ([b:j]:ac_).size 1) c f) Q d;rw[n];exact NN f a Q j k o (j-b) b c d () h
structure Od(blt:Nat->Nat->Bool):Prop where
 ir:∀a,blt a a=D
 tr:∀a b c,blt a b=L->blt b c=L->blt a c=L
 nt:∀a b c,blt a c=L->blt a b=L\/blt b c=L
def ň(d:Nat->Nat->Bool)(a b:Nat):Prop:=d a b=L\/(d b a=D/\a<b)
variable{Θ:Nat->Nat->Bool}
def Od.le(O:Od Θ){a b c:Nat}(e:Θ b a=D)(d:Θ c b=D):Θ c a=D:=by cases h:Θ c a with|false=>rfl|true=>
 rcases O.nt _ b _ h with q|q;·rw[q]at d;cases d
 ·rw[q]at e;cases e
def Od.lt_le(O:Od Θ){a b c:Nat}(e:Θ a b=L)(d:Θ c b=D):Θ a c=L:=by
 rcases O.nt _ c _ e with q|q;·exact q
 ·rw[q]at d;cases d
def Od.le_lt(O:Od Θ){a b c:Nat}(d:Θ b a=D)(e:Θ b c=L):Θ a c=L:=by
 rcases O.nt _ a _ e with q|q;·rw[q]at d;cases d
 ·exact q
def Od.as(O:Od Θ){a b:Nat}(h:Θ a b=L):Θ b a=D:=by cases d:Θ b a with|false=>rfl|true=>have:=O.tr _ _ _ h d;rw[O.ir]at this;cases this
def ň.tr(O:Od Θ){a b c:Nat}(e:ň Θ a b)(d:ň Θ b c):ň Θ a c:=by
 rcases e with e|⟨e,f⟩
 · rcases d with d|⟨d,i2⟩;·exact .inl (O.tr _ _ _ e d)
   ·exact .inl (O.lt_le e d)
 · rcases d with d|⟨d,i2⟩;·exact .inl (O.le_lt e d)
   ·exact .inr ⟨O.le e d,by omega⟩
def ň.of_le(h:Θ j b=D)(i:b<j):ň Θ b j:=.inr ⟨h,i⟩
structure SB(a₀:Array ŏ)(kd:Ys)(p:Nat->Nat)(st:XQ):Prop where
 sz:(Ŕ st).size=a₀.size
 at':∀k,k<a₀.size->(Ŕ st)[k]?=a₀[p k]?lt:∀k,k<a₀.size->p k<a₀.size
 inj:∀a b,a<a₀.size->b<a₀.size->p a=p b->a=b
 kind:kindOf st=kd
 failed:ac1 st=U
 pend:abt st=#[]
def Ĭ(p:Nat->Nat)(i j k:Nat):Nat:=if i<=k/\k<j then p (i+j-1-k)else p k
def ŧ(p:Nat->Nat)(a b k:Nat):Nat:=if k=b then p a else if b<k/\k<=a then p (k-1)else p k
variable{Τ:Nat->Nat}
def SB.mirror{d:Array ŏ}{h:Ys}{f:XQ}(B:SB d h Τ f){i j:Nat}(o:j<=d.size):SB d h (Ĭ Τ i j) (setArr f (mirror (Ŕ f) i j ((j-i)/2)))where
 sz:=(mirror_size _ _ _ _).trans B.sz;at':=λk g=>by
  show(PyProof.Rows.mirror (Ŕ f) i j ((j-i)/2))[k]?=_;rw[getElem?_mirror_all (by rw[B.sz];exact o)];unfold Ĭ;split;·exact B.at' _ ()
  ·exact B.at' _ g
 lt:=λk g=>by
  unfold Ĭ;split;·exact B.lt _ ()
  ·exact B.lt _ g
 inj:=λa b n m e=>by
  unfold Ĭ at e;split at e<;>split at e;·have:=B.inj _ _ () () e;omega
  ·have:=B.inj _ _ () m e;omega
  ·have:=B.inj _ _ n () e;omega
  ·exact B.inj _ _ n m e
 kind:=B.kind;failed:=B.failed;pend:=B.pend
def SB.bubble{g:Array ŏ}{m:Ys}{h:XQ}(B:SB g m Τ h){d f:Nat}(i:d<g.size)(n:f<=d):SB g m (ŧ Τ d f) (setArr h (bubble (Ŕ h) d (d-f)))where
 sz:=(bubble_size _ _ _).trans B.sz;at':=λk j=>by
  show(PyProof.Rows.bubble (Ŕ h) d (d-f))[k]?=_;rw[getElem?_bubble (by rw[B.sz];exact i) _ (),show d-(d-f)=f by omega];unfold ŧ;split;·exact B.at' _ i
  · split;·exact B.at' _ ()
    ·exact B.at' _ j
 lt:=λk j=>by
  unfold ŧ;split;·exact B.lt _ i
  · split;·exact B.lt _ ()
    ·exact B.lt _ j
 inj:=λa b p o e=>by
  unfold ŧ at e;repeat' split at e
  all_goals first|omega|(have:=B.inj _ _ () () e;omega)
 kind:=B.kind;failed:=B.failed;pend:=B.pend
def Cm(M:Yr)(A:B_)(J:h_->Prop)(a:Array ŏ)(f:Ys)(d:Nat->Nat->Bool):Prop:=∀(i j:Nat)(x y:ŏ)(s:h_)(g:B->h_->Prop),a[i]?=Z x->a[j]?=Z y->J s->w_ M A (keyLt' f x.1 y.1) (λb e=>J e/\b=d i j) g s
def NO{f:Array ŏ}{m:Ys}{g:XQ}{Q:Bool%1->XQ->Prop}(C:Cm Ë I Ô f m Θ)(a:SB f m Τ g)(k:b<f.size)(i:j<f.size)(h:Q (Z (Θ (Τ b) (Τ j))) g):Ī Ë I χ Ô (ltAt' b j) Q g:=by
 have r:(Ŕ g)[b]?=Z (f[Τ b]'(a.lt b k)):=by rw[a.at' b k];simp[a.lt b k]
 have q:(Ŕ g)[j]?=Z (f[Τ j]'(a.lt j i)):=by rw[a.at' j i];simp[a.lt j i]
 rw[ltAt'_eq];refine bI (xG ?_);show Ī Ë I χ Ô (do let x<-elem' (Ŕ g) b;let y<-elem' (Ŕ g) j;lt' x y) Q g;rw[elem'_eq,elem'_eq,r,q];refine bI (cQ (bI (cQ ?_)));rw[lt'_eq];refine bI (xG ?_);rw[a.kind];refine bI (Ay λs n=>Yb (Wr (C (Τ b) (Τ j) _ _ s _ (by simp[a.lt b k]) (by simp[a.lt j i]) n) (λd u p=>?_) λ_ _ e=>e));obtain⟨o,rfl⟩:=p;exact⟨o,cQ h⟩
def Ea{a:XQ}{Q:Unit->XQ->Prop}(h:Q Unit.unit (setArr a (mirror (Ŕ a) b j ((j-b)/2)))):Ī Ë I χ Ô (reverseSlice' b j) Q a:=by rw[reverseSlice'_eq];exact mx h
structure Up(blt:Nat->Nat->Bool)(p:Nat->Nat)(n N:Nat):Prop where
 so:∀a b,a<b->b<n->ň blt (p a) (p b)lo:∀a,a<n->p a<n
 re:∀a,n<=a->a<N->p a=a
def Up.next(O:Od Θ){n N:Nat}(d:Up Θ Τ n N)(q:1<=n)(m:n<N)(h:Θ (Τ n) (Τ (n-1))=D):Up Θ Τ (n+1) N where
 so:=λa b k p=>by
  by_cases g:b<n;·exact d.so a b k g
  · have i:b=n:=by omega
    subst i;have e:ň Θ (Τ (b-1)) (Τ b):=.of_le h (by rw[d.re b (rl _) m];exact d.lo _ ());by_cases f:a=b-1;·subst f;exact e
    ·exact(d.so a (b-1) () ()).tr O e
 lo:=λa f=>by
  by_cases j:a<n;·have:=d.lo a j;omega
  · have:a=n:=by omega
    subst this;rw[d.re a (rl _) m];omega
 re:=λa f o=>d.re a () o
def NP{e:Array ŏ}{o:Ys}{i:XQ}{Q:AscSt->XQ->Prop}(O:Od Θ)(C:Cm Ë I Ô e o Θ)(d:SB e o Τ i)(s:1<=b)(m:b<=j)(r:j<=e.size)(a:Up Θ Τ b e.size)(h:∀n,b<=n->n<=j->Up Θ Τ n e.size->(n=j\/Θ (Τ n) (Τ (n-1))=L)->Q (U,n) i):Ī Ë I χ Ô (ascLoop b j) Q i:=by
 unfold ascLoop;refine lD (a:=λx c f=>f=i/\c=(U,x)/\b<=x/\Up Θ Τ x e.size) m ?_ ?_ ⟨rfl,rfl,rl _,a⟩;·rintro x c f q⟨rfl,rfl,g,k⟩;dsimp!;refine bI (NO C d () () ?_);cases p:Θ (Τ x) (Τ (x-1))with                    |true=>simp![if_true];exact cQ (h x g () k (.inr p))|false=>simp![x_,if_false];exact cQ ⟨rfl,rfl,by omega,k.next O () () p⟩
 ·rintro c f⟨rfl,rfl,g,k⟩;exact h j g (rl _) k (.inl rfl)
structure Dn(blt:Nat->Nat->Bool)(p:Nat->Nat)(n N:Nat):Prop where
 so:∀a b,a<b->b<n->ň blt (p b) (p a)lo:∀a,a<n->p a<n
 re:∀a,n<=a->a<N->p a=a
structure Dq(blt:Nat->Nat->Bool)(p:Nat->Nat)(c n N:Nat):Prop where
 cn:c<n
 d1:∀a b,a<b->b<c->ň blt (p b) (p a)d2:∀a b,a<c->c<=b->b<n->blt (p b) (p a)=L
 d3:∀a b,c<=a->a<b->b<n->blt (p a) (p b)=D/\blt (p b) (p a)=D/\p a<p b
 lo:∀a,a<n->p a<n
 re:∀a,n<=a->a<N->p a=a
def Dq.turn(d:Dq Θ Τ b j ι):Dn Θ (Ĭ Τ b j) j ι where
 so:=λa e i k=>by
  unfold Ĭ;by_cases g:b<=e
  · rw[if_pos ⟨g,k⟩];by_cases h:b<=a;·rw[if_pos ⟨h,by omega⟩];have:=d.d3 (b+j-1-e) (b+j-1-a) () () ();exact .inr ⟨this.2.1,this.2.2⟩
    ·rw[if_neg ()];exact .inl (d.d2 a _ () () ())
  ·rw[if_neg (),if_neg ()];exact d.d1 a e i ()
 lo:=λa f=>by
  unfold Ĭ;split;·exact d.lo _ ()
  ·exact d.lo _ f
 re:=λa f m=>by unfold Ĭ;rw[if_neg ()];exact d.re a f m
def Dq.one(d:Dq Θ Τ (b-1) b j):Dn Θ Τ b j where
 so:=λa e g h=>by
  by_cases f:e<b-1;·exact d.d1 a e g f
  ·exact .inl (d.d2 a e () () h)
 lo:=d.lo;re:=d.re
def Dn.turn(d:Dn Θ Τ b j):Up Θ (Ĭ Τ 0 b) b j where
 so:=λa e i g=>by unfold Ĭ;rw[if_pos ⟨Wm _,by omega⟩,if_pos ⟨Wm _,g⟩];exact d.so _ _ () ()
 lo:=λa f=>by unfold Ĭ;rw[if_pos ⟨Wm _,f⟩];exact d.lo _ ()
 re:=λa f h=>by unfold Ĭ;rw[if_neg ()];exact d.re a f h
def Dn.next(O:Od Θ){n N:Nat}(d:Dn Θ Τ n N)(p:1<=n)(i:n<N)(h:Θ (Τ n) (Τ (n-1))=L):Dq Θ Τ n (n+1) N where
 cn:=by omega
 d1:=d.so;d2:=λa b f j m=>by
  have:b=n:=by omega
  subst this;by_cases e:a=b-1;·subst e;exact h
  · rcases d.so a (b-1) () ()with q|⟨q,_⟩;·exact O.tr _ _ _ h q
    ·exact O.lt_le h q
 d3:=λa b f o j=>by omega
 lo:=λa f=>by
  by_cases g:a<n;·have:=d.lo a g;omega
  · have:a=n:=by omega
    subst this;rw[d.re a (rl _) i];omega
 re:=λa f k=>d.re a () k
def Dq.next(O:Od Θ){c n N:Nat}(d:Dq Θ Τ c n N)(m:n<N)(p:Θ (Τ n) (Τ (n-1))=D)(i:Θ (Τ (n-1)) (Τ n)=D):Dq Θ Τ c (n+1) N where
 cn:=by have:=d.cn;omega
 d1:=d.d1;d2:=λa b f o u=>by
  by_cases g:b<n;·exact d.d2 a b f o g
  · have:b=n:=by omega
    subst this;exact O.le_lt i (d.d2 a (b-1) f (by have:=d.cn;omega) ())
 d3:=λa b f k o=>by
  by_cases g:b<n;·exact d.d3 a b f k g
  · have:b=n:=by omega
    subst this;have h:Τ a<Τ b:=by have:=d.lo a ();rw[d.re b (rl _) m];exact this
    by_cases e:a=b-1;·subst e;exact⟨i,p,h⟩
    ·obtain⟨r,q,_⟩:=d.d3 a (b-1) f () ();exact⟨O.le i r,O.le q p,h⟩
 lo:=λa f=>by
  by_cases j:a<n;·have:=d.lo a j;omega
  · have:a=n:=by omega
    subst this;rw[d.re a (rl _) m];omega
 re:=λa f s=>d.re a () s
def Az{f:Array ŏ}{i:Ys}{o:XQ}{Q:Nat%1->XQ->Prop}(O:Od Θ)(C:Cm Ë I Ô f i Θ)(e:SB f i Τ o)(s:1<=b)(k:b<=j)(r:j<=f.size)(d:Dn Θ Τ b f.size)(h:∀m p g,SB f i p g->1<=m->m<=j->Up Θ p m f.size->Q (Z m) g):Ī Ë I χ Ô (tail3 b j) Q o:=by unfold tail3;refine bI (Ea ?_);have q:=e.mirror (i:=0) (j:=b) ();exact bI (NP O C q s k r d.turn λm u n a _=>cQ (h m _ _ q () n a))
def NQ{g:Array ŏ}{r:Ys}{w:XQ}{Q:DescSt->XQ->Prop}(O:Od Θ)(C:Cm Ë I Ô g r Θ)(d:SB g r Τ w)(h1:2<=b)(v:b<=j)(hn:j<=g.size)(a:Dq Θ Τ (b-1) b g.size)(h:∀m f i k,SB g r i k->b<=m->m<=j->f+1<=m->Dq Θ i (m-(f+1)) m g.size->Q (U,m,f) k):Ī Ë I χ Ô (descLoop b j) Q w:=by
 unfold descLoop;refine lD (a:=λx c k=>∃f i,c=(U,x,f)/\SB g r i k/\b<=x/\f+1<=x/\Dq Θ i (x-(f+1)) x g.size) v ?_ ?_ ⟨0,Τ,rfl,d,rl _,by omega,a⟩;·rintro x c k hx⟨f,i,rfl,o,q,u,n⟩;dsimp!;refine bI (NO C o () () ?_);cases s:Θ (i x) (i (x-1))with
 |true=>
 simp![if_true];by_cases p:f>0
 · rw[if_pos p];refine bI (Ea (cQ ?_));have H:=o.mirror (i:=x-(f+1)) (j:=x) ();refine⟨0,_,rfl,H,by omega,by omega,?_⟩;have E:=n.turn;have hc:=n.cn;refine E.next O () () ?_;have A:Ĭ i (x-(f+1)) x x=i x:=by unfold Ĭ;rw[if_neg ()]
   have z:Ĭ i (x-(f+1)) x (x-1)=i (x-(f+1)):=by unfold Ĭ;rw[if_pos ()];congr 1;omega
   rw[A,z];by_cases e:x-(f+1)=x-1;·rw[e];exact s
   ·exact O.lt_le s (n.d3 (x-(f+1)) (x-1) (rl _) () ()).1
 · rw[if_neg p];have e:f=0:=by omega
   subst e;exact cQ ⟨0,i,rfl,o,by omega,by omega,n.one.next O () () s⟩                |false=>simp![x_,if_false];refine bI (NO C o () () ?_);cases y:Θ (i (x-1)) (i x)with|true=>simp![if_true];exact cQ (h x f i k o q () u n)|false=>simp![x_,if_false];refine cQ ⟨f+1,i,rfl,o,by omega,by omega,?_⟩;have:=n.next O () s y;rwa[show x+1-(f+1+1)=x-(f+1)by omega]
 ·rintro c k⟨f,i,rfl,o,q,u,n⟩;exact h j f i k o q (rl _) u n
def o6{f:Array ŏ}{p:Ys}{u:XQ}{Q:Nat%1->XQ->Prop}(O:Od Θ)(C:Cm Ë I Ô f p Θ)(d:SB f p Τ u)(E:1<=b)(r:b+1<=j)(q:j<=f.size)(a:Dq Θ Τ b (b+1) f.size)(h:∀m o i,SB f p o i->1<=m->m<=j->Up Θ o m f.size->Q (Z m) i):Ī Ë I χ Ô (descPart b j) Q u:=by
 unfold descPart;refine bI (Ay λs y=>YT ⟨y,?_⟩);refine bI (NQ O C d () r q a λm k o i w z n A v=>?_);dsimp!;by_cases g:k>0;·rw[if_pos g];exact bI (Ea (Az O C (w.mirror ()) () n q v.turn h))
 · rw[if_neg g];have e:k=0:=by omega
   subst e;exact Az O C w () n q v.one h
def II{j:Array ŏ}{kd:Ys}{H:XQ}{Q:Nat%1->XQ->Prop}(O:Od Θ)(C:Cm Ë I Ô j kd Θ)(g:SB j kd Τ H)(h1:1<=b)(hn:b<=j.size)(r:∀k,k<j.size->Τ k=k)(h:∀m p' u,SB j kd p' u->1<=m->m<=b->Up Θ p' m j.size->Q (Z m) u):Ī Ë I χ Ô (countRun' 0 b) Q H:=by
 rw[countRun0_eq];refine bI (NP O C g (rl 1) h1 hn ⟨λa d A s=>by omega,λa o=>by rw[r a ()];exact o,λa _ hN=>r a hN⟩ λn w v f c'=>?_);dsimp!;by_cases p:n=b;·rw[if_pos (by simpa using p)];exact cQ (h n Τ H g w v f)
 · rw[if_neg (by simpa using p)];have y:Θ (Τ n) (Τ (n-1))=L:=c'.resolve_left p;by_cases z:n>1;·rw[if_pos z];refine bI (NO C g () () ?_);cases hr:Θ (Τ 0) (Τ (n-1))with                |true=>simp![if_true];exact cQ (h n Τ H g w v f)|false=>
     simp![x_,if_false];have B':=g.mirror (i:=0) (j:=n) ();have b':∀a,a<n->Θ (Τ a) (Τ 0)=D:=λa o=>by
      by_cases e:a=0;·subst e;exact O.ir _
      · rcases f.so 0 a () o with q|q;·exact O.as q
        ·exact q.1
     have a':∀a,a<n->Θ (Τ (n-1)) (Τ a)=D:=λa o=>by
      by_cases e:a=n-1;·subst e;exact O.ir _
      · rcases f.so a (n-1) () ()with q|q;·exact O.as q
        ·exact q.1
     have eq:∀a d,a<n->d<n->Θ (Τ a) (Τ d)=D:=λa d o s=>O.le (a' d s) (O.le hr (b' a o));have i:Dq Θ (Ĭ Τ 0 n) n (n+1) j.size:=by
      have Dm:Dn Θ (Ĭ Τ 0 n) n j.size:=⟨λa d A s=>by unfold Ĭ;rw[if_pos ⟨Wm _,s⟩,if_pos ⟨Wm _,by omega⟩];refine .of_le (eq _ _ () ()) ?_;rw[r _ (),r _ ()];omega,λa o=>by unfold Ĭ;rw[if_pos ⟨Wm _,o⟩,r _ ()];omega,λa o hN=>by unfold Ĭ;rw[if_neg (),r _ hN]⟩;refine Dm.next O () () ?_;have e1:Ĭ Τ 0 n n=Τ n:=by unfold Ĭ;rw[if_neg ()]
      have e2:Ĭ Τ 0 n (n-1)=Τ 0:=by unfold Ĭ;rw[if_pos ()];congr 1;omega
      rw[e1,e2];exact O.lt_le y (eq 0 (n-1) () ())
     exact bI (Ea (o6 O C B' () () hn i h))
   · rw[if_neg z];have E:n=1:=by omega
     subst E;refine o6 O C g () () hn ?_ h;have Dm:Dn Θ Τ 1 j.size:=⟨λa d A s=>by omega,f.lo,f.re⟩;exact Dm.next O () () y
def Sf{m:Array ŏ}{A:Ys}{st:XQ}{Q:Bool->XQ->Prop}(O:Od Θ)(C:Cm Ë I Ô m A Θ)(g:SB m A Τ st)(k':1<=j)(b':j<=b)(hn:b<=m.size)(f:Up Θ Τ j m.size)(h:∀n p,SB m A n p->Up Θ n b m.size->Q L p):Ī Ë I χ Ô (binarySort' 0 b j) Q st:=by
 rw[binarySort'_eq];simp![YE];rw[show max j 1=j by omega];refine bI (sN (lD (a:=λk c p=>∃n,c=(U,Unit.unit)/\j<=k/\SB m A n p/\Up Θ n k m.size) (Q:=λc p=>∃n,c=(U,Unit.unit)/\SB m A n p/\Up Θ n b m.size) b' ?_ ?_ ⟨Τ,rfl,rl _,g,f⟩) ?_)
 · rintro k c p hk⟨n,rfl,i',z,u⟩;have E:n k=k:=u.re k (rl _) ();refine bI (sN (lD (a:=λx c s=>s=p/\∃l r,c=(U,l,r)/\l<=r/\r<=k/\r-l<=k-x/\(∀i,i<l->Θ (n k) (n i)=D)/\(∀i,r<=i->i<k->Θ (n k) (n i)=L)) (Q:=λc s=>s=p/\∃l r,c=(U,l,r)/\l<=k/\(∀i,i<l->Θ (n k) (n i)=D)/\(∀i,l<=i->i<k->Θ (n k) (n i)=L)) (Wm k) ?_ ?_ ⟨rfl,0,k,rfl,by omega,by omega,by omega,λi hi=>by omega,λi h1 h2=>by omega⟩) ?_)
   · rintro x c s hx⟨rfl,l,r,rfl,c',y,hm,v,w⟩;dsimp!;by_cases H:l>=r
     · rw[if_pos H];have:l=r:=by omega
       subst this;exact cQ ⟨rfl,l,l,rfl,y,v,w⟩
     ·rw[if_neg H];refine bI (NO C z () () ?_);cases o:Θ (n k) (n ((l+r)/2))with
       |true=>
        simp![if_true];refine cQ ⟨rfl,l,(l+r)/2,rfl,by omega,by omega,by omega,v,λi i1 i2=>?_⟩;by_cases e:i=(l+r)/2;·subst e;exact o
        · rcases u.so ((l+r)/2) i () i2 with q|q;·exact O.tr _ _ _ o q
          ·exact O.lt_le o q.1|false=>
        simp![x_,if_false];refine cQ ⟨rfl,(l+r)/2+1,r,rfl,by omega,by omega,by omega,λi i1=>?_,w⟩;by_cases e:i=(l+r)/2;·subst e;exact o
        · rcases u.so i ((l+r)/2) () ()with q|q;·exact O.le (O.as q) o
          ·exact O.le q.1 o
   · rintro c s⟨rfl,l,r,rfl,c',y,hm,v,w⟩;have:l=r:=by omega
     subst this;exact⟨rfl,l,l,rfl,y,v,w⟩
   · rintro c s⟨rfl,l,r,rfl,d',v,w⟩;show Ī Ë I χ Ô (do moveDown' k l;pure (YJ (U,Unit.unit))) _ _;rw[moveDown'_eq];refine bI (mx (cQ ⟨ŧ n k l,rfl,by omega,z.bubble () d',?_⟩));refine⟨λa d a' hb=>?_,λa ha=>?_,λa ha hN=>?_⟩
     · have c1:ŧ n k l l=n k:=by unfold ŧ;rw[if_pos rfl]
       have c2:∀x,l<x->x<=k->ŧ n k l x=n (x-1):=λx h1 h2=>by unfold ŧ;rw[if_neg (),if_pos ⟨h1,h2⟩]
       have c3:∀x,x<l->ŧ n k l x=n x:=λx h1=>by unfold ŧ;rw[if_neg (),if_neg ()]
       by_cases e':d=l;·subst e';rw[c1,c3 a a'];exact .of_le (v a ()) (by rw[E];exact u.lo a ())
       · by_cases f':l<d
         · rw[c2 d f' ()];by_cases g':a=l;·subst g';rw[c1];exact .inl (w (d-1) () ())
           · by_cases h':l<a;·rw[c2 a h' ()];exact u.so (a-1) (d-1) () ()
             ·rw[c3 a ()];exact u.so a (d-1) () ()
         ·rw[c3 a (),c3 d ()];exact u.so a d a' ()
     · unfold ŧ;split;·rw[E];omega
       · split;·have:=u.lo (a-1) ();omega
         ·have:=u.lo a ();omega
     ·unfold ŧ;rw[if_neg (),if_neg ()];exact u.re a () hN
 ·rintro c p⟨n,rfl,_,z,u⟩;exact⟨n,rfl,z,u⟩
 ·rintro c p⟨n,rfl,z,u⟩;exact cQ (h n p z u)
structure Sg(a₀:Array ŏ)(blt:Nat->Nat->Bool)(p:Nat->Nat)(xs:Array ŏ):Prop where
 sz:xs.size=a₀.size
 at':∀k,k<a₀.size->xs[k]?=a₀[p k]?lt:∀k,k<a₀.size->p k<a₀.size
 inj:∀a b,a<a₀.size->b<a₀.size->p a=p b->a=b
 so:∀a b,a<b->b<a₀.size->ň blt (p a) (p b)
def Dne(a:Array ŏ)(d:Nat->Nat->Bool)(b:XQ):Prop:=∃p,Sg a d p (Ŕ b)/\ac1 b=U/\abt b=#[(0,a.size,0)]
def SB.done{b:Array ŏ}{e:Ys}{d:XQ}(B:SB b e Τ d)(a:Up Θ Τ b.size b.size):Dne b Θ (setPending d ((abt d).push (0,b.size,0))):=⟨Τ,⟨B.sz,B.at',B.lt,B.inj,a.so⟩,B.failed,by show(abt d).push _=_;rw[B.pend];rfl⟩
def NR{d:Array ŏ}{j:Ys}{y:XQ}{Q:Unit->XQ->Prop}(O:Od Θ)(C:Cm Ë I Ô d j Θ)(b:SB d j Τ y)(hp:∀k,k<d.size->Τ k=k)(h2:2<=d.size)(w:d.size<64)(h:∀H e,Sg d Θ H (Ŕ e)->ac1 e=U->Q Unit.unit e):Ī Ë I χ Ô sortRuns' Q y:=by
 rw[sortRuns'_eq];refine bI (xG ?_);dsimp!;have r:minRun' d.size d.size 0=d.size:=by
  obtain⟨f,hf⟩:∃f,d.size=f+1:=⟨d.size-1,by omega⟩;have:minRun' (f+1) d.size 0=d.size:=by rw[minRun'_succ,if_pos w];rfl
  rwa[<-hf]at this
 simp![b.sz,r];refine bI (sN (lD (a:=λx c e=>(x=0/\c=(U,0)/\SB d j Τ e)\/(1<=x/\c=(U,d.size)/\Dne d Θ e)) (Q:=λc e=>c=(U,d.size)/\Dne d Θ e) (Wm _) ?_ ?_ (.inl ⟨rfl,rfl,b⟩)) ?_)
 · rintro x c e hx(⟨rfl,rfl,B'⟩|⟨a',rfl,a⟩)
   · dsimp!;rw[if_neg ()];simp![Nat.sub_zero,Nat.min_self,YE];refine bI (II O C B' () (rl _) hp λm p2 q o v u z=>?_);dsimp!;by_cases i:m<d.size
     · rw[if_pos i];refine bI (Ay λs hs=>YT ⟨hs,?_⟩);refine bI (Sf O C o v u (rl _) z λp3 p A U3=>?_);simp![YM,x_,if_false];refine bI (xG ?_);have n:(abt p).back?=U:=by rw[A.pend];rfl
       rw[n];dsimp!;exact bI (mx (cQ (.inr ⟨by omega,rfl,A.done U3⟩)))
     · rw[if_neg i];have hm:m=d.size:=by omega
       subst hm;refine bI (xG ?_);have n:(abt q).back?=U:=by rw[o.pend];rfl
       rw[n];dsimp!;exact bI (mx (cQ (.inr ⟨by omega,rfl,o.done z⟩)))
   ·dsimp!;rw[if_pos (rl _)];exact cQ ⟨rfl,a⟩
 · rintro c e(⟨hx,_,_⟩|⟨_,hc,a⟩);·omega
   ·exact⟨hc,a⟩
 · rintro c e⟨rfl,E,D1,D2,D3⟩;dsimp!;refine bI (sN (lD (a:=λ_ c g=>g=e/\c=(U,Unit.unit)) (Q:=λc g=>g=e/\c=(U,Unit.unit)) (Wm _) ?_ (λ_ _ hh=>hh) ⟨rfl,rfl⟩) ?_);·rintro x c g _⟨rfl,rfl⟩;refine bI (xG ?_);rw[if_pos (by rw[D3];exact rl 1)];exact cQ ⟨rfl,rfl⟩
   ·rintro c g⟨rfl,rfl⟩;exact cQ (h E _ D1 D2)
def JT(s:h_)(H:O_):h_->Prop:=λb=>∃a,s.toks<=a/\b={s with heap:=H,toks:=a}
open L2
def xH(b:Bool)(x y:B):keyLt' (tuples' b) x y=(do
 let d<-ZJ x;let a<-ZJ y
 for((p,q),i)in(d.toList.zip a.toList).zipIdx do if !(<-eqBool p q)then return<-oneLt' (b&&i==0) p q
 return o_ (d.size<a.size)):=rfl
def xI(v:B):firstOfTuple' v=(do
 if(<-acC v)!=.type "tuple"then return U
 return(<-ZJ v)[0]?):=rfl
def o7(h:O_)(A:B_)(z:Bool)(p q:B)(e l:Bool):Prop:=∀(a:n_)(w:y_)(E:B->h_->Prop)(s:h_),s.heap=h->(∀Q:Bool->h_->Prop,Q e s->w_ (D_ a w) A (eqBool p q) Q E s)/\(∀(b:Bool)(Q:Bool->h_->Prop),(b=L->z=L)->Q l s->w_ (D_ a w) A (oneLt' b p q) Q E s)
def sO(x:Bool){M:Yr}{A:B_}{E:B->h_->Prop}{s:h_}{Q:Bool->h_->Prop}(h:Q x s):w_ M A (truthOfDropped (.bool x)) Q E s:=WZ h
def wf(e:O_)(A:B_)(z:Bool)(a b:Str)(t u:Tok):o7 e A z (.str a t) (.str b u) (o_ (a=b)) (o_ (a.cps.toList<b.cps.toList)):=λd w E s _=>⟨λQ h=>wpAny_eqBool_str h,λf Q _ h=>by cases f with|true=>exact oneLt_str h|false=>rw[acn];simp![x_,if_false];exact e_ (acr (sO _ h):w_ (D_ d w) A (Wh .Lt (.str a t) (.str b u)) _ E s)⟩
def wg(e:O_)(A:B_)(z:Bool)(a b:Int)(t u:Tok):o7 e A z (.int a t) (.int b u) (a==b) (o_ (a<b)):=λd w E s _=>⟨λQ h=>wpAny_eqBool_int h,λf Q _ h=>by cases f with|true=>exact oneLt_int h|false=>rw[acn];simp![x_,if_false];exact e_ (PyProof.Rows.lt_int (sO _ h):w_ (D_ d w) A (Wh .Lt (.int a t) (.int b u)) _ E s)⟩
def IJ(e:O_)(A:B_)(z:Bool)(a b:Bool):o7 e A z (.bool a) (.bool b) (a==b) (o_ (b2i a<b2i b)):=λd w E s _=>⟨λQ h=>ab_ a b d w E Q h,λf Q _ h=>by cases f with|true=>rw[acn];simp![if_true];refine e_ (wpAny_cRoomFor_byValue rfl ?_);refine e_ (wpAny_callSpecialIfBound?_slot (ac0 s a) F.slot_bool_lt (call_gives F.slot_bool_lt (ac0 s a) F.entry_int_lt (F.args_int_lt_2 _ _) (gives_int_lt_bools a b) ?_));exact sO _ h|false=>rw[acn];simp![x_,if_false];exact e_ (PyProof.Rows.lt_bool (sO _ h):w_ (D_ d w) A (Wh .Lt (.bool a) (.bool b)) _ E s)⟩
def el:(Bool×Bool)%0->Bool%1|[]=>U|(L,_)::r=>el r|(D,l)::_=>Z l
def gu(k l:Bool)(a:(Bool×Bool)%0):(el ((k,l)::a)).getD D=if k=L then(el a).getD D else l:=by cases k<;>rfl
inductive sP(h:O_)(A:B_):Bool->(B×B)%0->(Bool×Bool)%0->Prop|nil{z:Bool}:sP h A z [] []|cons{z:Bool}{p q:B}{e l:Bool}{ps:(B×B)%0}{rs:(Bool×Bool)%0}:o7 h A z p q e l->sP h A D ps rs->sP h A z ((p,q)::ps) ((e,l)::rs)
def AA{a:n_}{w:y_}{A:B_}{E:B->h_->Prop}{s:h_}(b:Bool){R:Bool%1×Unit->h_->Prop}:∀{z:Bool}{l:(B×B)%0}{d:(Bool×Bool)%0}(k:Nat),sP s.heap A z l d->(k=0->z=L)->R (el d,Unit.unit) s->w_ (D_ a w) A (ad1 (l.zipIdx k) ((U,Unit.unit):Bool%1×Unit) λx __s=>match x with|((p,q),i)=>do
 let __do_lift<-eqBool p q if(!__do_lift)=L then do
 let __do_lift<-oneLt' (b&&i==0) p q
 pure (ForInStep.done (Z __do_lift,Unit.unit))else pure (YJ (U,Unit.unit))) R E s
 |_,_,_,k,.nil,_,h=>by rw[abV,ZR];exact k_ h|_,_,_,k,.cons (p:=p) (q:=q) (e:=e) (l:=l) i r,g,h=>by rw[abx,aan];refine e_ ?_;dsimp!;refine e_ ((i a w E s rfl).1 _ ?_);cases e with|true=>simp![YM,x_,if_false];exact k_ (AA b (k+1) r (λz=>absurd z (Nat.succ_ne_zero k)) h)|false=>simp![ZT,if_true];exact e_ ((i a w E s rfl).2 _ _ (λf=>g (by simp at f;exact f.2)) (k_ (k_ h)))
def AB(b:Bool){a c:O}{g e:Array B}{i:(Bool×Bool)%0}{Q:Bool->h_->Prop}(n:f.heap.IsTuple a g)(m:f.heap.IsTuple c e)(k:sP f.heap I L (g.toList.zip e.toList) i)(h:Q ((el i).getD (o_ (g.size<e.size))) f):w_ (D_ s r) I (keyLt' (tuples' b) (.ref a) (.ref c)) Q χ f:=by rw[xH];obtain⟨w,p,_,z,u⟩:=n;obtain⟨v,o,_,y,q⟩:=m;refine e_ (aax p u (e_ (aax o q ?_)));refine e_ (AA b 0 k (λ_=>rfl) ?_);dsimp!;cases j:el i with|none=>rw[j]at h;exact k_ h|some d=>rw[j]at h;exact k_ h
inductive m5(h:O_):B%0->B%0->Prop|nil:m5 h [] []|cons{a:O}{xs:Array B}{f:B}{vs fs:B%0}:h.IsTuple a xs->xs[0]?=Z f->m5 h vs fs->m5 h (.ref a::vs) (f::fs)
def sQ{a:n_}{w:y_}{A:B_}{E:B->h_->Prop}{s:h_}{R:Option B%0->h_->Prop}:∀{b:B%0}{fs:B%0},m5 s.heap b fs->R (fs.map Z) s->w_ (D_ a w) A (b.mapM firstOfTuple') R E s|_,_,.nil,h=>by rw[List.mapM_nil];exact k_ h|_,_,.cons f e r,h=>by rw[List.mapM_cons,xI];obtain⟨o,g,c,n,d⟩:=f;refine e_ (e_ (Zx (T:="tuple") ⟨o,g,c⟩ ?_));rw[if_neg #v[]];refine e_ (aax g d (k_ ?_));rw[e];refine e_ (sQ r ?_);exact k_ h
def NS(p q:B)(e l:Bool):Prop:=∀(a:n_)(w:y_)(A:B_)(E:B->h_->Prop)(s:h_),(∀Q:Bool->h_->Prop,Q e s->w_ (D_ a w) A (eqBool p q) Q E s)/\(∀Q:B->h_->Prop,Q (.bool l) s->w_ (D_ a w) A (richCompare .Lt p q) Q E s)
inductive o8:(B×B)%0->(Bool×Bool)%0->Prop|nil:o8 [] []|cons{p q:B}{e l:Bool}{ps:(B×B)%0}{rs:(Bool×Bool)%0}:NS p q e l->o8 ps rs->o8 ((p,q)::ps) ((e,l)::rs)
section
open PySem.SeqAt
open PySem.AutoSeq1(wpAny_loadPart')
open PySem.MeetsSeq PySem.MeetsSeq2 PySem.MeetsSeq3
def AC(l b:O)(j f:Array B)(n n2:Nat)(dd a':O%1)(sl H:Array (B%1))(v:(Bool×Bool)%0)(hi:o8 (j.toList.zip f.toList) v)(hz:j.size=f.size):Meets (XV.«tuple.__lt__» ⟨[.ref l,.ref b],[]⟩) (λ_ a s=>s.heap.get? l=Z {cls:=.type "tuple",dict:=dd,data:=.seq j n,slots:=sl}/\s.heap.get? b=Z {cls:=.type "tuple",dict:=a',data:=.seq f n2,slots:=H}/\a (.ok (.ret (.bool ((el v).getD D)))) s):=.of_wp λm w A a s h=>by
 obtain⟨z,g,d,u,os⟩:=s;obtain⟨hl,hb,h⟩:=h;have R:=abf;wp_walk using aaf hl,aaf hb,YZ _ (λrest b p=>b.1=U/\p=⟨z,g,d,u,os⟩/\∃k,o8 rest k/\a (.ok (.ret (.bool ((el k).getD D)))) ⟨z,g,d,u,os⟩) _;case turn=>rintro⟨y,x⟩rest b p⟨o,rfl,k,E,q⟩;cases E with|cons i r=>rename_i e lw b';rw[gu]at q;refine e_ ((i m w _ _ _).1 _ ?_);cases e with|true=>wp_walk;exact⟨rfl,rfl,_,r,by simpa using q⟩|false=>have I:=λQ h=>(i m w A.in1 (λe p=>a (.error e) p) ⟨z,g,d,u,os⟩).2 Q h;wp_walk using I;exact⟨_,rfl,by simpa using q⟩
 case fin=>rintro⟨b1,b2⟩p⟨o,rfl,k,E,q⟩;simp only at o;subst o;cases E;wp_walk;exact⟨_,rfl,by simpa[ZV,hz,el]using q⟩
 case h=>exact⟨rfl,rfl,v,hi,h⟩
end
def nZ:Str%0->Str%0->Bool|x::b,y::a=>if x=y then nZ b a else o_ (x.cps.toList<y.cps.toList)|_,_=>D
def o9:∀{f g:Str%0}{d b:B%0},f.length=g.length->Ú (f.map V.str) d->Ú (g.map V.str) b->∃e,o8 (d.zip b) e/\(el e).getD D=nZ f g
 |[],[],d,b,_,v,n=>by cases v;exact⟨[],.nil,rfl⟩|k::f,j::g,d,b,u,v,n=>by cases v with|cons q p=>cases n with|cons m i=>obtain⟨e,r,i2⟩:=o9 (by simpa using u) p i;obtain⟨t,rfl⟩:=q;obtain⟨o,rfl⟩:=m;refine⟨(o_ (k=j),o_ (k.cps.toList<j.cps.toList))::e,.cons (λa w A E s=>⟨(wf s.heap A D k j t o a w E s rfl).1,λQ h=>(acr h:w_ (D_ a w) A (Wh .Lt (.str k t) (.str j o)) Q E s)⟩) r,?_⟩;rw[gu,i2];simp[nZ]
 |[],_::_,_,_,h,_,_=>by simp at h|_::_,[],_,_,h,_,_=>by simp at h
def uN{a:n_}{w:y_}:∀{d:Str%0}{b:B%0},Ú (d.map V.str) b->adW (acw a w) d b|[],b,v=>by cases v;exact .nil|k::d,b,v=>by cases v with|cons f e=>obtain⟨t,rfl⟩:=f;exact .cons (by show Y_ k (.str k t)=L;simp[Y_]) (uN e)
def Eb{k:Str%0}{j:B%0}(hu:I.units+8<cLine)(h1:Q.IsTuple e ξ.toArray)(h2:Q.IsTuple z j.toArray)(hl:H.length=k.length)(o:Ú (H.map V.str) ξ)(m:Ú (k.map V.str) j):o7 Q I D (.ref e) (.ref z) (o_ (H=k)) (nZ H k):=λi w E s hs=>by subst hs;obtain⟨⟨b',dd,A,sl⟩,p,y,n,v⟩:=id h1;obtain⟨⟨a',r,data2,q⟩,d,g,n2,f⟩:=id h2;simp only at y v g f;subst y v g f;refine⟨λa h=>PySem.wpAny_eqBool_tuple (knd:=acw i w) () ⟨_,_,_,p,rfl,rfl,by simpa using uN o⟩ ⟨_,_,_,d,rfl,rfl,by simpa using uN m⟩ h,λb a hb h=>?_⟩;cases b with|true=>exact absurd (hb rfl) #v[]|false=>
 rw[acn];simp![x_,if_false];obtain⟨u,i1,i2⟩:=o9 hl o m;rw[<-i2]at h;have hz:ξ.toArray.size=j.toArray.size:=by have e1:=o.length;have e2:=m.length;simp at e1 e2⊢;omega
 refine e_ ?_;exact abz (op:=.Lt) ⟨_,p,rfl⟩ ⟨_,d,rfl⟩ PySem.F.slot_tuple_lt PySem.F.entry_tuple_lt (PySem.F.args_tuple_lt_2 _ _) (AC e z ξ.toArray j.toArray n n2 dd r sl q u i1 hz) ⟨p,d,show T_ ((el u).getD D)≠ab8/\_ from⟨(λx=>nomatch x),sO _ h⟩⟩ ()
open FD
def Ģ:N->Nat|.str _=>1|.int _=>2|.bl _=>3|.tup ds=>(match du ds with|some a=>4+a.length|none=>0)|_=>0
def ś:N->N->Bool|.str a,.str b=>o_ (a=b)|.int a,.int b=>a==b|.bl a,.bl b=>a==b|.tup a,.tup b=>(match du a,du b with|some x,Z y=>o_ (x=y)|_,_=>D)|_,_=>D
def ĭ:N->N->Bool|.str a,.str b=>o_ (a.cps.toList<b.cps.toList)|.int a,.int b=>o_ (a<b)|.bl a,.bl b=>o_ (b2i a<b2i b)|.tup a,.tup b=>(match du a,du b with|some x,Z y=>nZ x y|_,_=>D)|_,_=>D
def ġ:N%0->N%0->Bool|x::b,y::a=>if ś x y then ġ b a else ĭ x y|_,_=>D
def Ĕ(a:N%0):Nat%0:=a.map Ģ
def lE(a:Nat%0):Bool:=a.all λk=>k !=0
def jQ:∀{ds:N%0}{a:Str%0},du ds=Z a->ds=a.map N.str|[],a,h=>by cases h;rfl|.str x::r,a,h=>by obtain⟨d,b,rfl⟩:=XJ.mp (show(du r).map (x::·)=Z a from h);rw[jQ b];rfl|.non::_,_,h=>by cases h|.bl _::_,_,h=>by cases h|.int _::_,_,h=>by cases h|.tup _::_,_,h=>by cases h|.lst _::_,_,h=>by cases h|.scr _::_,_,h=>by cases h|.exn _::_,_,h=>by cases h|.obj _ _::_,_,h=>by cases h
def j4(h:Ģ (.tup E)≠0):∃a,du E=Z a/\Ģ (.tup E)=4+a.length:=by
 simp![Ģ]at h⊢;split at h;·rename_i a e;exact⟨a,e,rfl⟩
 ·exact absurd rfl h
def pb(h:ś i v=L):i=v:=by
 cases i<;>cases v<;>simp![ś,x_,decide_eq_true_eq,beq_iff_eq]at h<;>try(rw[h];done)
 split at h;·rename_i b a;rw[jQ b,jQ a,of_decide_eq_true h]
 ·cases h
def wj(h:Ģ i≠0):ś i i=L:=by
 cases i<;>try(simp[Ģ]at h;done)
 all_goals try(simp[ś];done)
 obtain⟨a,e,_⟩:=j4 h;simp[ś,e]
def AD:∀a:Str%0,nZ a a=D|[]=>rfl|x::a=>by rw[nZ,if_pos rfl];exact AD a
def Gq:∀{h g f:Str%0},nZ h g=L->nZ g f=L->nZ h f=L
 |x::h,y::g,z::f,a,b=>by
  unfold nZ at a b⊢;by_cases i:x=y
  · subst i;rw[if_pos rfl]at a;by_cases d:x=z;·rw[if_pos d]at b⊢;exact Gq a b
    ·rw[if_neg d]at b⊢;exact b
  · rw[if_neg i]at a;by_cases d:y=z;·subst d;rw[if_neg i];exact a
    ·rw[if_neg d]at b;have:=List.lt_trans (of_decide_eq_true a) (of_decide_eq_true b);rw[if_neg λe=>by subst e;exact List.lt_irrefl _ this];exact decide_eq_true this|[],_,_,a,_=>by simp[nZ]at a|_::_,[],_,a,_=>by simp[nZ]at a|_::_,_::_,[],_,b=>by simp[nZ]at b
def AE(a b:Str)(h:¬a.cps.toList<b.cps.toList)(d:¬b.cps.toList<a.cps.toList):a=b:=by have e:a.cps.toList=b.cps.toList:=List.le_antisymm (List.not_lt.mp d) (List.not_lt.mp h);obtain⟨⟨a⟩⟩:=a;obtain⟨⟨b⟩⟩:=b;simp at e;rw[e]
def uO:∀{xs ys:Str%0},xs.length=ys.length->nZ xs ys=D->nZ ys xs=D->xs=ys
 |[],[],_,_,_=>rfl|x::xs,y::ys,d,b,a=>by
  unfold nZ at b a;by_cases e:x=y;·subst e;rw[if_pos rfl]at b a;rw[uO (by simpa using d) b a]
  ·rw[if_neg e]at b;rw[if_neg (WO e)]at a;exact absurd (AE _ _ (of_decide_eq_false b) (of_decide_eq_false a)) e|[],_::_,h,_,_=>by simp at h|_::_,[],h,_,_=>by simp at h
def wm(x:N):ĭ x x=D:=by cases x with
 |str a=>simp![ĭ,decide_eq_false_iff_not];exact List.lt_irrefl _|int a=>simp[ĭ]|bl a=>cases a<;>rfl|tup ds=>
 simp![ĭ];split;·rename_i x y d b;rw[d]at b;cases b;exact AD x
 ·rfl|_=>rfl
variable{η:N}
def wn(b:ĭ i v=L)(a:ĭ v η=L):ĭ i η=L:=by
 cases i<;>cases v<;>simp![ĭ,x_,decide_eq_true_eq]at b<;>cases η<;>simp![ĭ,x_,decide_eq_true_eq]at a⊢;·omega
 ·omega
 ·exact List.lt_trans b a
 · split at b
   · rename_i m k g f;split at a;·rename_i j h d e;rw[f]at d;cases d;rw[g,e];exact Gq b a
     ·cases a
   ·cases b
def AF(d:Ģ i=Ģ v)(h:Ģ i≠0)(g:ĭ i v=D)(f:ĭ v i=D):i=v:=by cases i with
 |str a=>cases v with|str b=>simp![ĭ,decide_eq_false_iff_not]at g f;rw[AE _ _ g f]|tup b=>obtain⟨_,_,e⟩:=j4 (show Ģ (.tup b)≠0 by rw[<-d];exact h);simp![Ģ]at d e;rw[e]at d;omega|_=>simp[Ģ]at d
 |int a=>cases v with|int b=>simp[ĭ]at g f;rw[show a=b by omega]|tup b=>obtain⟨_,_,e⟩:=j4 (show Ģ (.tup b)≠0 by rw[<-d];exact h);simp![Ģ]at d e;rw[e]at d;omega|_=>simp[Ģ]at d
 |bl a=>cases v with|bl b=>cases a<;>cases b<;>simp[ĭ,b2i]at g f⊢|tup b=>obtain⟨_,_,e⟩:=j4 (show Ģ (.tup b)≠0 by rw[<-d];exact h);simp![Ģ]at d e;rw[e]at d;omega|_=>simp[Ģ]at d
 |tup a=>obtain⟨n,m,k⟩:=j4 h;cases v with|tup b=>obtain⟨o,j,p⟩:=j4 (show Ģ (.tup b)≠0 by rw[<-d];exact h);simp![ĭ,m,j]at g f;rw[jQ m,jQ j,uO () g f]|_=>simp![Ģ]at d k;rw[k]at d;omega
 |_=>exact absurd rfl h
def Gr:∀a:N%0,ġ a a=D
 |[]=>rfl|x::a=>by
  unfold ġ;split;·exact Gr a
  ·exact wm x
def AG:∀{i h g:N%0},ġ i h=L->ġ h g=L->ġ i g=L
 |x::i,y::h,z::g,a,b=>by
  unfold ġ at a b⊢;by_cases f:ś x y=L
  · have:=pb f;subst this;rw[if_pos f]at a;by_cases d:ś x z=L;·rw[if_pos d]at b⊢;exact AG a b
    ·rw[if_neg d]at b⊢;exact b
  · rw[if_neg f]at a;by_cases d:ś y z=L;·have:=pb d;subst this;rw[if_neg f];exact a
    ·rw[if_neg d]at b;have:=wn a b;rw[if_neg λe=>by have:=pb e;subst this;have:=wn a b;rw[wm]at this;cases this];exact this|[],_,_,a,_=>by simp[ġ]at a|_::_,[],_,a,_=>by simp[ġ]at a|_::_,_::_,[],_,b=>by simp[ġ]at b
def Gs:∀{e d i:N%0},Ĕ e=Ĕ d->Ĕ d=Ĕ i->lE (Ĕ e)=L->ġ e i=L->ġ e d=L\/ġ d i=L
 |x::e,y::d,z::i,a,f,k,h=>by
  simp![Ĕ,G_,abW]at a f;simp![Ĕ,lE,G_,Xc,m_,bne_iff_ne,ne_eq]at k;have j:=k.1;unfold ġ at h⊢;by_cases g:ś x y=L
  · have:=pb g;subst this;rw[if_pos g];by_cases b:ś x z=L;·rw[if_pos b]at h⊢;exact Gs a.2 f.2 (by simpa[lE,Ĕ]using k.2) h
    ·rw[if_neg b]at h⊢;exact .inr h
  · rw[if_neg g];by_cases b:ś y z=L;·have:=pb b;subst this;rw[if_neg g]at h;exact .inl h
    ·rw[if_neg b];cases p:ĭ x y with|true=>exact .inl rfl|false=>cases o:ĭ y z with|true=>exact .inr rfl|false=>
    exfalso;have s:ĭ y x=L:=by cases q:ĭ y x with|true=>rfl|false=>have:=AF a.1 j p q;subst this;exact absurd (wj j) g
    have r:ĭ z y=L:=by cases q:ĭ z y with|true=>rfl|false=>have:=AF f.1 (by rw[<-a.1];exact j) o q;subst this;exact absurd (wj (by rw[<-a.1];exact j)) b
    have m:=wn r s;by_cases n:ś x z=L;·have:=pb n;subst this;rw[wm]at m;cases m
    ·rw[if_neg n]at h;have:=wn h m;rw[wm]at this;cases this
 |[],_,_,_,_,_,h=>by simp[ġ]at h|_::_,[],_,a,_,_,_=>by simp[Ĕ]at a|_::_,_::_,[],_,f,_,_=>by simp[Ĕ]at f
def AH{R:Nat->Nat->Prop}(h:∀a b,R a b->R b a->False):∀{l m:Nat%0},l.Perm m->l.Pairwise R->m.Pairwise R->l=m
 |[],m,d,_,_=>d.nil_eq|x::l,[],d,_,_=>by simpa using d.length_eq|x::l,y::m,d,g,f=>by
  rw[WH]at g f;have e:x=y:=by
   rcases v_.mp (d.mem_iff.mp (pi (a:=x)))with e|j;·exact e
   · rcases v_.mp (d.mem_iff.mpr (pi (a:=y)))with e|i;·exact e.symm
     ·exact(h _ _ (g.1 y i) (f.1 x j)).elim
  subst e;rw[AH h d.cons_inv g.2 f.2]
variable{Θ:Nat->Nat->Bool}
def ň.as(O:Od Θ){a b:Nat}(h:ň Θ a b)(d:ň Θ b a):False:=by
 have:=h.tr O d;rcases this with q|q;·rw[O.ir]at q;cases q
 ·omega
def AI{a:Nat->Nat->Bool}(O:Od a)(x:Nat):∀l:Nat%0,(∀y∈l,x<y)->l.Pairwise (ň a)->(xF (λi j=>!a j i) x l).Pairwise (ň a)
 |[],_,_=>by simp[xF]|y::l,f,h=>by
  unfold xF;rw[WH]at h;split
  · rename_i e;have d:ň a x y:=.of_le (by simpa using e) (f y pi);rw[WH,WH];refine⟨λz b=>?_,h⟩;rcases v_.mp b with rfl|b;·exact d
    ·exact d.tr O (h.1 z b)
  · rename_i e;rw[WH];refine⟨λz b=>?_,AI O x l (λz b=>f z (s_ _ b)) h.2⟩;rcases v_.mp ((kO _ x l).mem_iff.mp b)with rfl|b;·exact .inl (by simpa using e)
    ·exact h.1 z b
def wo{a:Nat->Nat->Bool}(O:Od a):∀l:Nat%0,l.Pairwise (·<·)->(gX (λi j=>!a j i) l).Pairwise (ň a)|[],_=>.nil|x::l,h=>by rw[WH]at h;exact AI O x _ (λy b=>h.1 y ((cW _ l).mem_iff.mp b)) (wo O l h.2)
def AJ{a d:Type}{g:a->a->Bool}{b:d->d->Bool}(f:a->d)(x:a):∀l:a%0,(∀y∈l,g x y=b (f x) (f y))->(xF g x l).map f=xF b (f x) (l.map f)
 |[],_=>rfl|y::l,h=>by
  have e:=h y pi;simp![xF,G_];rw[<-e];split;·rfl
  ·rw[G_,AJ f x l λz i=>h z (s_ _ i)]
def sort_map{e g:Type}{i:e->e->Bool}{d:g->g->Bool}(f:e->g):∀l:e%0,(∀x∈l,∀y∈l,i x y=d (f x) (f y))->(gX i l).map f=gX d (l.map f)|[],_=>rfl|x::l,h=>by simp![gX,G_];rw[AJ (b:=d) f x _ λy j=>h x pi y (s_ _ ((cW _ l).mem_iff.mp j)),sort_map f l λa m b k=>h a (s_ _ m) b (s_ _ k)]
def m7:∀(l m:Nat%0),l.Nodup->(∀x∈l,x∈m)->m.length<=l.length->l.Perm m
 |[],m,_,_,h=>by have:m=[]:=Yu.mp (by simpa using h);subst this;exact .refl _|x::l,m,a,d,h=>by
  rw[WT]at a;obtain⟨f,e,rfl⟩:=List.append_of_mem (d x pi);refine((m7 l (f++e) a.2 (λy b=>?_) (by simp at h⊢;omega)).cons x).trans List.perm_middle.symm;have:=d y (s_ _ b);simp![V8,v_]at this⊢;rcases this with q|rfl|q;·exact .inl q
  ·exact(a.1 b).elim
  ·exact .inr q
variable{Τ:Nat->Nat}
def uP(g:∀k,k<b->Τ k<b)(f:∀a d,a<b->d<b->Τ a=Τ d->a=d):((uk b).map Τ).Perm (uk b):=by
 have i:((uk b).map Τ).Nodup:=by rw[List.nodup_iff_pairwise_ne,ZO];refine(List.nodup_range (n:=b)).imp_of_mem λ{a d}o n h e=>h (f a d (by simpa using o) (by simpa using n) e)
 have sub:∀x∈(uk b).map Τ,x∈uk b:=λx j=>by obtain⟨k,m,rfl⟩:=U_.mp j;simpa using g k (by simpa using m)
 exact m7 _ _ i sub ∅
def sS(O:Od Θ){n:Nat}{p:Nat->Nat}(e:∀k,k<n->p k<n)(d:∀a b,a<n->b<n->p a=p b->a=b)(g:∀a b,a<b->b<n->ň Θ (p a) (p b)):(uk n).map p=gX (λi j=>!Θ j i) (uk n):=by refine AH (λa b h o=>h.as O o) ((uP e d).trans (cW _ _).symm) ?_ (wo O _ abM);rw[ZO];exact(abM (n:=n)).imp_of_mem λ{a b}q m f=>g a b f (by simpa using m)
def wp{a:n_}{w:y_}{A:B_}{E:B->h_->Prop}{s:h_}{R:B%0->h_->Prop}:∀{fs:B%0},(∀f∈fs,∃T,∀e:h_,e.TypeIs f T)->(∀b,R b s)->w_ (D_ a w) A (fs.mapM acC) R E s|[],_,h=>by rw[List.mapM_nil];exact k_ (h _)|f::fs,d,h=>by obtain⟨T,hT⟩:=d f pi;rw[List.mapM_cons];refine e_ (Zx (hT s) ?_);exact e_ (wp (λg i=>d g (s_ _ i)) λb=>k_ (h _))
def Sh{d:B%0}(j:m5 f.heap ξ d)(i:∀a∈d,∃T,∀g:h_,g.TypeIs a T){R:Ys->h_->Prop}(h:∀b,R (tuples' b) f):w_ (D_ s r) I (keyKind' ξ.toArray) R χ f:=by
 rw[keyKind'_eq,ac4];refine e_ ?_;rw[<-bind_pure_comp];refine e_ (sQ j (k_ ?_));rw[if_pos ∅];refine e_ (YT ?_);have e:(d.map Z).toArray.filterMap id=d.toArray:=by simp
 rw[e,oneTypeOnly'_eq,ac4];refine e_ (e_ ?_);rw[<-bind_pure_comp];refine e_ (wp i λk=>k_ ?_);split;·exact k_ (k_ (h _))
 ·exact k_ (k_ (h _))
end TS
variable{Ô:h_->Prop}{Θ:Nat->Nat->Bool}{Τ:Nat->Nat}{η:FD.N}
namespace FD
open L2 TS
def IK:N%0->Bool|[]=>D|d::_=>o_ (Ģ d<4)
def kQ(a:(N%0)%0):Bool:=o_ (a.length<64)&&a.all λr=>o_ (Ĕ r=Ĕ (a.headD []))&&IK r&&lE (Ĕ r)
def sU:∀{ds:N%0}{b:Str%0}{us:V%0},du ds=Z b->S q h ds us->us=b.map V.str:=by intro ds b us a r;have:=jQ a;subst this;clear a;induction b generalizing us with|nil=>exact(show us=[]from r)|cons k b g=>obtain⟨v,d,rfl,f,e⟩:∃v d,us=v::d/\Ü q h (.str k) v/\S q h (b.map N.str) d:=r;cases(show v=.str k from f);rw[g e];rfl
def wq{X:C}{f':(O×Obj)%0}{σ:L2.St}{H:Hp}{s:h_}{Q:O_}{A:B_}(I:Õ X f' σ H s)(hu:A.units+8<cLine)(up:∀b o,s.heap.get? b=Z o->Q.get? b=Z o):∀{z:Bool}{j d:N%0}{us i:V%0}{m f:B%0},(z=L->IK j=L)->Ĕ j=Ĕ d->lE (Ĕ j)=L->S X.K H j us->S X.K H d i->Ú us m->Ú i f->∃E,sP Q A z (m.zip f) E/\(el E).getD D=ġ j d
 |z,[],[],us,i,m,f,_,_,_,r,r',v,v'=>by cases(show us=[]from r);cases v;exact⟨[],.nil,rfl⟩|z,x::j,y::d,us,i,m,f,hz,s,hk,r,r',v,v'=>by obtain⟨u,g,rfl,r1,r2⟩:∃v g,us=v::g/\Ü X.K H x v/\S X.K H j g:=r;obtain⟨u',i',rfl,w,b'⟩:∃v g,i=v::g/\Ü X.K H y v/\S X.K H d g:=r';simp![Ĕ,G_,abW]at s;simp![Ĕ,lE,G_,Xc,m_,bne_iff_ne,ne_eq]at hk;cases v with|cons v1 v2=>cases v' with|cons k a'=>
  obtain⟨E,i1,i2⟩:=wq I hu up (z:=D) (λz=>by cases z) s.2 (by simpa[lE,Ĕ]using hk.2) r2 b' v2 a';rename_i b1 l1 b2 l2;have one:∀(p q:B)(e l:Bool),o7 Q A z p q e l->(if e=L then ġ j d else l)=ġ (x::j) (y::d)->∃E,sP Q A z ((p,q)::l1.zip l2) E/\(el E).getD D=ġ (x::j) (y::d):=λp q e l h zz=>⟨(e,l)::E,.cons h i1,by rw[gu,i2];exact zz⟩;have kt:∀ds n,Ģ (.tup ds)=n->n≠0->n<4->False:=λds n e h0 h4=>by obtain⟨_,_,e'⟩:=j4 (E:=ds) ();omega
  cases x with
  |str a=>cases y with|str b=>cases(show u=.str a from r1);cases(show u'=.str b from w);obtain⟨t,rfl⟩:=v1;obtain⟨t',rfl⟩:=k;exact one _ _ _ _ (wf Q A z a b t t') rfl|tup b=>exact(kt b 1 s.1.symm #v[] #v[]).elim|_=>exact absurd s.1 (by simp[Ģ])
  |int a=>cases y with|int b=>cases(show u=.int a from r1);cases(show u'=.int b from w);obtain⟨t,rfl⟩:=v1;obtain⟨t',rfl⟩:=k;exact one _ _ _ _ (wg Q A z a b t t') rfl|tup b=>exact(kt b 2 s.1.symm #v[] #v[]).elim|_=>exact absurd s.1 (by simp[Ģ])
  |bl a=>cases y with|bl b=>cases(show u=.bl a from r1);cases(show u'=.bl b from w);cases v1;cases k;exact one _ _ _ _ (IJ Q A z a b) rfl|tup b=>exact(kt b 3 s.1.symm #v[] #v[]).elim|_=>exact absurd s.1 (by simp[Ģ])
  |tup ds=>obtain⟨ks,e1,e2⟩:=j4 hk.1;cases y with|tup g'=>
  obtain⟨js,e3,e4⟩:=j4 (E:=g') (by rw[<-s.1];exact hk.1);obtain⟨a,xs,rfl,ha,rx⟩:=r1.tupE;obtain⟨c,ys,rfl,hc,ry⟩:=w.tupE;cases v1;cases k;obtain⟨l',q1,q2,_⟩:=I.tuple (Ā.of ha);obtain⟨k',p1,p2,_⟩:=I.tuple (Ā.of hc);have zf:z=D:=by cases z with|false=>rfl|true=>have:=hz rfl;simp![IK,decide_eq_true_eq]at this;omega
  subst zf;obtain⟨o1,g1,d'⟩:=q2;obtain⟨o2,g2,c'⟩:=p2;rw[sU e1 rx]at q1;rw[sU e3 ry]at p1;refine one _ _ _ _ (Eb hu ⟨o1,up _ _ g1,d'⟩ ⟨o2,up _ _ g2,c'⟩ (by have:=s.1;omega) q1 p1) ?_;simp![ġ,ś,ĭ,e1,e3]|_=>have:=s.1;simp![Ģ]at this e2;rw[e2]at this;omega
  |_=>exact absurd rfl hk.1
 |_,[],_::_,_,_,_,_,_,s,_,_,_,_,_=>by simp[Ĕ]at s|_,_::_,[],_,_,_,_,_,s,_,_,_,_,_=>by simp[Ĕ]at s
def Ec(d:Ģ i≠0)(g:Ģ i<4)(r:Ü q h i ψ)(b:â ψ Α):∃T,∀f:h_,f.TypeIs Α T:=by cases i with|str a=>cases(show ψ=.str a from r);obtain⟨t,rfl⟩:=b;exact⟨"str",λs=>Zj s _ _⟩|int a=>cases(show ψ=.int a from r);obtain⟨t,rfl⟩:=b;exact⟨"int",λs=>acD s _ _⟩|bl a=>cases(show ψ=.bl a from r);cases b;exact⟨"bool",λs=>ac0 s _⟩|tup ds=>obtain⟨_,_,e⟩:=j4 d;omega|_=>exact absurd rfl d
def sV{X:C}{f':(O×Obj)%0}{n:L2.St}{H:Hp}{s:h_}(I:Õ X f' n H s):∀{b:(N%0)%0}{g:V%0}{d:B%0},(∀r∈b,IK r=L/\lE (Ĕ r)=L)->S X.K H (b.map N.tup) g->Ú g d->∃fs,m5 s.heap d fs/\∀f∈fs,∃T,∀y:h_,y.TypeIs f T
 |[],g,d,_,r,v=>by cases(show g=[]from r);cases v;exact⟨[],.nil,by simp⟩|i::b,g,d,h,r,v=>by obtain⟨u,e,rfl,Q,E⟩:∃v e,g=v::e/\Ü X.K H (.tup i) v/\S X.K H (b.map N.tup) e:=r;obtain⟨a,o,rfl,ha,z⟩:=Q.tupE;cases v with|cons w q=>cases w;obtain⟨fs,f1,R⟩:=sV I (λr hr=>h r (s_ _ hr)) E q;obtain⟨a',A,pt,hz⟩:=I.tuple (Ā.of ha);obtain⟨m,k⟩:=h i pi;cases i with|nil=>cases m|cons x i=>obtain⟨u,us,rfl,q1,q2⟩:∃v us,o=v::us/\Ü X.K H x v/\S X.K H i us:=z;cases A with|cons p w2=>
 rename_i t ts;refine⟨t::fs,.cons pt ∅ f1,λf j=>?_⟩;rcases v_.mp j with rfl|j;·simp![Ĕ,lE,G_,Xc,m_,bne_iff_ne,ne_eq]at k;exact Ec k.1 (of_decide_eq_true m) q1 p
 ·exact R f j
def AK{X:C}{f':(O×Obj)%0}{n:L2.St}{H:Hp}{s:h_}(I:Õ X f' n H s):∀{b:(N%0)%0}{f:V%0}{e:B%0}(i:Nat)(x:B),S X.K H (b.map N.tup) f->Ú f e->e[i]?=Z x->∃a us d j,b[i]?=Z j/\f[i]?=Z (.ref a)/\x=.ref a/\S X.K H j us/\Ú us d/\H a=Z (.tup us)/\s.heap.IsTuple a d.toArray|[],f,e,i,x,r,v,h=>by cases(show f=[]from r);cases v;simp at h|j::b,f,e,i,x,r,v,h=>by obtain⟨u,g,rfl,E,A⟩:∃v g,f=v::g/\Ü X.K H (.tup j) v/\S X.K H (b.map N.tup) g:=r;obtain⟨a,o,rfl,m,y⟩:=E.tupE;cases v with|cons w p=>cases w;cases i with|zero=>simp at h;subst h;obtain⟨d,z,pt,hz⟩:=I.tuple (Ā.of m);exact⟨a,o,d,j,rfl,rfl,rfl,y,z,m,pt⟩|succ i=>obtain⟨a',us,d,k,q1,Q,q⟩:=AK I i x A p (by simpa using h);exact⟨a',us,d,k,by simpa using q1,by simpa using Q,q⟩
def gY{H:Hp}{K:d_}:∀{ds:N%0}{b:V%0},S K H ds b->ds.length=b.length|[],b,r=>by cases(show b=[]from r);rfl|d::ds,b,r=>by obtain⟨u,a,rfl,f,e⟩:∃v a,b=v::a/\Ü K H d v/\S K H ds a:=r;simp[gY e]
def xJ(b:E.length=ν.length)(a:∀(i:Nat)(d:N)(v:V),E[i]?=Z d->ν[i]?=Z v->Ü q h d v):S q h E ν:=by induction E generalizing ν with
 |nil=>cases ν with|nil=>exact rfl|cons _ _=>simp at b
 |cons d E e=>cases ν with|nil=>simp at b|cons w ν=>exact⟨w,ν,rfl,a 0 d w rfl rfl,e (by simpa using b) λi j v g f=>a (i+1) j v (by simpa using g) (by simpa using f)⟩
def reps_at{H:Hp}{K:d_}:∀{ds:N%0}{b:V%0},S K H ds b->∀(i:Nat)(d:N)(v:V),ds[i]?=Z d->b[i]?=Z v->Ü K H d v|[],_,_,i,d,v,h,_=>by simp at h|j::ds,b,r,i,d,v,h,e=>by obtain⟨u,a,rfl,g,f⟩:∃v a,b=v::a/\Ü K H j v/\S K H ds a:=r;cases i with|zero=>simp at h e;subst h;subst e;exact g|succ i=>exact reps_at f i d v (by simpa using h) (by simpa using e)
def xK(a:ν.length=ξ.length)(h:∀(i:Nat)(v:V)(u:B),ν[i]?=Z v->ξ[i]?=Z u->â v u):Ú ν ξ:=by induction ν generalizing ξ with
 |nil=>cases ξ with|nil=>exact .nil|cons _ _=>simp at a
 |cons d ds b=>cases ξ with|nil=>simp at a|cons w ν=>exact .cons (h 0 d w rfl rfl) (b (by simpa using a) λi g v f e=>h (i+1) g v (by simpa using f) (by simpa using e))
def iS(a:(N%0)%0)(i:Nat):N%0:=a.getD i (a.headD [])
def ng{a:(N%0)%0}(h:∀r∈a,Ĕ r=Ĕ (a.headD [])/\IK r=L/\lE (Ĕ r)=L)(i:Nat):Ĕ (iS a i)=Ĕ (a.headD [])/\lE (Ĕ (iS a i))=L:=by unfold iS;cases a with|nil=>exact⟨rfl,rfl⟩|cons r a=>
 by_cases b:i<(r::a).length
 · have e:(r::a).getD i ((r::a).headD [])=(r::a)[i]:=by unfold YL;rw[I_ b];rfl
   rw[e];have:=h _ (Z2 b);exact⟨this.1,this.2.2⟩
 · have e:(r::a).getD i ((r::a).headD [])=r:=by unfold YL;rw[WC ()];rfl
   rw[e];exact⟨rfl,(h r pi).2.2⟩
def IL{d:(N%0)%0}(h:∀r∈d,Ĕ r=Ĕ (d.headD [])/\IK r=L/\lE (Ĕ r)=L):Od λi j=>ġ (iS d i) (iS d j)where ir:=λa=>Gr _;tr:=λa b c e f=>AG e f;nt:=λa b c e=>Gs ((ng h a).1.trans (ng h b).1.symm) ((ng h b).1.trans (ng h c).1.symm) (ng h a).2 e
def uQ{a:(N%0)%0}(h:a[b]?=Z E):iS a b=E:=by unfold iS YL;rw[h];rfl
open PySem.W
def NT(G:ö a.prog a.w a.K a.mg a.base Ĳ b e Æ H (Ř a.K Ω H.length))(w:å b I)(p:I.frames=a.A.frames)(y:õ a.K Æ H [])(g:Õ a ε Ι h f){v:V}{u:B}{d o:N}(s:â v u)(r:Ü a.K h d v)(q:H.length=1)(z:Ω [d]=o%3):w_ (D_ a.prog a.w) I (call (.ref e) [u]) (EP a ε Ι λn k=>Ù h k/\Ü a.K k o n) χ f:=by have j:=g.env0;refine ZY (Yz (G.run I a.stack f h ⟨[u],[]⟩ [u] [v] (λn k=>Ù h k/\Ü a.K k o n) E0 w ⟨p.trans j.frames,j.mod,j.bs,j.bsz,j.funs,j.frf,j.hok,j.bare⟩ (by simpa using y f [u] g.kIn (by simp[q])) (.cons s .nil) ⟨[d],⟨v,[],rfl,r,rfl⟩,q.symm,by rw[z];exactλv k i r=>⟨i,r⟩⟩) λr E m=>?_);cases r with|error i=>exact m.elim|ok A=>cases A with|ret u=>exact g.after m|next=>exact Wg m|brk=>exact Wg m|cont=>exact Wg m
end FD
namespace TS
open FD
def Gu{a:Array B}{g:XQ}{P:adj->h_->Prop}(m:f.heap.get? z=Z (Xh "list" a j))(o:f.heap.get? e=Z (Xh "list" #[] b))(i:z≠e)(k:a.size<=sizeLine)(p:(Ŕ g).size<=sizeLine)(n:ac1 g=U)(h:P (.done (.ret .none)) {f with heap:=(f.heap.update z (Wy λ_=>#[])).update e (Wy λ_=>(Ŕ g).map (·.2))}):w_ (D_ s r) I (ksk_tail e D b (.ref z) g) P χ f:=by
 unfold ksk_tail;refine e_ (abg m rfl ?_ k (Wm _));refine e_ (ads ?_);have d:(f.heap.update z (Wy λ_=>#[])).get? e=Z (Xh "list" #[] b):=by rw[XG _ _ _ _ i.symm];exact o
 refine e_ (seqEpoch_at (s:={f with heap:=f.heap.update z (Wy λ_=>#[])}) d rfl ?_);refine e_ (abg (s:={f with heap:=f.heap.update z (Wy λ_=>#[])}) d rfl ?_ (Wm _) (by simp![x_,if_false,ZU];omega));rw[n];simp![bne_self_eq_false,x_,if_false];exact k_ h
def Si{q fs:B%0}{P:adj->h_->Prop}(u:f.heap.get? z=Z (Xh "list" ξ.toArray j))(ha:f.heap.get? e=Z (Xh "list" #[] b))(b':z≠e)(d':ξ.length=q.length)(Q:q.length<64)(m:Od Θ)(hF:m5 f.heap ξ fs)(hf:∀o∈fs,∃T,∀s':h_,s'.TypeIs o T)(hC:∀(A':B_)(i a:Nat)(x y:B),A'.units<=I.units+8->ξ[i]?=Z x->ξ[a]?=Z y->∃e j xs ys rs,x=.ref e/\y=.ref j/\f.heap.IsTuple e xs/\f.heap.IsTuple j ys/\sP f.heap A' L (xs.toList.zip ys.toList) rs/\(el rs).getD (o_ (xs.size<ys.size))=Θ i a)(h:∀(p:Nat->Nat)(H:Array B)(A:Nat),H.size=q.length->(∀k,k<q.length->H[k]?=q[p k]?)->(uk q.length).map p=gX (λi a=>!Θ a i) (uk q.length)->(∀k,k<q.length->p k<q.length)->P (.done (.ret .none)) {f with heap:=(f.heap.update z (Wy λ_=>#[])).update e (Wy λ_=>H),toks:=A}):w_ (D_ s r) I (ksk_end e D q.toArray b (.ref z) ξ.toArray) P χ f:=by
 unfold ksk_end;simp![x_,if_false];have hz:ξ.toArray.size<=sizeLine:=kP (by simp;omega);have w:(ξ.toArray.zip q.toArray).size=q.length:=by simp[d']
 have E:∀k,k<q.length->(ξ.toArray.zip q.toArray)[k]?=Z (ξ.getD k .none,q.getD k .none):=λk u=>by
  have:k<ξ.length:=by omega
  have e':k<(ξ.zip q).length:=by simp;omega
  have d:(ξ.zip q)[k]?=Z (ξ[k],q[k]):=by rw[I_ e',adn]
  simp[u,this,YL,d]
 have a':q.toArray.size=q.length:=by simp
 by_cases h2:q.toArray.size<2
 ·rw[if_pos h2,if_pos h2];refine e_ (k_ ?_);rw[adA];refine e_ (k_ ?_);dsimp!;refine Gu (g:=SortSt.mk' general' (ξ.toArray.zip q.toArray) #[] 7 U) u ha b' hz (kP (by rw[w];exact Q)) rfl ?_;have:=h id ((ξ.toArray.zip q.toArray).map (·.2)) f.toks (by rw[ZU,w]) (λk u=>by rw[acM,E k u];simp[u,YL]) (sS m (λk u=>u) (λ_ _ _ _ d=>d) (λx y k' hy=>by rw[a']at h2;omega)) (λk u=>u);exact this
 · rw[if_neg h2,if_neg h2];rw[a']at h2;refine e_ (Sh hF hf λn=>?_);refine e_ (Wr (NR (Ô:=JT f f.heap) (χ:=χ) (Q:=λ_ v=>∃p',Sg (ξ.toArray.zip q.toArray) Θ p' (Ŕ v)/\ac1 v=U) (Τ:=id) m (λi a x y s1 E' ex ey J1=>?_) (y:=SortSt.mk' (tuples' n) (ξ.toArray.zip q.toArray) #[] 7 U) ⟨rfl,λ_ _=>rfl,λ_ h=>h,λ_ _ _ _ d=>d,rfl,rfl,rfl⟩ (λ_ _=>rfl) (by rw[w];omega) (by rw[w];exact Q) (λp' v a1 a2=>⟨p',a1,a2⟩) f ⟨f.toks,rl _,rfl⟩) ?_ λ_ _ d=>d)
   · obtain⟨A,f',rfl⟩:=J1;have c':∀(k:Nat)(g:ŏ),(ξ.toArray.zip q.toArray)[k]?=Z g->ξ[k]?=Z g.1:=λk g hz=>by
      have u:k<q.length:=by have:=(Xm.mp hz).1;rwa[w]at this
      rw[E k u]at hz;cases hz;have:k<ξ.length:=by omega
      simp[this,YL]
     obtain⟨a1,c1,xs,ys,rs,i',h',t1,t2,it,eb⟩:=hC I i a x.1 y.1 () (c' i x ex) (c' a y ey);rw[i',h'];exact AB (f:={f with heap:=f.heap,toks:=A}) n t1 t2 it ⟨⟨A,f',rfl⟩,eb⟩
   ·rintro⟨⟨⟩,v⟩s'⟨⟨A,_,rfl⟩,p',F,g'⟩;dsimp!;have Fl:=F.lt;have Fi:=F.inj;have Fs:=F.so;rw[w]at Fl Fi Fs;refine Gu (f:={f with heap:=f.heap,toks:=A}) u ha b' hz (by rw[F.sz,w];exact kP Q) g' ?_;refine h p' ((Ŕ v).map (·.2)) A (by rw[ZU,F.sz,w]) (λk u=>?_) (sS m Fl Fi Fs) Fl;rw[acM,F.at' k (by rw[w];exact u),E _ (Fl k u)];simp[Fl k u,YL]
end TS
namespace FD
open L2 TS
def sW:∀{ds:N%0}(n:Nat),ç ds=L->ç (ds.take n)=L|[],n,_=>by simp[ç]|d::ds,0,_=>by simp[ç]|d::ds,n+1,h=>by simp![ç,m_]at h;simp![List.take_succ_cons,ç,m_];exact⟨h.1,sW n h.2⟩
def NU{Q:O}{A:(N%0)%0}{P:adj->h_->Prop}(G:ö a.prog a.w a.K a.mg a.base Ĳ b e Æ H (Ř a.K Ω H.length))(hr:å b I)(R':I.frames=a.A.frames)(hb:õ a.K Æ H [])(h1:H.length=1)(w:Õ a (ε++[(z,Xh "list" #[] j)]) Ι h f)(hk:h Q=Z (.lst []))(m':Q≠z)(rv:Ú ν ξ)(p':S a.K h E ν)(im:ç E=L)(C':∀(i:Nat)(d:N),E[i]?=Z d->∃es,A[i]?=Z es/\Ω [d]=.tup es%3)(a0:A.length=E.length)(O':kQ A=L)(q':ç (A.map N.tup)=L)(U':∀H',H' z=U->um a ε H' z)(v:∀(s':h_)(H':Hp)(p:Nat->Nat)(b':Array B)(c:Nat),Õ a ε Ι H' s'->H' z=U->(∀k u,k≠Q->h k=Z u->H' k=Z u)->s'.heap.get? z=Z (Xh "list" b' c)->b'.size=ξ.length->(∀b,b<ξ.length->b'[b]?=ξ[p b]?)->(uk ξ.length).map p=gX (λi g=>!(λi g=>ġ (iS A i) (iS A g)) g i) (uk ξ.length)->(∀b,b<ξ.length->p b<ξ.length)->P (.done (.ret .none)) s'):w_ (D_ a.prog a.w) I (ksk_rest z (.ref e) D ξ.toArray j (.ref Q)) P χ f:=by
 have c':=O';simp![kQ,m_,decide_eq_true_eq,Wu]at c';have hR:∀r∈A,Ĕ r=Ĕ (A.headD [])/\IK r=L/\lE (Ĕ r)=L:=λr hr=>⟨(c'.2 r hr).1.1,(c'.2 r hr).1.2,(c'.2 r hr).2⟩;have a6:E.length=ξ.length:=by have g1:=gY p';have g2:=rv.length;omega
 have T':ξ.length<64:=by omega
 unfold ksk_rest;refine e_ (YT ?_);first|rw[List.forIn_toArray]|(rw[<-Zo];simp![aar])|rw[<-Zo]
 refine e_ (ksk_fold (λi s'=>∃H' zs,Õ a (ε++[(z,Xh "list" #[] j)]) Ι H' s'/\H' Q=Z (.lst zs)/\(∀k u,k≠Q->h k=Z u->H' k=Z u)/\S a.K H' ((A.map N.tup).take i) zs) ξ 0 f ⟨h,[],w,hk,λ_ _ _ s=>s,rfl⟩ ?step ?done);case step=>
  rintro g x s' hx⟨H',zs,I',h',sm,rz⟩;simp![YE]at rz⊢;have hj:g<ξ.length:=(F_.mp hx).1;have o':E[g]?=Z (E[g]'()):=I_ ();obtain⟨es,er,eF⟩:=C' g _ o';have t':ν[g]?=Z (ν[g]'(by have:=rv.length;omega)):=I_ (by have:=rv.length;omega);have a7:g<ν.length:=by have:=rv.length;omega
  have a3:g<E.length:=by omega
  obtain⟨u,eu,ru⟩:=rv.get t';rw[hx]at eu;cases eu;have z':∀k ys,h k=Z (.tup ys)->H' k=Z (.tup ys):=λk ys q=>sm k _ (λm=>by rw[m,hk]at q;cases q) q;have rd:Ü a.K H' E[g] ν[g]:=Ü.tups z' _ _ (mw im o') (reps_at p' g _ _ o' t');refine e_ (Yb (Wr (NT G hr R' hb I' ru rd h1 eF (χ:=λ_ _=>False)) (λu' s2 he=>?_) λ_ _ m=>m.elim));obtain⟨v',H2,I2,D',k',E'⟩:=he;dsimp!;have n':H2 Q=Z (.lst zs):=k' _ _ h';obtain⟨m,d',n,a',Q',ek⟩:=I2.lstM n';have J':zs.length<=62:=by have:=gY rz;simp at this;omega
  have w':d'.length<=62:=by have:=a'.length;omega
  refine e_ (abg ek rfl ?_ (by simp;exact kP ()) (by simp;omega));have i':∀k ys,H2 k=Z (.tup ys)->(æ H2 Q (.lst (zs++[v']))) k=Z (.tup ys):=λk ys q=>by rw[ay (λm=>by rw[m,n']at q;cases q)];exact q
  obtain⟨n2,e'⟩:∃n2,(s2.heap.update Q (Wy (·.push u'))).get? Q=Z (Xh "list" (d'.toArray.push u') n2):=⟨_,aal (c:="list") ek (·.push u')⟩;refine k_ ⟨rfl,æ H2 Q (.lst (zs++[v'])),zs++[v'],?_,az,λk u hb q=>?_,?_⟩
  · refine I2.write (t':=s2.toks) (x:=Q) (e:=Q) (o:=.lst (zs++[v'])) (by rw[n'];trivial) (.inl rfl) (λk u hb q=>?_) ⟨_,e'⟩ ?_;·rw[XG _ _ _ _ hb];exact q
    ·refine⟨by simp;exact kP (),d'++[u'],n2,a'.append (.cons D' .nil),?_⟩;simpa[Xh]using e'
  ·rw[ay hb];exact k' _ _ (sm k u hb q)
  · have B':(A.map N.tup).take (g+1)=(A.map N.tup).take g++[.tup es]:=by rw[List.take_add_one,K_,er];rfl
    rw[B'];have g1:S a.K (æ H2 Q (.lst (zs++[v']))) ((A.map N.tup).take g) zs:=S.tups i' _ _ (sW g q') (S.mono k' _ _ rz);have F':ģ (.tup es)=L:=mw q' (n:=g) (by rw[K_,er];rfl);exact g1.append ⟨v',[],rfl,Ü.tups i' _ _ F' E',rfl⟩
 case done=>
  rintro s'⟨H',zs,I',h',sm,rz⟩;have g':S a.K H' (A.map N.tup) zs:=by rw[ZN (by simp;omega)]at rz;exact rz
  obtain⟨m,d',n,a',Q',ek⟩:=I'.lstM h';have J':zs.length=ξ.length:=by have:=gY g';simp at this;omega
  have w':d'.length=ξ.length:=by have:=a'.length;omega
  refine e_ (aax ek rfl ?_);obtain⟨fs,f1,R⟩:=sV I' (λr N'=>(hR r N').2) g' a';have l':=I'.pin (z,Xh "list" #[] j) ∅;refine Si (Θ:=λi g=>ġ (iS A i) (iS A g)) (j:=n) ek l'.1 m' w' T' (IL hR) f1 R (λA2 i g x y hA ex ey=>?_) λp b' tk o1 o2 o3 o4=>?_
  · obtain⟨a1,a5,t1,y',q1,q2,q3,q4,q5,q6,q7⟩:=AK I' i x g' a' ex;obtain⟨a2,a4,t2,x',p1,p2,p3,p4,p5,p6,p7⟩:=AK I' g y g' a' ey;have m1:=hR y' (We q1);have m2:=hR x' (We p1);obtain⟨rs,i1,i2⟩:=wq (A:=A2) (z:=L) I' (by have:=hr.un;omega) (λ_ _ s=>s) (λ_=>m1.2.1) (m1.1.trans m2.1.symm) m1.2.2 q4 p4 q5 p5;refine⟨a1,a2,t1.toArray,t2.toArray,rs,q3,p3,q7,p7,by simpa using i1,?_⟩;have M':t1.toArray.size=t2.toArray.size:=by
     have k1:=q5.length;have k2:=p5.length;have k3:=gY q4;have k4:=gY p4;have k5:(Ĕ y').length=(Ĕ x').length:=by rw[m1.1,m2.1]
     simp[Ĕ]at k5;simp;omega
    rw[M',decide_eq_false (Xb _),i2,uQ q1,uQ p1]
  · obtain⟨n2,e'⟩:∃n2,(s'.heap.update Q (Wy λ_=>#[])).get? Q=Z (Xh "list" #[] n2):=⟨_,aal (c:="list") ek (λ_=>(#[]:Array B))⟩;have W:=I'.write (t':=tk) (h':=s'.heap.update Q (Wy λ_=>#[])) (x:=Q) (e:=Q) (o:=.lst []) (by rw[h'];trivial) (.inl rfl) (λk u hb q=>by rw[XG _ _ _ _ hb];exact q) ⟨_,e'⟩ ⟨Wm _,[],n2,.nil,by simpa[Xh]using e'⟩;have W2:=W.unpinned;have r':æ H' Q (.lst []) z=U:=by rw[ay m'.symm];exact l'.2.1
    have S':(s'.heap.update Q (Wy λ_=>#[])).get? z=Z (Xh "list" #[] j):=by rw[XG _ _ _ _ m'.symm];exact l'.1
    obtain⟨g0,g1,g2,g3⟩:=U' _ r';have T:=W2.turned (t':=tk) (h':=(s'.heap.update Q (Wy λ_=>#[])).update z (Wy λ_=>b')) (it:=z) (λk o hb q=>by rw[XG _ _ _ _ hb];exact q) g0 g1 g3.1 g3.2.1 g3.2.2;exact v _ _ p b' _ T r' (λk u hb q=>by rw[ay hb];exact sm k u hb q) (aal S' λ_=>b') o1 o2 o3 o4
def kg(F:ß):N%0->((N%0)%0)%1|[]=>Z []|d::r=>match F [d],kg F r with|some (.ok (.tup b)),Z a=>Z (b::a)|_,_=>U
def nh(d:(N%0)%0)(e:N%0):N%0:=(gX (λa b=>!ġ b.1 a.1) (d.zip e)).map Prod.snd
def wt(F:ß)(b:N%0):Rs N%1:=match kg F b with|some a=>if kQ a=L/\ç b=L/\ç (a.map N.tup)=L then .lst (nh a b)%3 else U|none=>U
def pc{F:ß}:∀{ds:N%0}{a:(N%0)%0},kg F ds=Z a->a.length=ds.length/\∀(i:Nat)(d:N),ds[i]?=Z d->∃b,a[i]?=Z b/\F [d]=.tup b%3
 |[],a,h=>by cases h;exact⟨rfl,λi d e=>by simp at e⟩|d::ds,a,h=>by
  unfold kg at h;split at h;·rename_i b n g f;cases h;obtain⟨k,j⟩:=pc f;refine⟨by simp[k],λi m e=>?_⟩;cases i with|zero=>simp at e;subst e;exact⟨b,rfl,g⟩|succ i=>exact j i m (by simpa using e)
  ·cases h
def AM{a:(N%0)%0}(f:a.length=E.length):(gX (λi j=>!(λi j=>ġ (iS a i) (iS a j)) j i) (uk E.length)).map (λi=>E.getD i .non)=nh a E:=by
 have e:(uk E.length).map (λi=>(iS a i,E.getD i .non))=a.zip E:=by
  apply adp;·simp[f]
  · intro i d g;simp![S_,ZQ]at d;have b:i<a.length:=by omega
    simp![Y4,List.getElem_range,adn];rw[uQ (I_ b)];simp[YL,d]
 unfold nh;rw[<-e,<-sort_map (i:=λi j=>!(λi j=>ġ (iS a i) (iS a j)) j i) (λi=>(iS a i,E.getD i .non)) _ λx _ y _=>rfl,W7];rfl
def AN(a:Q.get? e=Z Å):gl [e] Q=[(e,Å)]:=by simp[gl,a]
def NV{w:(N%0)%0}{P:adj->h_->Prop}(G:ö a.prog a.w a.K a.mg a.base Ĳ b e Æ H (Ř a.K Ω H.length))(hr:å b I)(o':I.frames=a.A.frames)(Q:õ a.K Æ H [])(h1:H.length=1)(s:Õ a ε Ι h f)(ho:f.heap.get? z=Z (Xh "list" ξ.toArray j))(h':h z=U)(a':∀A,A z=U->um a ε A z)(rv:Ú ν ξ)(b':S a.K h E ν)(im:ç E=L)(l':∀(i:Nat)(d:N),E[i]?=Z d->∃es,w[i]?=Z es/\Ω [d]=.tup es%3)(k':w.length=E.length)(c':kQ w=L)(n':ç (w.map N.tup)=L)(n:∀(s':h_)(A:Hp)(p:Nat->Nat)(y:Array B)(c:Nat),Õ a ε Ι A s'->A z=U->Ù h A->s'.heap.get? z=Z (Xh "list" y c)->y.size=ξ.length->(∀b,b<ξ.length->y[b]?=ξ[p b]?)->(uk ξ.length).map p=gX (λi m=>!(λi m=>ġ (iS w i) (iS w m)) m i) (uk ξ.length)->(∀b,b<ξ.length->p b<ξ.length)->P (.done (.ret .none)) s'):w_ (D_ a.prog a.w) I (ksk_tree z (.ref e) D) P χ f:=by
 have i':ξ.length<64:=by simp![kQ,m_,decide_eq_true_eq]at c';have g1:=gY b';have g2:=rv.length;omega
 have ha:z<f.heap.objs.size:=z_ ho;obtain⟨g0,g1,g2,g3⟩:=a' _ h';unfold ksk_tree;refine e_ (aax ho rfl ?_);refine e_ (abg ho rfl ?_ (kP (by simpa using i')));obtain⟨e1,e'⟩:∃e1,(f.heap.update z (Wy λ_=>(#[]:Array B))).get? z=Z (Xh "list" #[] e1):=⟨_,aal ho λ_=>#[]⟩;have I1:=s.turned (t':=f.toks) (h':=f.heap.update z (Wy λ_=>(#[]:Array B))) (it:=z) (λg o Q q=>by rw[XG _ _ _ _ Q];exact q) g0 g1 g3.1 g3.2.1 g3.2.2;refine e_ (seqEpoch_at e' rfl ?_);refine e_ (wpAny_newTuple ?_ (kP (by simpa using i')));refine e_ (wpAny_newList ?_);refine WN ?_;have I2:=I1.kept (t':=f.toks) (h':=(f.heap.update z (Wy λ_=>(#[]:Array B))).push (Xh "tuple" ξ.toArray 0)) λg u q=>l_ _ q;have m':((f.heap.update z (Wy λ_=>(#[]:Array B))).push (Xh "tuple" ξ.toArray 0)).objs.size=f.heap.objs.size+1:=by rw[size_push',Heap.size_update]
 have fr:h ((f.heap.update z (Wy λ_=>(#[]:Array B))).push (Xh "tuple" ξ.toArray 0)).objs.size=U:=I2.hok.fresh (rl _);have I3:=I2.laid (t':=f.toks) (h':=((f.heap.update z (Wy λ_=>(#[]:Array B))).push (Xh "tuple" ξ.toArray 0)).push (Xh "list" #[] 0)) (o:=.lst []) (λg u q=>l_ _ q) (rl _) ⟨Wm _,[],0,.nil,xy _ rfl⟩;have d':(((f.heap.update z (Wy λ_=>(#[]:Array B))).push (Xh "tuple" ξ.toArray 0)).push (Xh "list" #[] 0)).get? z=Z (Xh "list" #[] e1):=l_ _ (l_ _ e');have g':((f.heap.update z (Wy λ_=>(#[]:Array B))).push (Xh "tuple" ξ.toArray 0)).objs.size≠z:=by rw[m'];exact Y3 (aa4 ha)
 have I4:=I3.pinned (fp:=[z]) (λg Q=>by
 have:g=z:=by simpa using Q
 subst this;exact a' _ (by rw[ay g'.symm];exact h')) (λg Q=>by
 have:g=z:=by simpa using Q
 subst this;exact⟨_,d',λv k=>by cases k⟩);rw[AN d']at I4;refine NU G hr o' Q h1 I4 az g' rv (S.mono (aH fr _) _ _ b') im l' k' c' n' a' λs' A p y c J ja sm r o1 o2 o3 o4=>n s' A p y c J ja (λg u q=>sm g u (λk=>?_) ?_) r o1 o2 o3 o4;·rw[k,fr]at q;cases q
 ·rw[ay (λk=>by rw[k,fr]at q;cases q)];exact q
def Ed{r:(N%0)%0}(G:ö a.prog a.w a.K a.mg a.base Ĳ b e Æ H (Ř a.K Ω H.length))(hr:å (b+2) a.A)(hb:õ a.K Æ H [])(h1:H.length=1)(I:Õ a ε Ι h f)(p':∀Q':B%0->h_->Prop,(∀h' tk,(∀g o,f.heap.get? g=Z o->h'.get? g=Z o)->f.heap.objs.size<=h'.objs.size->Q' ξ {f with heap:=h',toks:=tk})->w_ (D_ a.prog a.w) a.A.in1 (collect (.ref z)) Q' χ f)(rv:Ú ν ξ)(Q:S a.K h E ν)(r':kg Ω E=Z r)(l':kQ r=L)(im:ç E=L)(q':ç (r.map N.tup)=L)(q:∀(m:O)(d':V%0)(s:Hp),Ù h s->s m=Z (.lst d')->S a.K s (nh r E) d'->Ò (.ref m) s):w_ (D_ a.prog a.w) a.A (call (.builtin "sorted") [.ref z] [(b_ "key",.ref e)]) (EP a ε Ι Ò) χ f:=by
 obtain⟨y,n'⟩:=pc r';have w':E.length=ν.length:=gY Q;have i':ν.length=ξ.length:=rv.length;have v':ξ.length<64:=by simp![kQ,m_,decide_eq_true_eq]at l';omega
 refine call_function_entry_kw kind_sorted plain_sorted entry_sorted (ksk_s1 _ _) ?_;unfold XV.«sorted»;refine e_ (m:=checkCount "sorted" 1 1 _) (k_ ?_);refine e_ (p' _ λn g' up gr=>?_);refine e_ (wpAny_newList ?_ (kP v'));have I1:=I.kept (t':=g') (h':=n.push (Xh "list" ξ.toArray 0)) λg u j=>l_ _ (up g u j);have m':(n.push (Xh "list" ξ.toArray 0)).get? n.objs.size=Z (Xh "list" ξ.toArray 0):=xy _ rfl;have t':h n.objs.size=U:=I.hok.fresh (gr);have b':∀s,s n.objs.size=U->um a ε s n.objs.size:=λs hn=>I.fpOk (gr) hn;refine e_ (WN (wpAny_call_entry_kw slot_list_sort ⟨_,m',rfl⟩ entry_list_sort ?body (ksk_l1 _ _)));case body=>
 show w_ (D_ a.prog a.w) a.A.in1.in1 (XV.«list.sort» ⟨[.ref n.objs.size],[(b_ "key",.ref e)]⟩) _ _ _;rw[ksk_t1];refine NV (f:={f with heap:=n.push (Xh "list" ξ.toArray 0),toks:=g'}) G (hr.in1.in1) rfl hb h1 I1 m' t' b' rv Q im n' y l' q' λs' s p w cc J ja sm k o1 o2 o3 o4=>⟨_,rfl,?_⟩;refine k_ ⟨_,rfl,?_⟩;obtain⟨g0,g1,g2,g3,g4,g5⟩:=b' _ ja;have J2:=J.pinned (fp:=[n.objs.size]) (λg a'=>by
  have:g=n.objs.size:=by simpa using a'
  subst this;exact b' _ ja) (λg a'=>by
  have:g=n.objs.size:=by simpa using a'
  subst this;exact⟨_,k,λv j=>by cases j⟩);rw[AN k]at J2;have hV:Ú ((uk ξ.length).map λb=>ν.getD (p b) .non) w.toList:=by
  refine xK (by simp[o1]) λi v u A eu=>?_;have hi:i<ξ.length:=by have:=(F_.mp eu).1;simp[o1]at this;omega
  have c':w[i]?=Z u:=by simpa using eu
  rw[o2 i hi]at c';rw[K_,Y8 hi]at A;simp![YI,ZK]at A;have hp:p i<ν.length:=by rw[i'];exact o4 i hi
  have e1:ν[p i]?=Z v:=by rw[I_ hp,<-A];simp[YL,hp]
  obtain⟨u',e2,r2⟩:=rv.get e1;rw[e2]at c';cases c';exact r2
 have hR:S a.K s (nh r E) ((uk ξ.length).map λb=>ν.getD (p b) .non):=by
  have hn:ξ.length=E.length:=by omega
  rw[<-AM y,<-hn,<-o3,W7];refine xJ ∅ λi d v ed A=>?_;have hi:i<ξ.length:=by have:=(F_.mp ed).1;simpa using this
  rw[K_,Y8 hi]at ed A;simp![YI,ZK,Z8]at ed A;have hp:p i<ν.length:=by rw[i'];exact o4 i hi
  have k':p i<E.length:=by omega
  refine reps_at (S.mono sm _ _ Q) (p i) d v ?_ ?_;·rw[I_ k',<-ed];simp[YL,k']
  ·rw[I_ hp,<-A];simp[YL,hp]
 have e':(n.objs.size,Xh "list" w cc)=(n.objs.size,Ih w.toList cc):=by simp[Xh,Ih]
 rw[e']at J2;obtain⟨x',J3⟩:=Õ.retrack J2 hV (kP (by simp;omega)) (λo' j=>by
  exfalso;rcases g3 with g3|g3;·exact absurd (I.ok) (λ_=>by have:=Z_ (h:=a.s₀.heap) (a:=n.objs.size) (Wa I.sz (gr));rw[this]at j;cases j)
  ·have:=Z_ (h:=a.s₀.heap) (a:=n.objs.size) g3;rw[this]at j;cases j) g5;refine⟨.ref n.objs.size,_,J3,rfl,q _ _ _ (λg u j=>?_) az (S.mono (aH ja _) _ _ hR)⟩;exact aH ja _ g u (sm g u j)
end FD
namespace TS
open L2 FD
def okF(a:Nat%0):Bool:=a.all λk=>k !=0&&o_ (k<4)
end TS
namespace FD
open L2 TS
def aA(X:C)(N:Str%0)(b:Xk)(a:O)(s:h_)(H:Hp)(d:O%0):C:={X with N:=N,s₀:=s,H₀:=H,env:=compEnvC b (WF (a+1) b.names (mq b.names X.env [])) a X.env,outer:=X.stack,stack:=X.stack,ex:=d,fn:=λy=>b.names.lookup y==Z .cell,pn:=[],xe:=λ_ _=>False}
structure jr(osc scope:Xk)(cs:(Str×Nat)%0)(N:Str%0):Prop where
 kind:scope.kind=.function
 one:∀y∈scope.names,y.2=.cell->scope.names.lookup y.1=Z .cell
 names:∀y∈scope.names,y.2=.local->scope.names.lookup y.1=Z .local
 free:∀y∈scope.names,y.2=.free->osc.names.lookup y.1=Z .cell\/osc.names.lookup y.1=Z .free
 caps:∀c∈cs,N[c.2]?=Z c.1/\scope.names.lookup c.1=Z .free
def kT:∀(b:(Str×Yq)%0)(lo:Nat)(a:(Str×O)%0),WF lo b a=WF lo b []++a
 |[],_,_=>rfl|(n,k)::r,lo,a=>by
  unfold WF;split;·rw[kT r (lo+1) ((n,lo)::a),kT r (lo+1) [(n,lo)],XB];rfl
  ·exact kT r lo a
def AO:∀{a:(Str×Yq)%0}{lo:Nat}{n:Str}{c:O},(n,c)∈WF lo a []->(n,Xs)∈a
 |[],_,_,_,h=>(nomatch h)|(m,k)::r,lo,n,c,h=>by
  unfold WF at h;split at h
  · rename_i b;rw[kT]at h;rcases V8.mp h with q|q;·exact s_ _ (AO q)
    · have e:n=m:=by simp at q;exact q.1
      have ek:k=.cell:=by simpa using b
      subst e ek;exact pi
  ·exact s_ _ (AO h)
def wu:∀{a:(Str×Yq)%0}{lo:Nat}{n:Str},(n,Xs)∈a->((WF lo a []).lookup n).isSome=L
 |[],_,_,h=>(nomatch h)|(m,k)::r,lo,n,h=>by
  unfold WF;rcases v_.mp h with e|q;·cases e;rw[if_pos #v[],kT,YF];cases b:(WF (lo+1) r []).lookup m with|some _=>rfl|none=>simp
  · split;·rw[kT,YF];have:=wu (lo:=lo+1) q;cases b:(WF (lo+1) r []).lookup n with|some _=>rfl|none=>rw[b]at this;cases this
    ·exact wu q
def IM{i:(Str×O)%0}{a:Env}{Q:Env->h_->Prop}(m:ω.kind=.function)(k:Q (newEnv ω f.heap.objs.size e (WF (f.heap.objs.size+1) ω.names i) d U .none (Z a) aaG) {f with heap:=pushCells (f.heap.push {cls:=.type "dict",data:=.dict #[]}) ω.names}):w_ Ë I (Zz ω e i [] d U .none (Z a)) Q χ f:=by simp![Zz,acK,if_true];refine e_ (wpAny_alloc ?_);refine e_ (wpAny_layCells _ (λj b h=>by cases g:b==Xs<;>simp[g]) _ _ _ _ ?_);rw[show({f with heap:=f.heap.push {cls:=.type "dict",data:=.dict #[]}}:h_).heap.objs.size=f.heap.objs.size+1 from WB ..];refine e_ ?_;rw[ZR];exact k_ (k_ k)
def AQ{A:(Str×Nat)%0}(ok:jr a.env.scope ω A a.N)(I:Õ a ε Ι h f)(b':∀g∈υ,um a ε h g)(m':∀g∈υ,g<f.heap.objs.size)(hC:f.heap.objs.size<=e)(p':Q.Ns e λ_=>U)(E:∀g o,f.heap.get? g=Z o->Q.get? g=Z o)(g':CellsOk Q (e+1) (WF (e+1) ω.names [])):Õ (aA a (H++A.map (·.1)) ω e f h υ) [] (sr H.length A Ι) h {f with heap:=Q,toks:=b}:=by
 have s:∀n c,(mq ω.names a.env []).lookup n=Z c->a.env.cells.lookup n=Z c:=λn c d=>by
  rcases oQ _ _ d with q|⟨q1,q2⟩;·simp at q
  ·obtain⟨c',e'⟩:=I.ok.has n (ok.free _ q1 rfl);rw[e']at q2;rw[e',q2]<;>rfl
 have lk:∀n c,(aA a (H++A.map (·.1)) ω e f h υ).env.cells.lookup n=Z c->(n,c)∈WF (e+1) ω.names []\/((n,Xs)∉ω.names/\(mq ω.names a.env []).lookup n=Z c):=λn c d=>by have e':(WF (e+1) ω.names (mq ω.names a.env [])).lookup n=Z c:=d;rw[kT,YF]at e';cases hl:(WF (e+1) ω.names []).lookup n with|some c'=>rw[hl]at e';cases e';exact .inl (mem_of_lookup hl)|none=>rw[hl]at e';refine .inr ⟨λw=>?_,e'⟩;have:=wu (lo:=e+1) w;rw[hl]at this;cases this
 have k':∀n c,(n,Xs)∉ω.names->(mq ω.names a.env []).lookup n=Z c->(aA a (H++A.map (·.1)) ω e f h υ).env.cells.lookup n=Z c:=λn c w d=>by show(WF (e+1) ω.names (mq ω.names a.env [])).lookup n=Z c;rw[kT,YF];cases hl:(WF (e+1) ω.names []).lookup n with|some c'=>exact absurd (AO (mem_of_lookup hl)) w|none=>exact d
 have big:∀n c,(n,c)∈WF (e+1) ω.names []->f.heap.objs.size<c:=λn c w=>R_ (Nat.lt_succ_of_le hC) (g'.empty n c w).2;have i':∀n c,(mq ω.names a.env []).lookup n=Z c->c<f.heap.objs.size:=λn c d=>by obtain⟨v,o,ho,_⟩:=I.cell n c (s n c d);exact z_ ho
 have inj:∀y z c,(aA a (H++A.map (·.1)) ω e f h υ).env.cells.lookup y=Z c->(aA a (H++A.map (·.1)) ω e f h υ).env.cells.lookup z=Z c->y=z:=λy z c e1 e2=>by
  rcases lk y c e1 with p|⟨_,p⟩<;>rcases lk z c e2 with q|⟨_,q⟩;·exact name_of_addr g'.apart p q
  ·exact absurd (abK (big y c p) (i' z c q)) (Xb _)
  ·exact absurd (abK (big z c q) (i' y c p)) (Xb _)
  ·exact I.ok.inj y z c (s y c p) (s z c q)
 refine⟨⟨I.ok.mod,ok.kind,I.ok.glob,I.ok.blt,hC,inj,λy hy=>?_,λy c q' d=>?_,I.ok.hd,I.ok.frames,.inl rfl,λg hb=>⟨λz=>?_,λy c d=>?_⟩,I.bs,Wa I.ok.bsz I.sz,λg o d hb=>?_,λg hb z=>?_,I.stack,I.stkFree⟩,rfl,I.bare,Un.kept E,⟨_,p',λi y v h1 h2 h3=>?_⟩,λy c d=>?_,I.hok.fresh hC,λy c d=>?_,λp hp=>absurd (show p∈([]:(O×Obj)%0)from hp) ∅,I.hok.kept E,by simp[sr,aA]⟩
 · have w:(y,Xs)∈ω.names\/(y,Xl)∈ω.names:=by
    rcases hy with hy|hy
    · rcases lU hy with q|⟨_,q⟩;·exact .inl q
      ·exact .inr q
    · rcases lU hy with q|⟨q,_⟩;·exact .inr q
      ·cases q
   by_cases d':(y,Xs)∈ω.names;·obtain⟨c,h'⟩:=Yj.mp (wu (lo:=e+1) d');refine⟨c,?_⟩;show(WF (e+1) ω.names (mq ω.names a.env [])).lookup y=Z c;rw[kT,YF,h'];rfl
   ·obtain⟨c,h'⟩:=Yj.mp (p0 (d:=a.env) ω.names [] (w.resolve_left d'));exact⟨c,k' y c d' h'⟩
 · have o':ω.names.lookup y=Z .cell:=by simpa[aA]using q'
   rcases lk y c d with p|⟨p,_⟩;·exact aaz (big y c p)
   ·exact absurd (iy o') p
 ·have:=m' g hb;rw[z]at this;exact absurd (R_ this hC) (Xb _)
 · rcases lk y c d with p|⟨_,p⟩;·exactλz=>absurd (abK (big y c p) (z▸m' g hb)) (Xb _)
   ·exact(b' g hb).2.2.2.2.1 y c (s y c p)
 · rcases(b' g hb).2.2.2.1 with z|z;·exact I.ok.noex g o d z
   ·exact absurd (R_ (z_ d) (Wa I.ok.bsz z)) (Xb _)
 · rcases v_.mp (I.stkSub g z)with q|q;·exact(b' g hb).2.1 q
   ·exact(b' g hb).2.2.1 q
 ·obtain⟨k,rfl,h4⟩:=ss h2;have m:(H++A.map (·.1))[H.length+k]?=Z y:=h1;rw[Q_ ∅]at m;simp![abw]at m;rw[K_]at m;cases hc:A[k]? with|none=>rw[hc]at m;simp at m|some c=>
    rw[hc]at m;have ey:c.1=y:=by simpa using m
    subst ey;rw[K_,hc]at h4;simp![YI,ZK]at h4;have r':Ι[c.2]?=Z (Z v):=by cases q:Ι[c.2]? with|none=>rw[q]at h4;simp at h4|some o=>rw[q]at h4;simp at h4;rw[h4]
    obtain⟨hN,hf⟩:=ok.caps c (We hc);have hv:=ok.free _ (iy hf) rfl;obtain⟨mm,_,hl⟩:=I.loc;obtain⟨u,r,l⟩:=hl c.2 c.1 v hN r' (.inr hv);refine⟨u,r,.inr ⟨lV hf,?_⟩⟩;rcases l with⟨l,_⟩|⟨_,j,ha,o,ho,hd⟩
    · have l':a.env.scope.names.lookup c.1=Z .local:=l;rcases hv with z|z;·rw[l']at z;cases z
      ·rw[l']at z;cases z
    ·obtain⟨a',n'⟩:=Yj.mp (p0 (d:=a.env) ω.names [] (iy hf));have e2:=s _ _ n';rw[ha]at e2;cases e2;exact⟨j,k' _ _ (λw=>by have z:=ok.one _ w rfl;rw[hf]at z;cases z) n',o,E _ _ ho,hd⟩
 · rcases lk y c d with p|⟨_,p⟩;·exact⟨U,(g'.empty y c p).1⟩
   ·obtain⟨v,o,ho,hd⟩:=I.cell y c (s y c p);exact⟨v,o,E _ _ ho,hd⟩
 · rcases lk y c d with p|⟨_,p⟩;·exact I.hok.fresh (aaz (big y c p))
   ·exact I.freeC y c (s y c p)
def Sj(X:C)(Y:C)(a:O)(k:O%0)(j:Nat->O_->Prop)(n:Nat)(o:Nat->V%0->L2.St->Hp->Prop)(m:Nat)(g:h_):Prop:=∃i d f h e,m=n-i/\i<=n/\Õ Y [] d f g/\o i h d f/\j i g.heap/\(∀b∈k,f b=U)/\f a=U/\LAt g.heap a e/\Ú h e
def xL{scope:Xk}(cs:(Str×Nat)%0)(ok:jr a.env.scope scope cs a.N)(hc:a.calm=L){s2:h_}{it:O}{fp:O%0}{tn:Nat->O_->Prop}{J:It}{H2:Hp}(I2:Õ a ε Ι H2 s2)(T:yM a.prog a.w a.K g J fp it tn)(o':tn 0 s2.heap)(R:∀b∈fp,um a ε H2 b)(n:Nat)(Iv:Nat->V%0->L2.St->Hp->Prop)(R':∀i vs Ι A,Iv i vs Ι A->vs.length<=100000)(h0:Iv 0 [] (sr H.length cs Ι) H2)(S':∀vs Q H5,Iv n vs Q H5->J.stop n H5)(b0:∀i vs Q H5,i<n->Iv i vs Q H5->J.go i H5)(w':∀m i vs Q H5 x H7,i<n->Iv i vs Q H5->J.yld i H5 x H7->∀(Y:C),Y=aA a (H++cs.map (·.1)) scope m s2 H2 fp->∀ε s7 j,Õ Y ε Q H7 s7->â x j->w_ (D_ a.prog a.w) a.A (Ye g Y.env j) (λ_ s8=>w_ (D_ a.prog a.w) a.A (ad1 u L λc r=>if r=L then do let ok<-isTrue c Y.env (eval c Y.env);pure (YJ ok)else pure (YJ r)) (λok s9=>if ok=L then w_ (D_ a.prog a.w) a.A (eval y Y.env) (λw h'=>∃yv b' g',Õ Y ε b' g' h'/\â yv w/\Iv (i+1) (vs++[yv]) b' g') (λ_ _=>False) s9 else∃b' H9,Õ Y ε b' H9 s9/\Iv (i+1) vs b' H9) (λ_ _=>False) s8) (λ_ _=>False) s7){RR:B->O->aca->h_->Prop}(b2:∀(d m:O)(s6:h_)(H5:Hp)(b':L2.St)(vs:V%0)(m6:Str->B%1),Õ a ε Ι (æ H5 d (.lst vs)) s6->H5 d=U->Iv n vs b' H5->s6.heap.Ns m m6->H5 m=U->m≠d->s2.heap.objs.size<=m->RR (.ref d) m (.ok .next) s6):w_ (D_ a.prog a.w) a.A (newList []) (λD' M'=>w_ (D_ a.prog a.w) a.A (Zz scope a.env.globals (mq scope.names a.env []) [] a.env.qual U .none (Z a.env)) (λn' J'=>Yl (D_ a.prog a.w) a.A (.compStart (.ListComp y [⟨g,Ê,u,0⟩] scope o) 0 (.ref it) D' {n' with scope:=adH scope a.env}) (RR D' n'.locals) J') a.xe M') a.xe s2:=by
 have i':∀b∈fp,b<s2.heap.objs.size:=λb E=>by obtain⟨f,ho,_⟩:=T.obj _ _ o' b E;exact z_ ho
 refine WM (IM ok.kind ?_);dsimp!;generalize r':s2.heap.push {cls:=.type "list",dict:=U,data:=.seq ([]:B%0).toArray}=P2;obtain⟨d,hD⟩:∃d,s2.heap.objs.size=d:=⟨_,rfl⟩;have hC:P2.objs.size=d+1:=by rw[<-r',WB,hD]
 rw[hC,hD];obtain⟨a',c'⟩:∃h,h=pushCells (P2.push {cls:=.type "dict",data:=.dict #[]}) scope.names:=⟨_,rfl⟩;rw[<-c'];have kp:∀b f,P2.get? b=Z f->a'.get? b=Z f:=λb f e=>by rw[c'];exact pushCells_keeps _ _ b f (l_ _ e)
 have p':∀b f,s2.heap.get? b=Z f->a'.get? b=Z f:=λb f e=>kp b f (r'▸l_ _ e);have T':LAt a' d []:=⟨0,kp _ _ (by rw[<-r',<-hD];exact xy _ rfl)⟩;have a8:a'.Ns (d+1) λ_=>U:=by rw[c',<-hC];exact(Heap.Ns.new P2 (.type "dict")).keeps (pushCells_keeps _ _)
 have b1:CellsOk a' (d+1+1) (WF (d+1+1) scope.names []):=by have q:=cellsFrom_ok scope.names (P2.push {cls:=.type "dict",data:=.dict #[]}) (d+1+1) [] ⟨λ_ _ hm=>(nomatch hm),aa6⟩ (by rw[WB,hC];exact rl _);rw[WB,hC,<-c']at q;exact q
 have I4:Õ (aA a (H++cs.map (·.1)) scope (d+1) s2 H2 fp) [] (sr H.length cs Ι) H2 {s2 with heap:=a'}:=AQ (b:=s2.toks) ok I2 R i' (by rw[hD];exact aa5 d) a8 p' b1;have HD:H2 d=U:=I2.hok.fresh (aaA hD);have u':∀b∈fp,b≠d:=λb E=>HF (hD▸i' b E);obtain⟨Y,hY⟩:∃Y,Y=aA a (H++cs.map (·.1)) scope (d+1) s2 H2 fp:=⟨_,rfl⟩;have yE:compEnvC scope (WF (d+1+1) scope.names (mq scope.names a.env [])) (d+1) a.env=Y.env:=by rw[hY];rfl
 have yP:Y.prog=a.prog/\Y.w=a.w/\Y.K=a.K/\Y.calm=a.calm/\Y.env.locals=d+1/\Y.pn=[]/\Y.ex=fp/\Y.fs=L2.frs a.stack/\Y.A=a.A/\Y.s₀=s2:=by rw[hY];exact⟨rfl,rfl,rfl,rfl,rfl,rfl,rfl,rfl,rfl,rfl⟩
 rw[<-hY]at I4;have yB:∀{b' H' s'},Õ Y [] b' H' s'->Un (L2.frs a.stack) fp H2 H' s2.heap s'.heap:=λI=>by rw[hY]at I;exact I.base
 obtain⟨y1,y2,y3,y4,y5,y6,y7,y8,y9,y0⟩:=yP;have m':∀s4:h_,s4={s2 with heap:=a'}->Yl (D_ a.prog a.w) a.A (.compLoop (.ListComp y [⟨g,Ê,u,0⟩] scope o) 0 (.ref it) (.ref d) (compEnvC scope (WF (d+1+1) scope.names (mq scope.names a.env [])) (d+1) a.env)) (RR (.ref d) (d+1)) s4:=by
  rintro s4 rfl;rw[yE];refine su (λk s'=>Sj a Y d fp tn n Iv k s') ?_ n ⟨0,sr H.length cs Ι,H2,[],[],by simp,Wm _,I4,h0,T.keep _ _ _ o' λb E f e=>p' b f e,λb E=>(R b E).1,HD,T',.nil⟩;rintro k0 s5⟨i,Q,H5,vs,e',rfl,c1,I5,v0,t5,B',D5,l5,v5⟩;have nC:∀b∈fp,b≠Y.env.locals:=λb E=>by rw[y5];exact MD (hD▸i' b E)
  have DL:d≠Y.env.locals:=by rw[y5];exact Um
  have F':d∈Y.ex\/Y.s₀.heap.objs.size<=d:=.inr (by rw[y0];exact aaA hD);have k':∀s c,Y.env.cells.lookup s=Z c->c≠d:=λs c e z=>by obtain⟨v,f,ho,hd⟩:=I5.cell s c e;obtain⟨n,q⟩:=l5;subst z;rw[q]at ho;cases ho;cases hd
  have b9:d∉Y.fs:=λz=>by
   rw[y8]at z;rcases v_.mp (I2.stkSub d z)with q|q;·have z2:=I2.lt;rw[hD]at z2;exact HF z2 q.symm
   ·exact I2.nofs (aaA hD) q
  have Dp:um Y [] H5 d:=⟨D5,DL,b9,F',k',λp hp=>absurd (show p∈([]:(O×Obj)%0)by rw[y6]at hp;exact hp) ∅⟩;have b8:∀b∈[d],∃f,s5.heap.get? b=Z f/\∀v,f.data≠.cell v:=λb E=>by cases V5.mp E;obtain⟨n,q⟩:=l5;exact⟨_,q,λv z=>by cases z⟩
  have E':Õ Y (gl [d] s5.heap) Q H5 s5:=I5.pinned (fp:=[d]) (λb E=>by cases V5.mp E;exact Dp) b8;have a5:∀b∈fp,∀p∈Y.pn++gl [d] s5.heap,p.1≠b:=λb E p hp z=>by rw[y6]at hp;exact u' b E (z.symm.trans (V5.mp (mH hp).1))
  have t':∀{H'},(∀b∈fp,H' b=U)->∀b∈fp,um Y (gl [d] s5.heap) H' b:=λq b E=>⟨q b E,nC b E,I4.ok.exfs b (by rw[y7];exact E),.inl (by rw[y7];exact E),(I4.ok.exf b (by rw[y7];exact E)).2,a5 b E⟩;have Q':=R' _ _ _ _ v0;have c0:vs.length=e'.length:=v5.length;by_cases l':i<n
  · have z':=T.item Y y1 y2 y3 (y4.trans hc) i (gl [d] s5.heap) s5 Q H5;rw[y9]at z';refine ê (z' _ E' (t' B') t5 (b0 i vs Q H5 l' v0)) λr s6⟨j,hr,h6⟩=>?_;subst hr;refine ê h6 λ_ s7⟨xv,H7,I7,r7,a1,t7,b5⟩=>?_;have b6:=I7.pinned (fp:=fp) (t' b5) (T.obj _ _ t7);have C':∀{d':L2.St}{H8:Hp}{s8:h_},Õ Y (gl [d] s5.heap++gl fp s7.heap) d' H8 s8->tn (i+1) s8.heap/\(∀b∈fp,H8 b=U)/\H8 d=U/\LAt s8.heap d e':=λ{d' H8 s8}I8=>by obtain⟨n,q⟩:=l5;have qD:=I8.pin (d,_) (on _ (P_ _ (fF ∅ q)));refine⟨T.keep _ _ _ t7 λb E f e=>(I8.pin (b,f) (on _ (on _ (fF E e)))).1,λb E=>?_,qD.2.1,n,qD.1⟩;obtain⟨f,e,_⟩:=T.obj _ _ t7 b E;exact(I8.pin (b,f) (on _ (on _ (fF E e)))).2.1
    refine Wr (w' (d+1) i vs Q H5 xv H7 l' v0 a1 Y hY _ s7 j b6 r7) (λ_ s8 h8=>Wr h8 (λk s9 h9=>?_) λ_ _ z=>Wg z) λ_ _ z=>Wg z;cases k with|true=>
     rw[if_pos rfl]at h9⊢;refine Wr h9 (λw h'⟨yv,d',g',v',N',a2⟩=>?_) λ_ _ z=>Wg z;obtain⟨a3,U',I',a7⟩:=C' v';refine xt a7 () λb3 a6 x'=>?_;have a0:Õ Y (gl fp s7.heap) d' g' h':=v'.pins_of λp hp=>v'.pin p (on _ (on _ hp));have b7:Õ Y (gl fp s7.heap) d' g' {h' with heap:=b3}:=a0.turned (t':=h'.toks) x' I' DL F' k' λp hp z=>by rw[y6]at hp;exact u' p.1 (mH hp).1 z
     exact⟨n-(i+1),by omega,i+1,d',g',vs++[yv],e'++[w],rfl,l',b7.pins_of λp hp=>(nomatch hp),a2,T.keep _ _ _ a3 λb E f e=>x' b f (u' b E) e,U',I',a6,v5.append (.cons N' .nil)⟩|false=>rw[if_neg q_]at h9⊢;obtain⟨d',H9,I9,v9⟩:=h9;obtain⟨t9,b4,D9,l9⟩:=C' I9;exact⟨n-(i+1),by omega,i+1,d',H9,vs,e',rfl,l',I9.pins_of λp hp=>(nomatch hp),v9,t9,b4,D9,l9,v5⟩
  · have a9:i=n:=by omega
    subst a9;have A':=T.done Y y1 y2 y3 (y4.trans hc) i (gl [d] s5.heap) s5 Q H5;rw[y9]at A';refine ê (A' _ E' (t' B') t5 (S' vs Q H5 v0)) λr s6⟨hr,I6⟩=>?_;subst hr;have l6:LAt s6.heap d e':=by obtain⟨n,q⟩:=l5;exact⟨n,(I6.pin (d,_) (on _ (fF ∅ q))).1⟩
    obtain⟨m6,n6,_⟩:=I6.loc;have C6:H5 (d+1)=U:=y5▸I6.free;rw[y5]at n6;have a4:í a.prog a.w (æ H5 d (.lst vs)) s6.heap d (.lst vs):=by obtain⟨n,q⟩:=l6;exact⟨bT Q',e',n,v5,q⟩
    have u6:=yB (I6.pins_of λp hp=>(nomatch hp));have nD:∀b f,s2.heap.get? b=Z f->b≠d:=λb f e=>by
     have E:b<d:=by rw[<-hD];exact z_ e
     exact HF E
    have u7:Un (L2.frs a.stack) fp H2 (æ H5 d (.lst vs)) s2.heap s6.heap:=⟨u6.keep,u6.slot,λb f e n hx=>by rw[ay (nD b f e)];exact u6.free b f e n hx,u6.there,λb xs q=>by have q':=u6.tups b xs q;rw[ay (aF q' D5)];exact q',λb f j q=>by have q':=u6.frzs b f j q;rw[ay (aF q' D5)];exact q',λb ps q=>by obtain⟨O',q'⟩:=u6.tbls b ps q;exact⟨O',by rw[ay (aF q' D5)];exact q'⟩⟩;have y':=I6.hok;rw[y1,y2]at y';have I7:Õ a ε Ι (æ H5 d (.lst vs)) s6:=I2.call' (s':=s6) (ch:=fp) (by have:=I6.os;rw[y0]at this;exact this) u7 (ĕ.add y' D5 C6 (λb j _ q=>q) a4) I6.bare λb E=>⟨(R b E).2.2.2.1,(R b E).2.1,(R b E).2.2.2.2.1,(R b E).2.2.2.2.2⟩;exact b2 d (d+1) s6 H5 Q vs m6 I7 D5 v0 n6 C6 (WO Um) (by rw[hD];exact aa5 d)
 exact codeAny_compStart_list (m' _ rfl) (T.self _ 0 _ _ _ (T.keep _ _ _ o' λb E f e=>p' b f e) (m' _ rfl))
def xM{scope:Xk}{d':î%1}{b:N->Ev->Ev%1}(I:(Str×Nat)%0)(ok:jr a.env.scope scope I a.N)(hc:a.calm=L)(E':∀f s h fp,FG (aA a (H++I.map (·.1)) scope f s h fp) g b)(P0:Hp->V->Prop)(A':∀f s h fp,(∃ε Ι,Õ a ε Ι h s)->∀(ε:(O×Obj)%0)(s9:h_)(a':L2.St)(H9:Hp)(ρ:Ev)(j:N),Õ (aA a (H++I.map (·.1)) scope f s h fp) ε a' H9 s9->ã a.K H9 a' ρ->Ù h H9->A ρ=j%3->w_ (D_ a.prog a.w) a.A (eval y (aA a (H++I.map (·.1)) scope f s h fp).env) (EP (aA a (H++I.map (·.1)) scope f s h fp) ε a' λv b'=>Ù H9 b'/\Ü a.K b' j v/\P0 h v) (λ_ _=>False) s9)(z':∀f s h fp,(∃ε Ι,Õ a ε Ι h s)->zt (aA a (H++I.map (·.1)) scope f s h fp) u d')(p':∀ρ d q',b d (jj H.length I ρ)=Z q'->fgt Ç q'=jj H.length I ρ){ρ:Ev}{s2:h_}{it:O}{fp:O%0}{tn:Nat->O_->Prop}{J:It}{H2:Hp}(E:ã a.K H2 Ι ρ)(I2:Õ a ε Ι H2 s2)(T:yM a.prog a.w a.K g J fp it tn)(B':tn 0 s2.heap)(R:∀b∈fp,um a ε H2 b){ds ys:N%0}(wk:WkG a.K J ds H2)(T':ds.length<=100000)(Q':ys.length<=100000)(hm:lA b d' A (jj H.length I ρ) ds=Z ys){RR:B->O->aca->h_->Prop}(J':∀(m f:O)(s6:h_)(H5:Hp)(vs:V%0)(m6:Str->B%1),Õ a ε Ι (æ H5 m (.lst vs)) s6->H5 m=U->Ù H2 H5->S a.K H5 ys vs->(∀v∈vs,P0 H2 v)->s6.heap.Ns f m6->H5 f=U->f≠m->s2.heap.objs.size<=f->RR (.ref m) f (.ok .next) s6):w_ (D_ a.prog a.w) a.A (newList []) (λv' x'=>w_ (D_ a.prog a.w) a.A (Zz scope a.env.globals (mq scope.names a.env []) [] a.env.qual U .none (Z a.env)) (λl' w'=>Yl (D_ a.prog a.w) a.A (.compStart (.ListComp y [⟨g,Ê,u,0⟩] scope o) 0 (.ref it) v' {l' with scope:=adH scope a.env}) (RR v' l'.locals) w') a.xe x') a.xe s2:=by
 refine xL (H:=H) I ok hc I2 T B' R ds.length (λi vs e' H'=>∃es,(∀v∈vs,P0 H2 v)/\ã a.K H' e' (jj H.length I ρ)/\S a.K H' es vs/\es.length<=i/\i<=ds.length/\Ù H2 H'/\(match lA b d' A (jj H.length I ρ) (ds.drop i)with|some zs=>es++zs=ys|none=>False)) (λi vs Ι h⟨es,_,_,r,l,l2,_⟩=>by rw[r.length];omega) ⟨[],(λv hv=>by cases hv),zD H.length I E,rfl,rl _,Wm _,.refl H2,by rw[aaW,hm];rfl⟩ (λvs n' H5⟨es,_,_,_,_,_,e,_⟩=>wk.stop H5 e) (λi vs n' H5 g'⟨es,_,_,_,_,_,e,_⟩=>wk.go i H5 e g') (λf i vs n' H5 x H7 g'⟨es,hP,E5,r5,S',_,e5,Q⟩hy Y hY ε s7 n I7 r7=>?_) λm f s6 H5 e' vs m6 I6 D5⟨es,hP,_,r5,_,_,e5,Q⟩n6 C6 CD hC=>by rw[Y5]at Q;have s':es++[]=ys:=Q;rw[Xe]at s';subst s';exact J' m f s6 H5 vs m6 I6 D5 e5 r5 hP n6 C6 CD hC
 subst hY;obtain⟨u',d,hd,rd⟩:=wk.yld i H5 x H7 e5 g' hy;rw[jn hd]at Q;unfold lA at Q;match hb:b d (jj H.length I ρ)with
 |none=>rw[hb]at Q;exact Q.elim|some c'=>
 rw[hb]at Q;dsimp only at Q;refine Wr ((E' f s2 H2 fp).h _ s7 n' H7 x n d (jj H.length I ρ) c' I7 r7 rd (E5.mono u') hb) (λ_ s8⟨a',H8,I8,M',E8⟩=>?_) λ_ _ z=>Wg z;have h':=u'.trans M';have back:∀{m':L2.St}{H9:Hp},ã a.K H9 m' c'->ã a.K H9 m' (jj H.length I ρ):=λ{m' H9}E9=>by have q:=ã.fgt Ç E9;rw[p' ρ d c' hb]at q;exact q
 have k':∀{H9:Hp}{s9:h_},Õ (aA a (H++I.map (·.1)) scope f s2 H2 fp) ε a' H9 s9->Ù H8 H9->(match(match A c' with|some (.ok j)=>(match lA b d' A (jj H.length I ρ) (ds.drop (i+1))with|some ys=>Z (j::ys)|none=>U)|_=>U)with|some zs=>es++zs=ys|none=>False)->w_ (D_ a.prog a.w) a.A (eval y (aA a (H++I.map (·.1)) scope f s2 H2 fp).env) (λw r'=>∃yv e' b',Õ (aA a (H++I.map (·.1)) scope f s2 H2 fp) ε e' b' r'/\â yv w/\∃es,(∀v∈vs++[yv],P0 H2 v)/\ã a.K b' e' (jj H.length I ρ)/\S a.K b' es (vs++[yv])/\es.length<=i+1/\i+1<=ds.length/\Ù H2 b'/\(match lA b d' A (jj H.length I ρ) (ds.drop (i+1))with|some zs=>es++zs=ys|none=>False)) (λ_ _=>False) s9:=λ{H9 s9}I9 e9 p=>by match F':A c',p with|none,p=>exact p.elim|some (.exc c),p=>exact p.elim|some (.ok j),p=>refine Wr (A' f s2 H2 fp ⟨_,_,I2⟩ _ s9 a' H9 c' j I9 (E8.mono e9) (e5.trans (h'.trans e9)) F') (λw r'⟨yv,b',O',y',N',C',D'⟩=>?_) λ_ _ z=>Wg z;have o':=e9.trans N';refine⟨yv,a',b',O',y',es++[j],(λv hv=>(V8.mp hv).elim (hP v) λz=>by rw[V5.mp z];exact D'),back (E8.mono o'),(S.mono (h'.trans o') _ _ r5).append ⟨yv,[],rfl,C',rfl⟩,by rw[Ws,ab4];omega,g',e5.trans (h'.trans o'),?_⟩;match R':lA b d' A (jj H.length I ρ) (ds.drop (i+1)),p with|none,p=>exact p.elim|some zs,p=>dsimp only at p⊢;rw[XB];exact p
 have t':=z' f s2 H2 fp ⟨_,_,I2⟩;cases d' with|none=>cases(show u=[]from t');exact wpAny_tests_nil (by rw[if_pos rfl];exact k' I8 (.refl H8) Q)|some t=>obtain⟨c,rfl,I'⟩:=t';match i':t c',Q with|none,Q=>simp![i']at Q|some (.exc c),Q=>simp![i']at Q|some (.ok k),Q=>simp![i']at Q;refine wpAny_tests_one (Wr (I'.h _ s8 a' H8 (λb H9=>b=k/\Ù H8 H9) I8 ⟨_,E8,by rw[i'];exactλH9 e9=>⟨rfl,e9⟩⟩) (λb s9⟨H9,I9,hb,e9⟩=>?_) λ_ _ z=>Wg z);subst hb;cases b with|true=>rw[if_pos rfl];exact k' I9 e9 Q|false=>rw[if_neg q_];exact⟨a',H9,I9,es,hP,back (E8.mono e9),S.mono (h'.trans e9) _ _ r5,by omega,g',e5.trans (h'.trans e9),Q⟩
def pj{scope:Xk}{e':î%1}{b:N->Ev->Ev%1}(I:(Str×Nat)%0)(ok:jr a.env.scope scope I a.N)(hc:a.calm=L)(q':∀i s j r,FG (aA a (H++I.map (·.1)) scope i s j r) g b)(m':∀i s j r,(∃ε Ι,Õ a ε Ι j s)->FE (aA a (H++I.map (·.1)) scope i s j r) y A)(l':∀i s j r,(∃ε Ι,Õ a ε Ι j s)->zt (aA a (H++I.map (·.1)) scope i s j r) u e')(c':∀ρ d d',b d (jj H.length I ρ)=Z d'->fgt Ç d'=jj H.length I ρ){ρ:Ev}{s2:h_}{it:O}{r:O%0}{tn:Nat->O_->Prop}{J:It}{H2:Hp}(E:ã a.K H2 Ι ρ)(I2:Õ a ε Ι H2 s2)(T:yM a.prog a.w a.K g J r it tn)(o':tn 0 s2.heap)(R:∀b∈r,um a ε H2 b){ds ys:N%0}(wk:WkG a.K J ds H2)(s':ds.length<=100000)(p':ys.length<=100000)(hm:lA b e' A (jj H.length I ρ) ds=Z ys){RR:B->O->aca->h_->Prop}(t':∀(k i:O)(s6:h_)(H5:Hp)(vs:V%0)(m6:Str->B%1),Õ a ε Ι (æ H5 k (.lst vs)) s6->H5 k=U->Ù H2 H5->S a.K H5 ys vs->s6.heap.Ns i m6->H5 i=U->i≠k->s2.heap.objs.size<=i->RR (.ref k) i (.ok .next) s6):w_ (D_ a.prog a.w) a.A (newList []) (λg' i'=>w_ (D_ a.prog a.w) a.A (Zz scope a.env.globals (mq scope.names a.env []) [] a.env.qual U .none (Z a.env)) (λQ h'=>Yl (D_ a.prog a.w) a.A (.compStart (.ListComp y [⟨g,Ê,u,0⟩] scope o) 0 (.ref it) g' {Q with scope:=adH scope a.env}) (RR g' Q.locals) h') a.xe i') a.xe s2:=xM I ok hc q' (λ_ _=>True) (λi s j r hI ε s9 n' H9 ρ m I9 E9 _ r'=>Wr ((m' i s j r hI).h ε s9 n' H9 (λv q=>Ù H9 q/\Ü a.K q m v) I9 ⟨ρ,E9,by rw[r'];exactλv q b' a'=>⟨b',a'⟩⟩) (λw v'⟨yv,q,u',k',b',a'⟩=>⟨yv,q,u',k',b',a',trivial⟩) λ_ _ z=>z) l' c' E I2 T o' R wk s' p' hm (λk i s6 H5 vs m6 p b c d _ e f n h=>t' k i s6 H5 vs m6 p b c d e f n h)
def Ee{p:î%1}{b:N->Ev->Ev%1}(c':Xk)(k q:Str%0)(js:Nat%0)(n:(Str×Nat)%0)(d':a.env.scope=c')(hN:a.N=k)(ok:jr c' ω n k)(n':ZZ ω a.env=pure (mq ω.names a.env []))(hc:a.calm=L)(a':∀z d b',b d (jj q.length n z)=Z b'->fgt js b'=jj q.length n z)(hi:Ű a g Ê ο)(l':∀f s H fp,FG (aA a (q++n.map (·.1)) ω f s H fp) g b)(g':∀f s H fp,(∃f' w,Õ a f' w H s)->FE (aA a (q++n.map (·.1)) ω f s H fp) y A)(e':∀f s H fp,(∃f' w,Õ a f' w H s)->zt (aA a (q++n.map (·.1)) ω f s H fp) u p)(hs:∀x,Wd Ê a.env x=pure x:=by intro _;lk):FE a (.ListComp y [⟨g,Ê,u,0⟩] ω o) (dt q.length n ο b p A):=by subst d' hN;constructor;intro f' s w H Q I h;obtain⟨z,E,i⟩:=h;match ho:dt q.length n ο b p A z with
 |none=>rw[ho]at i;exact i.elim|some r=>
 rw[ho]at i;rw[eval_ListComp];have key:Ĺ a H (ο z) λJ H'=>∃ds ys,Ù H H'/\WkG a.K J ds H'/\ds.length<=100000/\ys.length<=100000/\lA b p A (jj q.length n z) ds=Z ys/\(∀v m,Ù H' m->Ü a.K m (.lst ys) v->Q v m):=by
  rcases RO ho with⟨c,e1,e2⟩|⟨ds,ys,e1,e2,l1,l2,e3⟩;·subst e2;rw[e1];exact i
  ·subst e3;rw[e1];exactλJ H' e wk=>⟨ds,ys,e,wk,l1,l2,e2,λv m e2 r=>i v m (e.trans e2) r⟩
 refine aa9 (use:=U) rfl hs n' ok.kind ok.names (ê (hi.h f' s w H _ I ⟨z,E,key⟩) λv s1 h1=>ê h1 λq' s2 h2=>?_);obtain⟨it,fp,tn,J,H2,e,I2,T,h',R,ds,ys,o',wk,m',k',hm,hQ⟩:=h2;subst e;refine pj n ok hc l' g' e' a' (E.mono o') I2 T h' R wk m' k' hm (RR:=λp' f=>compPost (D_ a.prog a.w) a.A a.xe U (EP a f' w Q) p' f) λj f s6 H5 vs m6 I6 D5 e5 r5 n6 C6 CD hC=>?_;refine⟨m6,n6,λh7 i'=>?_⟩;have Cn:(æ H5 j (.lst vs)) f=U:=by rw[ay CD];exact C6
 obtain⟨q0,q1,q2,q3,q4,q5⟩:=I2.fpOk hC Cn;have I7:Õ a f' w (æ H5 j (.lst vs)) {s6 with heap:=h7}:=I6.turned (t':=s6.toks) (λb i hb e=>i'.extBut b i hb e) q0 q1 q3 q4 q5;exact⟨.ref j,_,I7,rfl,hQ _ _ (e5.trans (aH D5 _)) ⟨j,vs,rfl,az,S.mono (aH D5 _) _ _ r5⟩⟩
def ww{p:î%1}{b:N->Ev->Ev%1}(k:Xk)(f j:Str%0)(I:Nat%0)(i:(Str×Nat)%0)(q:a.env.scope=k)(hN:a.N=f)(Q:jr k ω i f)(z:ZZ ω a.env=pure (mq ω.names a.env []))(hc:a.calm=L)(m:∀E d n,b d (jj j.length i E)=Z n->fgt I n=jj j.length i E)(hi:Ű a g Ê ο)(w:∀e s H h,FG (aA a (j++i.map (·.1)) ω e s H h) g b)(v:∀e s H h,FE (aA a (j++i.map (·.1)) ω e s H h) y A)(r:∀e s H h,zt (aA a (j++i.map (·.1)) ω e s H h) u p)(hs:∀x,Wd Ê a.env x=pure x:=by intro _;lk):FE a (.ListComp y [⟨g,Ê,u,0⟩] ω o) (dt j.length i ο b p A):=Ee k f j I i q hN Q z hc m hi w (λe s H h _=>v e s H h) (λe s H h _=>r e s H h) hs
def Ef{a':î%1}{b:N->Ev->Ev%1}(i:Nat)(t':a.N.Nodup)(u':a.N[i]?=Z d)(p':Ŏ a.env.scope d)(v':a.fn d=L\/a.env.scope.names.lookup d=Z .local)(d':Xk)(m ns:Str%0)(js:Nat%0)(cs:(Str×Nat)%0)(h':a.env.scope=d')(hN:a.N=m)(ok:jr d' ω cs m)(x':ZZ ω a.env=pure (mq ω.names a.env []))(hc:a.calm=L)(b':∀ρ n c',b n (jj ns.length cs ρ)=Z c'->fgt js c'=jj ns.length cs ρ)(hi:Ű a g Ê ο)(q':∀f s H fp,FG (aA a (ns++cs.map (·.1)) ω f s H fp) g b)(k':∀f s H fp,FE (aA a (ns++cs.map (·.1)) ω f s H fp) y A)(i':∀f s H fp,zt (aA a (ns++cs.map (·.1)) ω f s H fp) u a')(r':WD (.ListComp y [⟨g,Ê,u,0⟩] ω o) (Z (.Name d w)) Ο.line a.env=pure L:=by lk)(hs:∀x,Wd Ê a.env x=pure x:=by intro _;lk):PS a (.Assign [.Name d w] (.ListComp y [⟨g,Ê,u,0⟩] ω o) Ο) (tC a i (dt ns.length cs ο b a' A)):=by subst h' hN;intro f' s σ H D0 I h;obtain⟨ρ,E,k⟩:=h;match ho:dt ns.length cs ο b a' A ρ with
 |none=>rw[ho]at k;exact k.elim|some r=>
 rw[ho]at k;have key:Ĺ a H (ο ρ) λJ H'=>∃ds ys,Ù H H'/\WkG a.K J ds H'/\ds.length<=100000/\ys.length<=100000/\lA b a' A (jj ns.length cs ρ) ds=Z ys/\(∀q p Q,Ù H' q->q p=U->S a.K q ys Q->D0.nx (σ.set i (Z (.ref p))) (æ q p (.lst Q))):=by
  rcases RO ho with⟨c,e1,e2⟩|⟨ds,ys,e1,e2,l1,l2,e3⟩;·subst e2;rw[e1];exact k
  ·subst e3;rw[e1];obtain⟨E',ey,k⟩:=k;cases ey;exactλJ H' e wk=>⟨ds,ys,e,wk,l1,l2,e2,λq p Q e3 hp r=>k q p Q (e.trans e3) hp r⟩
 rw[exec_Assign_Name_used _ _ _ _ r'];refine e_ (acv (e_ ?_));show w_ _ a.A (do let _<-comprehension (.ListComp y [⟨g,Ê,u,0⟩] ω o) ω a.env _ (newList []) D (eval Ê a.env) (Z (Ye (.Name d w) a.env))) _ _ s;refine e_ (Wr (aa9 (use:=Z (Ye (.Name d w) a.env)) (Q:=λ_ s'=>SP a f' D0 .next s') rfl hs x' ok.kind ok.names (ê (hi.h f' s σ H _ I ⟨ρ,E,key⟩) λv s1 h1=>ê h1 λF' s2 h2=>?_)) (λ_ s' hq=>k_ (k_ hq)) λ_ _ e=>e);obtain⟨it,fp,tn,J,H2,e,I2,T,m',R,ds,ys,z',wk,w',o',hm,hQ⟩:=h2;subst e;refine pj cs ok hc q' (λf s H fp _=>k' f s H fp) (λf s H fp _=>i' f s H fp) b' (E.mono z') I2 T m' R wk w' o' hm (RR:=λA' f=>compPost (D_ a.prog a.w) a.A a.xe (Z (Ye (.Name d w) a.env)) (λ_ s'=>SP a f' D0 .next s') A' f) λj f s6 q Q m6 I6 D5 e5 r5 n6 C6 CD hC=>?_;have Cn:(æ q j (.lst Q)) f=U:=by rw[ay CD];exact C6
 have FC:=I2.fpOk hC Cn;obtain⟨oC,es,ep,e',g',rC⟩:=id n6;have C':=I6.pinned (fp:=[f]) (λb hb=>by
  have e:b=f:=by simpa using hb
  subst e;exact FC) (λb hb=>by
  have e:b=f:=by simpa using hb
  subst e;exact⟨oC,e',λv z=>by rw[g']at z;cases z⟩);refine ê (iO t' u' p' v' _ s6 σ _ (.ref j) (.ref j) (λl' H'=>l'=σ.set i (Z (.ref j))/\H'=æ q j (.lst Q)) C' rfl ⟨rfl,rfl⟩) λ_ s8⟨D',H8,I8,e1,e2⟩=>?_;subst e1 e2;have y':=(I8.pin (f,oC) (on _ (on _ (fF ∅ e')))).1;refine⟨m6,⟨oC,es,ep,y',g',rC⟩,λh9 n'=>?_⟩;have B':Õ a f' (σ.set i (Z (.ref j))) (æ q j (.lst Q)) s8:=I8.unpinned;obtain⟨q0,q1,q2,q3,q4,q5⟩:=FC;have I9:Õ a f' (σ.set i (Z (.ref j))) (æ q j (.lst Q)) {s8 with heap:=h9}:=B'.turned (t':=s8.toks) (λb k hb e=>n'.extBut b k hb e) q0 q1 q3 q4 q5;exact⟨_,_,I9,hQ q j Q e5 D5 r5⟩
abbrev cg:=(Str×Nat×Str%0×(ß))%0
def gz{a:θ}{T:(Str×θ)%0}(h:((p,Ó)::T).lookup d=Z a):(d=p/\a=Ó)\/T.lookup d=Z a:=by
 rw[Wo]at h;split at h;·rename_i b;exact .inl ⟨Z4 b,by cases h;rfl⟩
 ·exact .inr h
structure HA(P:n_)(w:y_)(K:d_)(mg:Str->B%1)(base:O_)(T:cg):Prop where h:∀x e,T.lookup x=Z e->Has P w K mg base x e.1 e.2.1 e.2.2
structure Ć(P:n_)(w:y_)(K:d_)(mg:Str->B%1)(base:O_)(T:cg):Prop where h:∀x e,T.lookup x=Z e->QV P w K mg base x e.1 e.2.1 e.2.2
structure G'(P:n_)(w:y_)(K:d_)(mg:Str->B%1)(base:O_)(T:cg):Prop where h:∀x e,T.lookup x=Z e->QW P w K mg base x e.1 e.2.1 e.2.2
def NW:HA s r q Ζ Q []:=⟨λ_ _ h=>by cases h⟩
def IN:Ć s r q Ζ Q []:=⟨λ_ _ h=>by cases h⟩
def IP:G' s r q Ζ Q []:=⟨λ_ _ h=>by cases h⟩
def aD{T:cg}(h:Has s r q Ζ Q d b H Ω)(t:HA s r q Ζ Q T):HA s r q Ζ Q ((d,b,H,Ω)::T):=⟨λx e a=>by
 rcases gz a with⟨rfl,rfl⟩|a;·exact h
 ·exact t.h x e a⟩
def bz{T:cg}(h:QV s r q Ζ Q d b H Ω)(t:Ć s r q Ζ Q T):Ć s r q Ζ Q ((d,b,H,Ω)::T):=⟨λx e a=>by
 rcases gz a with⟨rfl,rfl⟩|a;·exact h
 ·exact t.h x e a⟩
def Eg{T:cg}(h:QW s r q Ζ Q d b H Ω)(t:G' s r q Ζ Q T):G' s r q Ζ Q ((d,b,H,Ω)::T):=⟨λx e a=>by
 rcases gz a with⟨rfl,rfl⟩|a;·exact h
 ·exact t.h x e a⟩
abbrev IQ:=(Str×N%1)%0
def cN(s:String):Str×N%1:=(b_ s,U)
def cI(s:String)(i:Int):Str×N%1:=(b_ s,Z (.int i))
def cS(s z:String):Str×N%1:=(b_ s,Z (.str (b_ z)))
def Vt(a:Str->B%1)(x:Str):N%1->Prop|none=>a x=U|some (.int i)=>∃t,a x=Z (.int i t)|some (.str z)=>∃t,a x=Z (.str z t)|_=>False
structure MA(mg:Str->B%1)(C:IQ):Prop where h:∀x o,C.lookup x=Z o->Vt mg x o
def MA.no{C:IQ}(h:MA Ζ C)(e:C.lookup d=Z U):Ζ d=U:=h.h d U e
def Sk(K:d_)(q:Str×N%1):Bool:=match q.2,Wv K E_ q.1 with|none,Z U=>L|some (.int i),Z (Z (.int j _))=>i==j|some (.str z),Z (Z (.str y _))=>z==y|_,_=>D
def NX{K:d_}{f:Str->B%1}{h:O_}(X:K.In h)(G:h.Ns E_ f):∀(C:IQ),C.all (Sk K)=L->MA f C|[],_=>⟨λx o q=>by cases q⟩|(y,o)::C,e=>⟨λx g q=>by
 rw[Xc,m_]at e;rcases gz q with⟨rfl,rfl⟩|q
 · have b:=e.1;unfold Sk at b;dsimp only at b;split at b;·rename_i d;exact PySem.W.mg_none_of X G d
   ·rename_i i j t d;have a:i=j:=Z4 b;subst a;exact⟨t,Yg X G d⟩
   ·rename_i z y t d;have a:z=y:=Z4 b;subst a;exact⟨t,Yg X G d⟩
   ·cases b
 ·exact(NX X G C e.2).h x g q⟩
def Eh{T:cg}(s:HA a.prog a.w a.K a.mg a.base T)(m:å b a.A)(f:(T.lookup d).map (λq=>q.2.2)=Z Ω)(r:FA a (g::u) ο)(e:((T.lookup d).all λq=>Z7 q.1 b&&Ym j q.2.1.length)=L:=by lk)(n:a.env.kindOf d=Z .globalImplicit:=by lk)(k:(d==("__debug__":Str))=D:=by lk)(p:g%8:=by lk)(i:(V6 w (j_ u a.env)).any (·.1)=D:=by lk):FE a (.Call (.Name d o) (g::u) [] w) (ag Ω j ο):=by cases h:T.lookup d with|none=>rw[h]at f;cases f|some q=>rw[h]at f e;cases f;rw[Xd,m_]at e;exact Dj q.1 q.2.1 q.2.2 (s.h d q h) m (Ww e.1) n r (Wx e.2) k p i
def AR{T:cg}(v:Ć a.prog a.w a.K a.mg a.base T)(n:å b a.A)(f:(T.lookup d).map (λq=>q.2.2)=Z Ω)(k:a.ex=[])(s:FA a (g::u) ο)(e:((T.lookup d).all λq=>Z7 q.1 b&&Ym j q.2.1.length)=L:=by lk)(p:a.env.kindOf d=Z .globalImplicit:=by lk)(m:(d==("__debug__":Str))=D:=by lk)(r:g%8:=by lk)(i:(V6 w (j_ u a.env)).any (·.1)=D:=by lk):FE a (.Call (.Name d o) (g::u) [] w) (aC Ω j ο):=by cases h:T.lookup d with|none=>rw[h]at f;cases f|some q=>rw[h]at f e;cases f;rw[Xd,m_]at e;exact DD q.1 q.2.1 q.2.2 (v.h d q h) n (Ww e.1) k p s (Wx e.2) m r i
def AS{T:cg}(s:G' a.prog a.w a.K a.mg a.base T)(m:Ă b a.A)(f:(T.lookup d).map (λq=>q.2.2)=Z Ω)(r:FA a (g::u) ο)(e:((T.lookup d).all λq=>Z7 q.1 b&&Ym j q.2.1.length)=L:=by lk)(n:a.env.kindOf d=Z .globalImplicit:=by lk)(k:(d==("__debug__":Str))=D:=by lk)(p:g%8:=by lk)(i:(V6 w (j_ u a.env)).any (·.1)=D:=by lk):FE a (.Call (.Name d o) (g::u) [] w) (ag Ω j ο):=by cases h:T.lookup d with|none=>rw[h]at f;cases f|some q=>rw[h]at f e;cases f;rw[Xd,m_]at e;exact DI q.1 q.2.1 q.2.2 (s.h d q h) m (Ww e.1) n r (Wx e.2) k p i
def Sl{b:IQ}(i:MA a.mg b)(e:b.lookup d=Z (Z (.int m)))(f:a.env.kindOf d=Z .globalImplicit:=by lk)(g:(d==("__debug__":Str))=D:=by lk):FE a (.Name d o) (fC (.int m)):=let⟨_,h⟩:=i.h d _ e;Hw f h g
def Sm{b:IQ}(i:MA a.mg b)(e:b.lookup d=Z (Z (.str p)))(f:a.env.kindOf d=Z .globalImplicit:=by lk)(g:(d==("__debug__":Str))=D:=by lk):FE a (.Name d o) (fC (.str p)):=let⟨_,h⟩:=i.h d _ e;Hx f h g
def Į:Str%0->Bool|[]=>L|x::r=>!(r.contains x)&&Į r
def jk:∀{l:Str%0},Į l=L->l.Nodup|[],_=>aaR|x::r,h=>by unfold Į at h;rw[m_]at h;refine WT.2 ⟨λb=>?_,jk h.2⟩;have a:=h.1;rw[List.contains_iff_mem.2 b]at a;cases a
def kh(a:Xk)(x:Str):Bool:=match a.names.lookup x with|some .local=>L|some .cell=>L|_=>D
def fQ(h:kh ω d=L):Ŏ ω d:=by
 unfold kh at h;split at h;·exact .inl ‹_›
 ·exact .inr ‹_›
 ·cases h
def Lo(b a:Xk)(d:(Str×Nat)%0)(N:Str%0):Bool:=o_ (a.kind=.function)&&o_ (∀y∈a.names,y.2=.cell->a.names.lookup y.1=Z .cell)&&o_ (∀y∈a.names,y.2=.local->a.names.lookup y.1=Z .local)&&o_ (∀y∈a.names,y.2=.free->b.names.lookup y.1=Z .cell\/b.names.lookup y.1=Z .free)&&o_ (∀c∈d,N[c.2]?=Z c.1/\a.names.lookup c.1=Z .free)
def AT{a:Xk}{b:(Str×Nat)%0}(h:Lo ω a b H=L):jr ω a b H:=by unfold Lo at h;simp![m_,decide_eq_true_eq]at h;exact⟨h.1.1.1.1,h.1.1.1.2,h.1.1.2,h.1.2,h.2⟩
def lkc{b:Env}:∀{a:(Str×Yq)%0}{x:Str},a.lookup x=Z .cell->(a.map λ(n,k)=>if(k==Xl&&b.scope.kind==.function&&b.kindOf n==Z .cell)then(n,Xs)else(n,k)).lookup x=Z .cell|[],_,h=>by simp at h|(n,k)::r,x,h=>by rw[Wo]at h;rw[G_];cases d:x==n with|true=>rw[d]at h;cases h;simp[Wo,d]|false=>
 rw[d]at h;have e:=lkc (b:=b) h;dsimp!;split;·rw[Wo,d];exact e
 ·rw[Wo,d];exact e
def fgL(b:kh ω d=L):Ŏ (aA a H ω e f h υ).env.scope d/\((aA a H ω e f h υ).fn d=L\/(aA a H ω e f h υ).env.scope.names.lookup d=Z .local):=by
 rcases fQ b with b|b;·exact⟨.inl (ab7 b),.inr (ab7 b)⟩
 ·exact⟨.inr (lkc b),.inl (by show(ω.names.lookup d==Z .cell)=L;rw[b];rfl)⟩
def fgA(e:O)(s:h_)(b:Hp)(i:O%0)(f:Į H=L)(h:H[0]?=Z d)(g:kh ω d=L):FG (aA a H ω e s b i) (.Name d o) (gN 0):=HZ 0 (jk f) h (fgL g).1 (fgL g).2
def Sn{f:î%1}{e:(Str×Nat)%0}(r:Ű a (.Name d w) y ο)(j:∀b s H h,FE (aA a (d::e.map (·.1)) ω b s H h) g A)(i:∀b s H h,zt (aA a (d::e.map (·.1)) ω b s H h) u f)(k:Lo a.env.scope ω e a.N=L:=by lk)(n:ZZ ω a.env=pure (mq ω.names a.env []):=by lk)(v:a.calm=L:=by lk)(m:Į (d::e.map (·.1))=L:=by lk)(q:kh ω d=L:=by lk)(p:∀d,Wd y a.env d=pure d:=by intro _;lk):FE a (.ListComp g [⟨.Name d w,y,u,0⟩] ω o) (dv e ο f A):=(IG (f:=e) (a:=ο) (b:=f) (e:=A))▸ww a.env.scope a.N [d] [0] e rfl rfl (AT k) n v (M3 _) r (λb s H h=>fgA b s H h m rfl q) j i p
def So{f:Pos}{j:î%1}{h:(Str×Nat)%0}(hi:Ű a (.Name d w) y ο)(m:∀e s H i,FE (aA a (d::h.map (·.1)) ω e s H i) g A)(k:∀e s H i,zt (aA a (d::h.map (·.1)) ω e s H i) u j)(hN:Į a.N=L)(z:a.N[b]?=Z p)(n:kh a.env.scope p=L)(E:a.fn p=L)(r:Lo a.env.scope ω h a.N=L)(I:ZZ ω a.env=pure (mq ω.names a.env []))(hc:a.calm=L)(v:Į (d::h.map (·.1))=L)(hl:kh ω d=L)(q:WD (.ListComp g [⟨.Name d w,y,u,0⟩] ω o) (Z (.Name p Ο)) f.line a.env=pure L)(Q:∀d,Wd y a.env d=pure d):PS a (.Assign [.Name p Ο] (.ListComp g [⟨.Name d w,y,u,0⟩] ω o) f) (tC a b (dt 1 h ο (gN 0) j A)):=Ef b (jk hN) z (fQ n) (.inl E) a.env.scope a.N [d] [0] h rfl rfl (AT r) I hc (M3 _) hi (λe s H i=>fgA e s H i v rfl hl) m k q Q
def Sq{f:Pos}{i:î%1}{h:(Str×Nat)%0}(hi:Ű a (.Name d w) y ο)(k:∀e s H m,FE (aA a (d::h.map (·.1)) ω e s H m) g A)(j:∀e s H m,zt (aA a (d::h.map (·.1)) ω e s H m) u i)(q:WD (.ListComp g [⟨.Name d w,y,u,0⟩] ω o) (Z (.Name p Ο)) f.line a.env=pure L)(hN:Į a.N=L:=by lk)(z:a.N[b]?=Z p:=by lk)(n:kh a.env.scope p=L:=by lk)(E:a.fn p=L:=by lk)(r:Lo a.env.scope ω h a.N=L:=by lk)(I:ZZ ω a.env=pure (mq ω.names a.env []):=by lk)(hc:a.calm=L:=by lk)(v:Į (d::h.map (·.1))=L:=by lk)(hl:kh ω d=L:=by lk)(Q:∀d,Wd y a.env d=pure d:=by intro _;lk):FS a (.Assign [.Name p Ο] (.ListComp g [⟨.Name d w,y,u,0⟩] ω o) f) (cx b (dt 1 h ο (gN 0) i A)):=IH (So hi k j hN z n E r I hc v hl q Q) Aw
def Vu(f:O)(s:h_)(e:Hp)(g:O%0)(n:a.calm=L)(i:Į H=L)(m:H[0]?=Z d)(k:H[1]?=Z p)(j:kh ω d=L)(h:kh ω p=L)(v:(V_ [.Name d o,.Name p w] (aA a H ω f s e g).env).map (·.2)=Ye (.Name d o) (aA a H ω f s e g).env::(V_ [.Name p w] (aA a H ω f s e g).env).map (·.2))(u:(V_ [.Name p w] (aA a H ω f s e g).env).map (·.2)=Ye (.Name p w) (aA a H ω f s e g).env::(V_ [] (aA a H ω f s e g).env).map (·.2))(r:(V_ [.Name d o,.Name p w] (aA a H ω f s e g).env).length=2)(q:(V_ [.Name d o,.Name p w] (aA a H ω f s e g).env).findIdx? (·.1)=U):FG (aA a H ω f s e g) (.Tuple [.Name d o,.Name p w] b Ο) (gP 0 1):=zC 0 1 n (jk i) m (fgL j).1 (fgL j).2 k (fgL h).1 (fgL h).2 v u r q
def Sr{v:Pos}{i:î%1}{f:(Str×Nat)%0}(Q:Ű a (.Tuple [.Name d w,.Name p Ο] b v) y ο)(k:∀e s H h,FE (aA a (d::p::f.map (·.1)) ω e s H h) g A)(j:∀e s H h,zt (aA a (d::p::f.map (·.1)) ω e s H h) u i)(m:Lo a.env.scope ω f a.N=L:=by lk)(r:ZZ ω a.env=pure (mq ω.names a.env []):=by lk)(z:a.calm=L:=by lk)(n:Į (d::p::f.map (·.1))=L:=by lk)(I:kh ω d=L:=by lk)(q:kh ω p=L:=by lk)(E:∀d,Wd y a.env d=pure d:=by intro _;lk):FE a (.ListComp g [⟨.Tuple [.Name d w,.Name p Ο] b v,y,u,0⟩] ω o) (dt 2 f ο (gP 0 1) i A):=ww a.env.scope a.N [d,p] [0,1] f rfl rfl (AT m) r z (RP _) Q (λe s H h=>Vu e s H h z n rfl rfl I q rfl rfl rfl rfl) k j E
def Ei:∀d s b e,zt (aA a H ω d s b e) [] U:=λ_ _ _ _=>rfl
def Ej(h:∀d s b e,FT (aA a H ω d s b e) g Ν):∀d s b e,zt (aA a H ω d s b e) [g] (Z Ν):=λd s b e=>⟨_,rfl,h d s b e⟩
def NY(f:FE a g A)(e:FE a y Ä)(d:∀b i,adu y D b i=operate [b,i] (abA b i):=by intro _ _;lk):FE a (.Subscript g y o) (R Ö A Ä):=RJ f e d
def IR(j:FE a g A)(k:Į a.N=L:=by lk)(h:a.N[b]?=Z d:=by lk)(e:kh a.env.scope d=L:=by lk)(i:a.fn d=L:=by lk)(f:WD g (Z (.Name d w)) o.line a.env=pure D:=by lk):FS a (.Assign [.Name d w] g o) (cx b A):=Mu b (jk k) h (fQ e) j f (.inl i)
def IS(n:FE a g A)(f:a.ex=[]:=by lk)(e:Ym b j=D:=by lk)(p:Į a.N=L:=by lk)(k:a.N[j]?=Z d:=by lk)(h:kh a.env.scope d=L:=by lk)(m:a.fn d=L:=by lk)(i:WD g (Z (.Name d w)) o.line a.env=pure D:=by lk):Ŭ a b (.Assign [.Name d w] g o) (gW j A):=No f j (ZM e) (jk p) k (fQ h) n i (.inl m)
def Ek{e:kK}(j:FA a u ο)(h:ŭ a b À e)(m:Į a.N=L:=by lk)(i:a.N[b]?=Z d:=by lk)(f:kh a.env.scope d=L:=by lk)(k:a.fn d=L:=by lk)(g:WD (.List u Ο) (Z (.Name d w)) o.line a.env=pure D:=by lk):Ħ a (.Assign [.Name d w] (.List u Ο) o::À) (zV b ο e):=Ip (jk m) i (fQ f) j h g (.inl k)
def IT(h:YK (D_ a.prog a.w) a.A a.env a.xe)(j:FI a (.Name d w) g ο)(n:Ħ a À Χ)(m:a.calm=L:=by lk)(p:Į a.N=L:=by lk)(e:a.N[b]?=Z d:=by lk)(i:kh a.env.scope d=L:=by lk)(k:a.fn d=L:=by lk)(f:∀d,Wd g a.env d=pure d:=by intro _;lk):FS a (.For (.Name d w) g À [] o) (My b Ç ο Χ):=Mz b Ç h m j (iO (jk p) e (fQ i) (.inl k)) n f
def IU{h:kK}(m:YK (D_ a.prog a.w) a.A a.env a.xe)(p:FI a (.Name d w) g ο)(s:ŭ a b À h)(f:a.ex=[]:=by lk)(e:Ym b j=D:=by lk)(r:a.calm=L:=by lk)(u:Į a.N=L:=by lk)(i:a.N[j]?=Z d:=by lk)(n:kh a.env.scope d=L:=by lk)(q:a.fn d=L:=by lk)(k:∀d,Wd g a.env d=pure d:=by intro _;lk):Ŭ a b (.For (.Name d w) g À [] o) (zW j Ç ο h):=Nt f j Ç (ZM e) m r p (iO (jk u) i (fQ n) (.inl q)) s k
def El{h:Pos}(q:YK (D_ a.prog a.w) a.A a.env a.xe)(s:Ű a (.Tuple [.Name d Ο,.Name p w] ι h) g ο)(v:Ħ a À Χ)(i:a.calm=L:=by lk)(y:Į a.N=L:=by lk)(m:a.N[b]?=Z d:=by lk)(r:kh a.env.scope d=L:=by lk)(u:a.fn d=L:=by lk)(k:a.N[j]?=Z p:=by lk)(e:kh a.env.scope p=L:=by lk)(f:a.fn p=L:=by lk)(H:(V_ [.Name d Ο,.Name p w] a.env).map (·.2)=Ye (.Name d Ο) a.env::(V_ [.Name p w] a.env).map (·.2):=by lk)(E:(V_ [.Name p w] a.env).map (·.2)=Ye (.Name p w) a.env::(V_ [] a.env).map (·.2):=by lk)(A:(V_ [.Name d Ο,.Name p w] a.env).length=2:=by lk)(z:(V_ [.Name d Ο,.Name p w] a.env).findIdx? (·.1)=U:=by lk)(n:∀d,Wd g a.env d=pure d:=by intro _;lk):FS a (.For (.Tuple [.Name d Ο,.Name p w] ι h) g À [] o) (xE (gP b j) Ç ο Χ):=ID Ç q i s (zC b j i (jk y) m (fQ r) (.inl u) k (fQ e) (.inl f) H E A z) v n
def Em(h:ţ a u (Gc Ç))(j:Į a.N=L:=by lk)(g:a.N[b]?=Z d:=by lk)(e:kh a.env.scope d=L:=by lk)(i:a.fn d=L:=by lk)(f:(V_ (.Name d o::u) a.env).map (·.2)=Ye (.Name d o) a.env::(V_ u a.env).map (·.2):=by lk):ţ a (.Name d o::u) (Gc (b::Ç)):=Ib b (jk j) g (fQ e) (.inl i) h f
def lF(i:a.N[b]?=Z d)(f:kh a.env.scope d=L)(g:(d==("__debug__":Str))=D)(e:(d==("__classdict__":Str))=D):PE a (.Name d o) (yF b):=yG i ((fQ f).elim .inl λh=>.inr (.inl h)) g e
def IV{j:Pos}(q:FE a g A)(n:PE a (.Name d w) (yF b))(m:a.ex=[]:=by lk)(h:Wz (.Name d w) "append" a.env (eval (.Name d w) a.env)=eval (.Name d w) a.env:=by lk)(i:((V6 Ο (j_ [g] a.env)).all (λd=>!d.1)&&(Xo Ο (WJ [] a.env)).all (λd=>d.1.isSome)&&o_ ([g].length+([]:Xu%0).length+(if([]:Xu%0).isEmpty then 0 else 1)<30))=L:=by lk)(f:(j.endLine==Ο.line)=L:=by lk)(p:j_ [g] a.env=(D,eval g a.env)::j_ [] a.env:=by lk)(e:(V6 Ο (j_ [] a.env)).any (·.1)=D:=by lk)(k:WD (.Call (.Attribute (.Name d w) "append" j) [g] [] Ο) U o.line a.env=pure D:=by lk):Ŭ a b (.Expr (.Call (.Attribute (.Name d w) "append" j) [g] [] Ο) o) (DS A):=Nr m n q h i f p e k
structure P'(X:C)(o:t_)(name:Str)(e:t_)(es:t_%0)(apos cpos:Pos):Prop where
 base:Wz o name X.env (eval o X.env)=eval o X.env
 few:((V6 cpos (j_ (e::es) X.env)).all (λx=>!x.1)&&(Xo cpos (WJ [] X.env)).all (λx=>x.1.isSome)&&o_ ((e::es).length+([]:Xu%0).length+(if([]:Xu%0).isEmpty then 0 else 1)<30))=L
 line:(apos.endLine==cpos.line)=L
 s:j_ (e::es) X.env=(D,eval e X.env)::j_ es X.env
 plain:(V6 cpos (j_ es X.env)).any (·.1)=D
def sX{f:String}{r:V->V%0->Hp->VK->Prop}{b:Str->ß}(e:Slot "str" d f)(j:acC (.builtin f)=pure (.type "method_descriptor"))(n:Š a f r)(p:∀i ds k H Q,S a.K H ds k->ð a H (b i ds) Q->r (.str i) k H Q)(m:FE a g A)(q:FA a (y::u) ο)(h:P' a g d y u o w):FE a (.Call (.Attribute g d o) (y::u) [] w) (fM b A ο):=HR e j n p m q h.base h.few h.line h.s h.plain
section
open PySem.W
structure CA(K:d_)(mg:Str->B%1)(cls:Nat->O)(CJ:O)(S:Nat%0)(m:Nat):Prop where at_:∀c∈S,mg (į c)=Z (.ref (cls c))j:mg "JarError"=Z (.ref CJ)xk:∀c C,c<m->nsIn K E_ (į c)=Z (Z (.ref C))->excIn K C Ů "ValueError.__new__"=L/\mroIn K C (.ref CJ)=Z L
def CA.c{K:d_}{b:Str->B%1}{a:Nat->O}{f:O}{S:Nat%0}{m c:Nat}{x:Str}(h:CA K b a f S m)(e:c∈S)(d:į c=x):b x=Z (.ref (a c)):=by subst d;exact h.at_ c e
def nsB(K:d_)(x:Str)(a:O):Bool:=match nsIn K E_ x with|some (Z (.ref b))=>Ym a b|_=>D
def Gx(h:nsB q d e=L):nsIn q E_ d=Z (Z (.ref e)):=by
 unfold nsB at h;split at h;·rename_i b a;rw[a,Wx h]
 ·cases h
def caB(K:d_)(S:Nat%0)(a:O%0)(b:O)(m:Nat):Bool:=S.all (λc=>nsB K (į c) (a.getD c 0))&&nsB K "JarError" b&&R8 K S a b&&(uk m).all λc=>S.contains c||(match nsIn K E_ (į c)with|some U=>L|_=>D)
def Ss(X:q.In Q)(G:Q.Ns E_ Ζ)(a:caB q Ç υ e b=L):ē q Ç (λc=>υ.getD c 0) e/\CA q Ζ (λc=>υ.getD c 0) e Ç b:=by
 unfold caB at a;rw[m_,m_,m_]at a;obtain⟨⟨⟨o,n⟩,m⟩,k⟩:=a;have j:∀c∈Ç,nsIn q E_ (į c)=Z (Z (.ref (υ.getD c 0))):=λc g=>Gx (Wu.1 o c g);have h:=DV j m;refine⟨h,λc g=>mg_of X G (j c g),mg_of X G (Gx n),λc C g d=>?_⟩;have f:=Wu.1 k c (Wf.2 g);rw[adG]at f;rcases f with f|f
 · have i:c∈Ç:=by simpa using f
   rw[h.same i d];exact⟨(h.at_ c i).2.1,(h.at_ c i).2.2.2.1⟩
 ·rw[d]at f;cases f
end
noncomputable abbrev nsM(K:d_)(x:Str):(B%1)%1:=Wv K E_ x
structure Af(K:d_)(x:Str)(st:WA)(f:O):Prop where
 a:nsM K x=Z (Z (.ref f))F:∃fd,ł K x x st f fd
 k:WG K (.ref f)=L
def X'(N P:Str%0)(a:Xk):Bool:=o_ (a.kind=.function)&&!a.isCoroutine&&!a.isGenerator&&Į N&&o_ (N.take P.length=P)&&P.all (kh a)&&o_ (∀y∈a.names,y.2≠.free)
def Gy{P:Str%0}(h:X' H P ω=L):il H P ω:=by unfold X' at h;simp![m_,decide_eq_true_eq,ac8]at h;exact⟨h.1.1.1.1.1.1,h.1.1.1.1.1.2,h.1.1.1.1.2,jk h.1.1.1.2,h.1.1.2,λx a=>fQ (Wu.1 h.1.2 x a),h.2⟩
def NZ(x:Str)(a:WA)(e:Str%0):Prop:=∀(kV b f:B)(h:O%1)(d g:B)(us:B%0),us.length=e.length->acS (Xr x x (iR a) (bQ a) (ao a) .none kV b f h d g) ⟨us,[]⟩=pure (e.zip us)
def aU{h:O_}(u:q.In h)(v:h.Ns E_ Ζ)(N i:Str%0)(j:ä)(A:Af q d Γ e)(k:NZ d Γ i)(o:∀(g:B)(A:B_)(f:Env%0)(a:h_)(H:Hp)(E:XK),å b (A.deeper (Yi d (ao Γ) a.heap.objs.size e g))->Ħ (oh Ĳ s r q Ζ Q N d (ao Γ) e g A f a H E).nox (bQ Γ) j)(p:Ω=bM N.length j:=by lk)(n:X' N i (ao Γ)=L:=by lk):Has s r q Ζ Q d (b+1) i Ω:=let⟨_,m⟩:=A.F;⟨_,_,MB N i j p rfl m (Gy n) o,Yg u v A.a,A.k,m.binds k⟩
def cj{h:O_}(u:q.In h)(v:h.Ns E_ Ζ)(N i:Str%0)(j:ä)(A:Af q d Γ e)(k:NZ d Γ i)(o:∀(g:B)(A:B_)(f:Env%0)(a:h_)(H:Hp)(E:XK),å b (A.deeper (Yi d (ao Γ) a.heap.objs.size e g))->Ħ (oh (ņ s r) s r q Ζ Q N d (ao Γ) e g A f a H E) (bQ Γ) j)(p:Ω=fX N.length j:=by lk)(n:X' N i (ao Γ)=L:=by lk):QV s r q Ζ Q d (b+1) i Ω:=let⟨_,m⟩:=A.F;⟨_,_,Gf N i j p rfl m (Gy n) o,Yg u v A.a,A.k,m.binds k⟩
def IW{h:O_}(u:q.In h)(v:h.Ns E_ Ζ)(N i:Str%0)(j:ä)(A:Af q d Γ e)(k:NZ d Γ i)(o:∀(g:B)(A:B_)(f:Env%0)(a:h_)(H:Hp),Ă b (A.deeper (Yi d (ao Γ) a.heap.objs.size e g))->Ħ (cxM s r q Ζ Q N d (ao Γ) e g A f a H) (bQ Γ) j)(p:Ω=bM N.length j:=by lk)(n:X' N i (ao Γ)=L:=by lk):QW s r q Ζ Q d (b+1) i Ω:=let⟨_,m⟩:=A.F;⟨_,_,Nf N i j p m (Gy n) o,Yg u v A.a,A.k,m.binds k⟩
def IX(h:å b a.A):Ă b (sy a ε e).A:=⟨h.dp,h.un⟩
def bdL(x:Str)(a:WA)(n:Nat)(f b e:B)(i:O%1)(d h:B)(g:Nat->B):Sem ((Str×B)%0):=acS (Xr x x (iR a) (bQ a) (ao a) .none f b e i d h) ⟨(uk n).map g,[]⟩
def bdR(a:Str%0)(n:Nat)(_ _ _:B)(_:O%1)(_ _:B)(g:Nat->B):Sem ((Str×B)%0):=pure (a.zip ((uk n).map g))
def IY(a:B%0):a=(uk a.length).map λi=>a.getD i .none:=by refine adp ∅ λi b d=>?_;simp[b]
def aK(h:bdL d Γ H.length=bdR H H.length:=by lk):NZ d Γ H:=λkV a e j b g us f=>by have q:=congrFun (congrFun (congrFun (congrFun (congrFun (congrFun (congrFun h kV) a) e) j) b) g) λi=>us.getD i .none;unfold bdL bdR at q;rw[<-f,<-IY us]at q;exact q
end FD
namespace TS
open L2 FD
def Su(p q:B)(e l:Bool):Prop:=∀(a:n_)(w:y_)(A:B_)(E:B->h_->Prop)(s:h_),(∀Q:Bool->h_->Prop,Q e s->w_ (D_ a w) A (eqBool p q) Q E s)/\(∀Q:B->h_->Prop,Q (.bool l) s->w_ (D_ a w) A (richCompare .Gt p q) Q E s)
inductive pk:(B×B)%0->(Bool×Bool)%0->Prop|nil:pk [] []|cons{p q:B}{e l:Bool}{ps:(B×B)%0}{rs:(Bool×Bool)%0}:Su p q e l->pk ps rs->pk ((p,q)::ps) ((e,l)::rs)
def Eo:Int%0->Int%0->Bool|x::b,y::a=>if x=y then Eo b a else o_ (y<x)|_,_=>D
def pq:∀{f g:Int%0}{d b:B%0},f.length=g.length->Ú (f.map V.int) d->Ú (g.map V.int) b->∃e,pk (d.zip b) e/\(el e).getD D=Eo f g
 |[],[],d,b,_,v,n=>by cases v;exact⟨[],.nil,rfl⟩|k::f,j::g,d,b,u,v,n=>by cases v with|cons q p=>cases n with|cons m i=>obtain⟨e,r,i2⟩:=pq (by simpa using u) p i;obtain⟨t,rfl⟩:=q;obtain⟨o,rfl⟩:=m;refine⟨(k==j,o_ (j<k))::e,.cons (λa w A E s=>⟨(wg s.heap A D k j t o a w E s rfl).1,λQ h=>(PyProof.Rows.gt_int h:w_ (D_ a w) A (Wh .Gt (.int k t) (.int j o)) Q E s)⟩) r,?_⟩;rw[gu,i2];simp[Eo]
 |[],_::_,_,_,h,_,_=>by simp at h|_::_,[],_,_,h,_,_=>by simp at h
section
open PySem.SeqAt
open PySem.AutoSeq1(wpAny_loadPart')
open PySem.MeetsSeq PySem.MeetsSeq2 PySem.MeetsSeq3
def AU(l b:O)(j f:Array B)(n n2:Nat)(dd a':O%1)(sl H:Array (B%1))(v:(Bool×Bool)%0)(hi:pk (j.toList.zip f.toList) v)(hz:j.size=f.size):Meets (XV.«tuple.__gt__» ⟨[.ref l,.ref b],[]⟩) (λ_ a s=>s.heap.get? l=Z {cls:=.type "tuple",dict:=dd,data:=.seq j n,slots:=sl}/\s.heap.get? b=Z {cls:=.type "tuple",dict:=a',data:=.seq f n2,slots:=H}/\a (.ok (.ret (.bool ((el v).getD D)))) s):=.of_wp λm w A a s h=>by
 obtain⟨z,g,d,u,os⟩:=s;obtain⟨hl,hb,h⟩:=h;have R:=abf;wp_walk using aaf hl,aaf hb,YZ _ (λrest b p=>b.1=U/\p=⟨z,g,d,u,os⟩/\∃k,pk rest k/\a (.ok (.ret (.bool ((el k).getD D)))) ⟨z,g,d,u,os⟩) _;case turn=>rintro⟨y,x⟩rest b p⟨o,rfl,k,E,q⟩;cases E with|cons i r=>rename_i e lw b';rw[gu]at q;refine e_ ((i m w _ _ _).1 _ ?_);cases e with|true=>wp_walk;exact⟨rfl,rfl,_,r,by simpa using q⟩|false=>have I:=λQ h=>(i m w A.in1 (λe p=>a (.error e) p) ⟨z,g,d,u,os⟩).2 Q h;wp_walk using I;exact⟨_,rfl,by simpa using q⟩
 case fin=>rintro⟨b1,b2⟩p⟨o,rfl,k,E,q⟩;simp only at o;subst o;cases E;wp_walk;exact⟨_,rfl,by simpa[ZV,hz,el]using q⟩
 case h=>exact⟨rfl,rfl,v,hi,h⟩
end
end TS
namespace FD
open L2 TS
def gtT:N->N->Rs N%1|.tup e,.tup d=>(match sM e,sM d with|some a,Z b=>if a.length=b.length then .bl (Eo a b)%3 else U|_,_=>U)|_,_=>U
def UF:R2:=λx y H Q=>∃a b d e,x=.ref a/\y=.ref b/\H a=Z (.tup (d.map V.int))/\H b=Z (.tup (e.map V.int))/\d.length=e.length/\Q (.bl (Eo d e)) H
def ni{K:d_}{H:Hp}:∀{ds:N%0}{a:Int%0}{us:V%0},sM ds=Z a->S K H ds us->us=a.map V.int|[],a,us,h,r=>by cases h;exact(show us=[]from r)|.int x::ds,a,us,h,r=>by obtain⟨v,b,rfl,e,d⟩:∃v b,us=v::b/\Ü K H (.int x) v/\S K H ds b:=r;cases(show v=.int x from e);obtain⟨g,f,rfl⟩:=XJ.mp (show(sM ds).map (x::·)=Z a from h);rw[ni f d];rfl|.non::_,_,_,h,_=>by cases h|.bl _::_,_,_,h,_=>by cases h|.str _::_,_,_,h,_=>by cases h|.tup _::_,_,_,h,_=>by cases h|.lst _::_,_,_,h,_=>by cases h|.scr _::_,_,_,h,_=>by cases h|.exn _::_,_,_,h,_=>by cases h|.obj _ _::_,_,_,h,_=>by cases h
def Sv(hu:a.A.units+64<cLine):ă a (Wh .Gt) UF:=by
 intro f' s σ H x y v u Q I rx ry h;obtain⟨d,b,ns,ms,rfl,rfl,ha,hb,hl,q⟩:=h;cases rx;cases ry;obtain⟨f,r,p1,_⟩:=I.tuple (Ā.of ha);obtain⟨e,p,p2,_⟩:=I.tuple (Ā.of hb);obtain⟨k,i1,i2⟩:=pq hl r p;obtain⟨⟨b',dd,E,sl⟩,w,A,n,z⟩:=id p1;obtain⟨⟨a',o,data2,m⟩,g,j,n2,i⟩:=id p2;simp only at A z j i;subst A z j i;have hz:f.toArray.size=e.toArray.size:=by have e1:=r.length;have e2:=p.length;simp at e1 e2⊢;omega
 rw[<-i2]at q;exact abz (op:=.Gt) ⟨_,w,rfl⟩ ⟨_,g,rfl⟩ PySem.F.slot_tuple_gt PySem.F.entry_tuple_gt (PySem.F.args_tuple_gt_2 _ _) (AU d b f.toArray e.toArray n n2 dd o sl m k i1 hz) ⟨w,g,show T_ ((el k).getD D)≠ab8/\_ from⟨(λx=>nomatch x),.bl ((el k).getD D),H,I,rfl,q⟩⟩ ()
def Sw:ĝ a UF gtT:=by
 intro s q x y H Q h g o;cases s<;>cases q<;>try exact(show False from o).elim
 rename_i w v;simp![gtT]at o;split at o
 · rename_i j k p n;split at o;·rename_i m;obtain⟨d,us,rfl,f,r⟩:=h.tupE;obtain⟨b,u,rfl,e,i⟩:=g.tupE;rw[ni p r]at f;rw[ni n i]at e;exact⟨d,b,j,k,rfl,rfl,f,e,m,o _ H (.refl H) rfl⟩
   ·exact o.elim
 ·exact o.elim
def ix(k:Int):Int%0->Nat|[]=>0|m::r=>if m=k then 0 else ix k r+1
def er(k:Int):Int%0->Int%0|[]=>[]|m::r=>if m=k then r else m::er k r
structure S2(X:C)(i k:Nat)(a b:O)(H:Hp)(σ:L2.St)(Hf:Hp)(ρ:Ev):Prop where
 off:∀c,c≠a->c≠b->Hf c=H c
 na:H a=U
 nb:H b=U
 ne:a≠b
 ia:σ[i]?=Z (Z (.ref a))kb:σ[k]?=Z (Z (.ref b))len:σ.length=ρ.length
 low:∀j d,j≠i->j≠k->ρ[j]?=Z (Z d)->∃v,σ[j]?=Z (Z v)/\Ü X.K H d v
 fst:∃ds xs,ρ[i]?=Z (Z (.lst ds))/\Hf a=Z (.lst xs)/\S X.K H ds xs
 snd:∃es ys,ρ[k]?=Z (Z (.lst es))/\Hf b=Z (.lst ys)/\S X.K H es ys
abbrev FnP:=Ev->Ev%1
def tFr(X:C)(h:Û):TE:=λg H Q=>∃b,ã X.K H g b/\match h b with|none=>False|some (.exc c)=>XW X c H|some (.ok d)=>∃e,d=.lst e/\∀a p f,Ù H a->a p=U->S X.K a e f->Q (.ref p) (æ a p (.lst f))
def N0(b a:N)(c:Nat):cf b a≠c%9:=by intro h;unfold cf at h;split at h<;>first|cases h|(split at h<;>cases h)
def N1(h:cf i v=.lst E%3):∃a b,i=.lst a/\v=.lst b/\a.length+b.length<=100000/\E=a++b:=by
 unfold cf at h;split at h;·cases h
 ·split at h<;>cases h
 · split at h;·rename_i a b d;cases h;exact⟨_,_,rfl,rfl,d,rfl⟩
   ·cases h
 ·cases h
def IZ(ha:FE a g A)(hb:FE a y Ä):PE a (.BinOp g .Add y o) (tFr a (R cf A Ä)):=by intro f' s σ H Q I⟨f,E,b⟩;refine LQ FZ ha.h hb.h f' s σ H Q I ⟨f,E,?_⟩;unfold R at b;match k:A f with|none=>rw[k]at b;exact b.elim|some (.exc _)=>rw[k]at b;exact b|some (.ok n)=>rw[k]at b;intro x H1 m rx;refine⟨f,E.mono m,?_⟩;match j:Ä f with|none=>dsimp only[Þ]at b;rw[j]at b;exact b.elim|some (.exc c)=>dsimp only[Þ]at b;rw[j]at b;exact XW.mono b m|some (.ok dy)=>dsimp only[Þ]at b;rw[j]at b;intro e H2 e2 ry;have v:=Ü.mono e2 n x rx;dsimp only at b;match h:cf n dy with|none=>rw[h]at b;exact b.elim|some (.exc c)=>exact absurd h (N0 n dy c)|some (.ok d)=>rw[h]at b;obtain⟨ys,rfl,q⟩:=b;obtain⟨u,w,rfl,rfl,i,rfl⟩:=N1 h;obtain⟨p,xs,rfl,g1,q1⟩:=v.lstE;obtain⟨p2,r,rfl,g2,z⟩:=ry.lstE;exact⟨p,p2,xs,r,rfl,rfl,g1,g2,by rw[q1.length,z.length];exact bT i,λl i=>q H2 l _ (m.trans e2) i (q1.append z)⟩
end FD
namespace L2
def sY[DecidableEq θ](a:(θ×V)%0)(k:θ):V%1:=(a.find? λb=>o_ (b.1=k)).map (·.2)
def uR[DecidableEq θ](a:(θ×V)%0)(k:θ)(v:V):(θ×V)%0:=if(a.any λb=>o_ (b.1=k))=L then a.map (λb=>if b.1=k then(b.1,v)else b)else a++[(k,v)]
def my[DecidableEq θ]{p:θ×V}{r:(θ×V)%0}{k:θ}(e:p.1=k):sY (p::r) k=Z p.2:=by simp[sY,XE,e]
def mz[DecidableEq θ]{p:θ×V}{r:(θ×V)%0}{k:θ}(e:¬p.1=k):sY (p::r) k=sY r k:=by simp[sY,XE,e]
def wx{b:Type}[DecidableEq b](k:b):∀a:(b×V)%0,(a.any λd=>o_ (d.1=k))=(sY a k).isSome
 |[]=>rfl|p::r=>by
  rw[Xv];by_cases e:p.1=k;·simp![my e,decide_eq_true e,Bool.true_or,acK]
  ·rw[mz e,decide_eq_false e,Bool.false_or];exact wx k r
def nj[DecidableEq θ](a:(θ×V)%0)(k:θ)(v:V):(uR a k v).length<=a.length+1:=by
 unfold uR;split;·rw[S_];omega
 ·rw[Ws,Wb,List.length_nil];omega
def ę.isSome_eq{o:V%1}{u:B%1}(r:ę o u):o.isSome=u.isSome:=by cases o with
 |none=>cases u with|none=>rfl|some _=>exact(show False from r).elim
 |some _=>cases u with|none=>exact(show False from r).elim|some _=>rfl
def ę.getD{o:V%1}{u:B%1}(r:ę o u)(a:â ψ Α):â (o.getD ψ) (u.getD Α):=by cases o with
 |none=>cases u with|none=>exact a|some _=>exact(show False from r).elim
 |some _=>cases u with|none=>exact(show False from r).elim|some _=>exact r
def KV.val[DecidableEq θ]{a:(θ×V)%0}{g:(θ×B)%0}(r:KV a g)(k:θ):ę (sY a k) (acO g k):=by unfold KV at r;induction r with|nil=>exact X9|@cons p q n d h t j=>
 obtain⟨i,m⟩:=h;by_cases e:p.1=k
 · have f:q.1=k:=i.symm.trans e;have b:acO (q::d) k=Z q.2:=by simp[acO,XE,f]
   rw[my e,b];exact m
 · have f:¬q.1=k:=λz=>e (i.trans z);have b:acO (q::d) k=acO d k:=by simp[acO,XE,f]
   rw[mz e,b];exact j
def KV.any[DecidableEq θ]{a:(θ×V)%0}{d:(θ×B)%0}(r:KV a d)(k:θ):(a.any λb=>o_ (b.1=k))=d.any λb=>o_ (b.1=k):=by unfold KV at r;induction r with|nil=>rfl|cons h t e=>rw[Xv,Xv,e,h.1]
def KV.repl[DecidableEq θ]{b:(θ×V)%0}{f:(θ×B)%0}(r:KV b f)(k:θ){y:V}{u:B}(g:â y u):KV (b.map λa=>if a.1=k then(a.1,y)else a) (f.map λa=>if a.1=k then(a.1,u)else a):=by unfold KV at r⊢;induction r with|nil=>exact .nil|@cons p q n m h t i=>
 rw[G_,G_];refine .cons ?_ i;obtain⟨d,j⟩:=h;by_cases e:p.1=k;·rw[if_pos e,if_pos (d.symm.trans e)];exact⟨d,g⟩
 ·rw[if_neg e,if_neg (λz=>e (d.trans z))];exact⟨d,j⟩
def KV.put[DecidableEq θ]{a:(θ×V)%0}{b:(θ×B)%0}(r:KV a b)(k:θ){y:V}{u:B}(d:â y u):KV (uR a k y) (stored b k u):=by
 unfold uR stored;rw[r.any k];by_cases e:(b.any λf=>o_ (f.1=k))=L;·rw[if_pos e,if_pos e];exact r.repl k d
 ·rw[if_neg e,if_neg e];exact Paired.snoc r ⟨rfl,d⟩
def KV.length[DecidableEq θ]{a:(θ×V)%0}{b:(θ×B)%0}(r:KV a b):a.length=b.length:=abc r
def Ja{k:ü}(a:â (kV k) Α):(dR s r).is k Α=L:=by cases k with|inl i=>obtain⟨t,e⟩:=(show∃t,Α=abk i t from a);subst e;exact ut s r i t|inr x=>obtain⟨t,e⟩:=(show∃t,Α=Yp x t from a);subst e;exact uu s r x t
def sZ{P:n_}{w:y_}:∀{a:ü%0}{us:B%0},Ú (a.map kV) us->ItemsAre (dR P w) a us|[],_,r=>by rw[ZP]at r;cases r;exact .nil|k::a,_,r=>by rw[G_]at r;cases r with|cons h t=>exact .cons (Ja h) (sZ t)
abbrev KT(H:Hp):(ü%0×V)%0->(ü%0×O×B)%0->Prop:=adV λp q=>p.1=q.1/\H q.2.1=Z (.tup (p.1.map kV))/\â p.2 q.2.2
def KT.val{d:(ü%0×V)%0}{i:(ü%0×O×B)%0}(r:KT h d i)(k:ü%0):ę (sY d k) ((adQ i k).map (·.2)):=by induction r with|nil=>exact X9|@cons p q o f a t m=>
 obtain⟨j,_,n⟩:=a;by_cases e:p.1=k
 · have g:q.1=k:=j.symm.trans e;have b:adQ (q::f) k=Z q.2:=by simp[adQ,XE,g]
   rw[my e,b];exact n
 · have g:¬q.1=k:=λz=>e (j.trans z);have b:adQ (q::f) k=adQ f k:=by simp[adQ,XE,g]
   rw[mz e,b];exact m
def KT.repl{b:(ü%0×V)%0}{g:(ü%0×O×B)%0}(r:KT h b g)(k:ü%0){y:V}{u:B}(j:â y u):KT h (b.map λf=>if f.1=k then(f.1,y)else f) (g.map (putAt k u)):=by induction r with|nil=>exact .nil|@cons p q s o a t m=>
 rw[G_,G_];refine .cons ?_ m;obtain⟨d,i,n⟩:=a;unfold putAt;by_cases e:p.1=k;·rw[if_pos e,if_pos (d.symm.trans e)];exact⟨d,i,j⟩
 ·rw[if_neg e,if_neg (λz=>e (d.trans z))];exact⟨d,i,n⟩
def KT.put{a:(ü%0×V)%0}{d:(ü%0×O×B)%0}(r:KT h a d)(k:ü%0){b:O}{y:V}{u:B}(i:h b=Z (.tup (k.map kV)))(f:â y u):KT h (uR a k y) (storedH d k b u):=by
 have e:(a.any λg=>o_ (g.1=k))=(adQ d k).isSome:=by rw[wx,(r.val k).isSome_eq,Option.isSome_map]
 unfold uR storedH;rw[e];by_cases q:(adQ d k).isSome=L;·rw[if_pos q,if_pos q];exact r.repl k f
 ·rw[if_neg q,if_neg q];exact Paired.snoc r ⟨rfl,i,f⟩
def KT.keeps{a:(ü%0×V)%0}{e:(ü%0×O×B)%0}(r:KT h a e)(f:∀b d,h b=Z (.tup d)->Δ b=Z (.tup d)):KT Δ a e:=Paired.mapP r λ_ _ z=>⟨z.1,f _ _ z.2.1,z.2.2⟩
def N2{u:HO}(b:ĕ s r h Q)(a:Rd h e u):í s r h Q e u:=a.ok b
def Jb{b:(ü×V)%0}(f:ĕ s r h Q)(a:Rd h e (.dK b)):b.length<=sizeLine/\(e==Yc)=D/\∃d,KV b d/\Q.DictOf (dR s r) e d:=show í s r h Q e (.dK b)from N2 f a
def Sx{b:(ü×V)%0}(f:ĕ s r h Q)(a:h e=Z (.dK b)):b.length<=sizeLine/\(e==Yc)=D/\∃d,KV b d/\Q.DictOf (dR s r) e d:=Jb f (.inl a)
def jf{d:ü%0}(g:ĕ s r h Q)(b:h e=Z (.tup (d.map kV))):(abi (dR s r)).is Q d e:=by obtain⟨_,f,a,o,k,j,n,i⟩:=(show í s r h Q e (.tup (d.map kV))from g e _ b);exact⟨o,f.toArray,n,k,j,i,by simpa using sZ a⟩
def Jc{d:(ü%0×V)%0}(i:ĕ s r h Q)(a:Rd h e (.dT d)):d.length<=sizeLine/\(e==Yc)=D/\∃g,KT h d g/\Q.DictOfH (abi (dR s r)) e g:=by
 obtain⟨z,y,g,b,o,E,H,A,w,v,u,n⟩:=(show í s r h Q e (.dT d)from N2 i a);refine⟨z,y,g,b,o,E,H,A,w,v,u,λx f=>?_,n⟩;have all:∀{l:(ü%0×V)%0}{m:(ü%0×O×B)%0},KT h l m->∀x∈m,(abi (dR s r)).is Q x.1 x.2.1:=by intro l m q;induction q with|nil=>intro x f;exact nomatch f|@cons p q ps I j t k=>
  intro x f;rcases v_.mp f with a|f;·subst a;exact jf i (by rw[<-j.1];exact j.2.1)
  ·exact k x f
 exact all b x f
def N3{b:(ü%0×V)%0}(f:ĕ s r h Q)(a:h e=Z (.dT b)):b.length<=sizeLine/\(e==Yc)=D/\∃d,KT h b d/\Q.DictOfH (abi (dR s r)) e d:=Jc f (.inl a)
def Ż(H:Hp)(a:O)(y:V)(r:V%1):Prop:=(∃d k,Rd H a (.dK d)/\y=kV k/\r=sY d k)\/∃d k b,Rd H a (.dT d)/\y=.ref b/\H b=Z (.tup (k.map kV))/\r=sY d k
def Ŷ(H:Hp)(a:O)(y v:V)(e:Hp):Prop:=(∃d k,H a=Z (.dK d)/\y=kV k/\d.length<sizeLine/\e=æ H a (.dK (uR d k v)))\/∃d k b,H a=Z (.dT d)/\y=.ref b/\H b=Z (.tup (k.map kV))/\d.length<sizeLine/\e=æ H a (.dT (uR d k v))
def Ż.t{b:(ü%0×V)%0}{k:ü%0}(a:h e=Z (.dT b))(d:h z=Z (.tup (k.map kV))):Ż h e (.ref z) (sY b k):=.inr ⟨b,k,z,.inl a,rfl,d,rfl⟩
def Ŷ.t{b:(ü%0×V)%0}{k:ü%0}(a:h e=Z (.dT b))(f:h z=Z (.tup (k.map kV)))(d:b.length<sizeLine):Ŷ h e (.ref z) ψ (æ h e (.dT (uR b k ψ))):=.inr ⟨b,k,z,a,rfl,f,d,rfl⟩
def Õ.big(I:Õ a ε Ψ h f):Yc<f.heap.objs.size:=by have b:E_<f.heap.objs.size:=(I.mod.glob.keeps I.bk).lt;exact abK #v[] b
def AV{g:HO}(I:Õ a ε Ψ h f)(j:Mut (h e))(k:X4 e f.heap Q)(m:∃q,Q.get? e=Z q)(i:í a.prog a.w (æ h e g) Q e g):Õ a ε Ψ (æ h e g) {f with heap:=Q,toks:=b}:=I.write (x:=e) (e:=e) j (.inl rfl) (λd q n z=>(k.2 d n).trans z) m i
def N4{a:(ü×V)%0}{b:(ü×B)%0}(z:a.length<=sizeLine)(f:(e==Yc)=D)(d:KV a b)(g:Q.DictOf (dR s r) e b):í s r h Q e (.dK a):=⟨z,f,b,d,g⟩
def AW{v:V}{r:B}{Q:Unit->h_->Prop}(hu:I.units+1<cLine)(i:Õ a ε Ψ h f)(g:Ŷ h e ψ v Δ)(ry:â ψ Α)(rv:â v r)(j:∀s',Õ a ε Ψ Δ s'->Q Unit.unit s'):w_ (D_ a.prog a.w) I (setItem (.ref e) Α r) Q χ f:=by
 rcases g with⟨n,k,d,A,l,E⟩|⟨n,k,b,d,A,eb,l,E⟩
 · subst A E;obtain⟨z,y,vs,m,H⟩:=Sx i.hok d;have s:vs.length<=sizeLine:=by rw[<-m.length];exact z
   have w:(uR n k v).length<=sizeLine:=by have:=nj n k v;omega
   refine wpAny_setItem_pairs (hsz:=s) (Ja ry) H λh' o u=>j _ ?_;have he:∃q,h'.get? e=Z q:=let⟨q,_,_,p,_⟩:=o;⟨q,p⟩;exact AV i (by rw[d];exact X9) u he (N4 w y (m.put k rv) o)
 · subst A E;cases(show Α=C_ b from ry);obtain⟨z,y,xs,m,H⟩:=N3 i.hok d;have s:xs.length<=sizeLine:=by rw[<-abc m];exact z
   have w:(uR n k v).length<=sizeLine:=by have:=nj n k v;omega
   refine wpAny_setItem_heap (hsz:=s) (tupleKind_room_in1 hu) (jf i.hok eb) H λh' o u=>j _ ?_;obtain⟨q,es,ep,p,h2,h3,h4,_,h5⟩:=o;refine AV i (by rw[d];exact X9) u ⟨q,p⟩ ⟨w,y,_,(m.put k eb rv).keeps λc ys ec=>?_,q,es,ep,p,h2,h3,h4,h5⟩;rw[ay (Q9 ec d (λz=>nomatch z))];exact ec
def Sy(h f g:TE):TS:=λb d H=>g d H λv k=>h d k λx j=>f d j λy i=>∃a e,x=.ref a/\Ŷ i a y v e/\b.nx d e
def Je{k m:TE}(hu:a.A.units+1<cLine)(ho:PE a g Φ)(hi:PE a y k)(hv:PE a Ê m)(hs:WD Ê (Z (.Subscript g y w)) o.line a.env=pure D):PS a (.Assign [.Subscript g y w] Ê o) (Sy Φ k m):=by intro j s i H f I h;refine wpAny_Assign_Subscript (ê (hv j s i H _ I h) λr p⟨v,H1,I1,A,q1⟩=>ê (ho j p i H1 _ I1 q1) λu n⟨x,H2,I2,z,Q⟩=>ê (hi j n i H2 _ I2 Q) λiv s3⟨e,H3,I3,q,d,H4,ex,b,E⟩=>?_) hs;subst ex;obtain rfl:u=C_ d:=z;exact AW hu I3 b q A λs4 I4=>⟨i,H4,I4,E⟩
def Ep(a:O_)(b:Yc<a.objs.size):í s r h (a.push {cls:=.type "dict",data:=.dict #[]}) a.objs.size (.dT []):=⟨Wm _,beq_eq_false_iff_ne.mpr (WO (V7 b)),[],.nil,_,#[],0,xy _ rfl,⟨rfl,rfl,rfl⟩,rfl,rfl,aaR⟩
def N5:TE:=λ_ H Q=>∀p,H p=U->Q (.ref p) (æ H p (.dT []))
def Er:PE a (.Dict [] [] o) N5:=λd s b H Q I h=>wpAny_Dict_empty ⟨.ref s.heap.objs.size,_,I.laid (a:=s.heap.objs.size) (o:=.dT []) (t':=s.toks) (λ_ _ q=>l_ _ q) (rl _) (Ep s.heap I.big),rfl,h _ (I.hok.fresh (rl _))⟩
structure M2(X:C)(o:t_)(m:Str)(apos:Pos)(e f:t_)(cpos:Pos):Prop where
 base:Wz o m X.env (eval o X.env)=eval o X.env
 few:((V6 cpos (j_ [e,f] X.env)).all (λx=>!x.1)&&(Xo cpos (WJ [] X.env)).all (λx=>x.1.isSome)&&o_ (([e,f]:t_%0).length+([]:Xu%0).length+(if([]:Xu%0).isEmpty then 0 else 1)<30))=L
 line:(apos.endLine==cpos.line)=L
 trees:V6 cpos (j_ [e,f] X.env)=[(D,eval e X.env),(D,eval f X.env)]
def IsD(H:Hp)(a:O):Prop:=(∃b,Rd H a (.dK b))\/∃b,Rd H a (.dT b)
def Gz(I:Õ a ε Ψ h f)(d:IsD h e):f.TypeIs (.ref e) "dict"/\(∀b,C_ e=.ref b->∃i,f.heap.get? b=Z i/\i.dict=U)/\(e==Yc)=D:=by
 rcases d with⟨o,g⟩|⟨o,g⟩;·obtain⟨_,k,r,_,j⟩:=Jb I.hok g;refine⟨j.typeIs,λb q=>?_,k⟩;cases q;obtain⟨i,_,_,n,m,_⟩:=j;exact⟨i,n,m.2.1⟩
 ·obtain⟨_,k,p,_,j⟩:=Jc I.hok g;refine⟨j.typeIs,λb q=>?_,k⟩;cases q;obtain⟨i,_,_,n,m,_⟩:=j;exact⟨i,n,m.2.1⟩
def N6{d:V}{r:B}{o:V%1}(H:I.units+1<cLine)(i:Õ a ε Ψ h f)(g:Ż h e ψ o)(y:â ψ Α)(A:â d r)(m:∀v w,Õ a ε Ψ h w->â (o.getD d) v->Î v w):w_ (D_ a.prog a.w) I (call (.builtin "dict.get") [.ref e,Α,r]) Î χ f:=by
 rcases g with⟨u,k,j,s,l⟩|⟨u,k,b,j,s,Q,l⟩;·subst s;obtain⟨z,q,vs,n,p⟩:=Jb i.hok j;refine call_meetsIn ZX p.typeIs abG (abq _ _ _) (meets_dict_get_default (dR a.prog a.w) e (Ja y) q r) ⟨_,p.mapOf,m _ _ (i.tok _) ?_⟩;rw[l];exact(n.val k).getD A
 ·subst s;cases(show Α=C_ b from y);obtain⟨z,q,E,n,p⟩:=Jc i.hok j;refine call_meetsIn ZX p.typeIs abG (abq _ _ _) (meetsH_dict_get_default (abi (dR a.prog a.w)) e b q r) ⟨tupleKind_room_in1 H,k,E,jf i.hok Q,p,m _ _ (i.tok _) ?_⟩;rw[l];exact(n.val k).getD A
def N7(h f g:TE):TE:=λb H Q=>h b H λx e=>∃a,x=.ref a/\IsD e a/\f b e λy i=>g b i λz d=>∃o,Ż d a y o/\Q (o.getD z) d
def Es{n p:TE}(hu:a.A.units+1<cLine)(ho:PE a g Φ)(he:PE a y n)(hf:PE a Ê p)(m:M2 a g "get" o y Ê w):PE a (.Call (.Attribute g "get" o) [y,Ê] [] w) (N7 Φ n p):=by intro j s i H Q I h;refine wpAny_Call_method m.base m.few m.line abp ZX PySem.F.type_dict_get (ê (ho j s i H _ I h) λu E⟨x,H1,q,rx,e,ex,d,q1⟩=>?_);subst ex;obtain rfl:u=C_ e:=rx;obtain⟨v,r,_⟩:=Gz q d;refine⟨v,r,?_⟩;rw[m.trees];refine YD rfl (aab (YC (ê (he j E i H1 _ q q1) λiv A⟨f,H2,I2,ry,q2⟩=>YC (ê (hf j A i H2 _ I2 q2) λfv s3⟨z,H3,I3,rz,ov,b,q3⟩=>ZI ?_))));exact N6 hu I3 b ry rz λw' s4 I4 k=>⟨_,H3,I4,k,q3⟩
end L2
namespace FD
open L2
abbrev Kv:=(Str%0×N)%0
def NoD(u:HO):Prop:=∀a,u≠.dT a
mutual
theorem Ü.off{K:d_}{H g:Hp}(k:∀b u,NoD u->H b=Z u->g b=Z u):∀(d:N)(v:V),Ü K H d v->Ü K g d v|.non,_,h=>h|.bl _,_,h=>h|.int _,_,h=>h|.str _,_,h=>h|.tup ds,v,h=>by obtain⟨a,f,r,h,q⟩:=h.tupE;exact⟨a,f,r,k _ _ (λ_ z=>by cases z) h,S.off k ds f q⟩|.lst ds,v,h=>by obtain⟨a,f,r,h,q⟩:=h.lstE;exact⟨a,f,r,k _ _ (λ_ z=>by cases z) h,S.off k ds f q⟩|.scr i,v,h=>by obtain⟨a,r,h⟩:∃a,v=.ref a/\SqF K H a (i.map V.int):=h;exact⟨a,r,h.imp (λ⟨o,h⟩=>⟨o,k _ _ (λ_ z=>by cases z) h⟩) id⟩|.exn c,v,h=>by obtain⟨a,o,u,C,r,h,q⟩:∃a o u C,v=.ref a/\H a=Z (.frz o u)/\o.cls=.ref C/\Wv K E_ (į c)=Z (Z (.ref C)):=h;exact⟨a,o,u,C,r,k _ _ (λ_ z=>by cases z) h,q⟩|.obj c ds,v,h=>by obtain⟨a,C,j,e,r,h,n,q,l⟩:=h.objE;exact⟨a,C,j,e,r,k _ _ (λ_ z=>by cases z) h,n,S.off k ds e q,l⟩theorem S.off{K:d_}{H g:Hp}(k:∀b u,NoD u->H b=Z u->g b=Z u):∀(ds:N%0)(e:V%0),S K H ds e->S K g ds e|[],_,h=>h|d::ds,e,h=>by obtain⟨v,us,r,h,q⟩:∃v us,e=v::us/\Ü K H d v/\S K H ds us:=h;exact⟨v,us,r,Ü.off k d v h,S.off k ds us q⟩end
def kS(k:Str%0):ü%0:=k.map aaX
def AX{j:Str%0}(h:kS H=kS j):H=j:=(List.map_inj_right λa b h=>Sum.inr.inj h).mp h
def GA(a:Kv)(k:Str%0)(d:N):Kv:=if(a.any λp=>o_ (p.1=k))=L then a.map (λp=>if p.1=k then(p.1,d)else p)else a++[(k,d)]
def AY(a:Kv)(k:Str%0):N%1:=(a.find? λp=>o_ (p.1=k)).map (·.2)
inductive KD(K:d_)(H:Hp):Kv->(ü%0×V)%0->Prop|nil:KD K H [] []|cons{k:Str%0}{d:N}{v:V}{kv:Kv}{kvs:(ü%0×V)%0}:Ü K H d v->KD K H kv kvs->KD K H ((k,d)::kv) ((kS k,v)::kvs)
def KD.mono{K:d_}{H e:Hp}(f:∀d v,Ü K H d v->Ü K e d v):∀{b:Kv}{a:(ü%0×V)%0},KD K H b a->KD K e b a|_,_,.nil=>.nil|_,_,.cons r t=>.cons (f _ _ r) (KD.mono f t)
def KD.length{K:d_}{H:Hp}:∀{b:Kv}{a:(ü%0×V)%0},KD K H b a->b.length=a.length|_,_,.nil=>rfl|_,_,.cons r t=>by rw[Wb,Wb,KD.length t]
def KD.any{K:d_}{H:Hp}(k:Str%0):∀{b:Kv}{a:(ü%0×V)%0},KD K H b a->(a.any λp=>o_ (p.1=kS k))=b.any λp=>o_ (p.1=k)|_,_,.nil=>rfl|_,_,.cons (k:=j) r t=>by rw[Xv,Xv,KD.any k t];congr 1;show o_ (kS j=kS k)=o_ (j=k);rw[Xf];simp![decide_eq_true_eq];exact⟨AX,λh=>by rw[h]⟩
def KD.map{K:d_}{H:Hp}{k:Str%0}{d:N}{v:V}(b:Ü K H d v):∀{e:Kv}{a:(ü%0×V)%0},KD K H e a->KD K H (e.map λp=>if p.1=k then(p.1,d)else p) (a.map λp=>if p.1=kS k then(p.1,v)else p)
 |_,_,.nil=>.nil|_,_,.cons (k:=j) r t=>by
  rw[G_,G_];by_cases h:j=k;·subst h;simp![if_true];exact .cons b (KD.map b t)
  ·have f:¬kS j=kS k:=λz=>h (AX z);simp![h,f,if_false];exact .cons r (KD.map b t)
def KD.snoc{K:d_}{H:Hp}{k:Str%0}{d:N}{v:V}(b:Ü K H d v):∀{e:Kv}{a:(ü%0×V)%0},KD K H e a->KD K H (e++[(k,d)]) (a++[(kS k,v)])|_,_,.nil=>.cons b .nil|_,_,.cons r t=>.cons r (KD.snoc b t)
def KD.put(b:Ü q h i ψ){d:Kv}{a:(ü%0×V)%0}(t:KD q h d a):KD q h (GA d H i) (uR a (kS H) ψ):=by
 unfold GA uR;rw[t.any H];split;·exact KD.map b t
 ·exact KD.snoc b t
def KD.val{K:d_}{H:Hp}(k:Str%0):∀{b:Kv}{a:(ü%0×V)%0},KD K H b a->(match AY b k with|some d=>∃v,sY a (kS k)=Z v/\Ü K H d v|none=>sY a (kS k)=U)
 |_,_,.nil=>rfl|_,_,.cons (k:=j) (d:=d) (v:=v) (kv:=b) (kvs:=a) r t=>by
  by_cases h:j=k
  · subst h;have f:AY ((j,d)::b) j=Z d:=by simp[AY]
    have e:sY ((kS j,v)::a) (kS j)=Z v:=my rfl;rw[f];exact⟨v,e,r⟩
  · have f:AY ((j,d)::b) k=AY b k:=by simp[AY,XE,h]
    have e:sY ((kS j,v)::a) (kS k)=sY a (kS k):=mz λz=>h (AX z);rw[f,e];exact KD.val k t
def ş(a:O)(H d:Hp):Prop:=∀b u,b≠a->H b=Z u->d b=Z u
structure T1(X:C)(i:Nat)(a:O)(H:Hp)(σ:L2.St)(ρ:Ev)(kv:Kv):Prop where
 ia:σ[i]?=Z (Z (.ref a))no:∀d,ρ[i]?≠Z (Z d)env:ã X.K H σ ρ
 dct:∃kvs,H a=Z (.dT kvs)/\KD X.K H kv kvs
def T1.mono{i:Kv}(T:T1 a b e h Ι ζ i)(f:Ù h Δ):T1 a b e Δ Ι ζ i:=by obtain⟨g,k,j⟩:=T.dct;exact⟨T.ia,T.no,T.env.mono f,g,f _ _ k,j.mono λd v r=>Ü.mono f d v r⟩
def T1.set{f:Kv}(T:T1 a b e h Ι ζ f){j:Nat}(g:j≠b){d:N}{v:V}(r:Ü a.K h d v):T1 a b e h (Ι.set j (Z v)) (ζ.set j (Z d)) f:=⟨by rw[p_ g];exact T.ia,λi=>by rw[p_ g];exact T.no i,T.env.set r,T.dct⟩
def T1.put{i:Kv}(T:T1 a b e h Ι ζ i){k:Str%0}{d:N}{v:V}{g:(ü%0×V)%0}(E:h e=Z (.dT g))(A:KD a.K h i g)(r:Ü a.K h d v):T1 a b e (æ h e (.dT (uR g (kS k) v))) Ι ζ (GA i k d):=by
 have m:∀f u,NoD u->h f=Z u->æ h e (.dT (uR g (kS k) v)) f=Z u:=λf u s q=>by
  have y:f≠e:=λz=>by rw[z,E]at q;cases q;exact s _ rfl
  rw[ay y];exact q
 refine⟨T.ia,T.no,⟨T.env.len,λj H w=>?_⟩,_,az,(A.put r).mono λd v r=>Ü.off m d v r⟩;obtain⟨n,p,o⟩:=T.env.at' j H w;exact⟨n,p,Ü.off m _ _ o⟩
def Sz:N->(Str%0)%1|.tup ds=>du ds|_=>U
def AZ(d:Sz i=Z H)(r:Ü q h i ψ):∃b,ψ=.ref b/\h b=Z (.tup ((kS H).map kV)):=by
 cases i<;>try(cases d;done)
 rename_i ds;obtain⟨a,f,rfl,o,n⟩:=r.tupE;refine⟨a,rfl,?_⟩;have e:∀{ds:N%0}{H:Str%0}{f:V%0},du ds=Z H->S q h ds f->f=(kS H).map kV:=by intro ds;induction ds with|nil=>intro H f d r;cases d;exact(show f=[]from r)|cons i ds m=>
  intro H f d r;obtain⟨ψ,us,rfl,j,k⟩:∃ψ us,f=ψ::us/\Ü q h i ψ/\S q h ds us:=r;cases i<;>try(cases d;done)
  rename_i z;cases g:du ds with|none=>simp[du,g]at d|some p=>simp[du,g]at d;subst d;cases(show ψ=.str z from j);rw[m g k];rfl
 rw[o,e d n]
abbrev ŗ:=Ev->Kv->N%1
def tV(X:C)(i:Nat)(g:ŗ):TE:=λh H Q=>∃a e f,T1 X i a H h e f/\∃d,g e f=Z d/\∀v b,Ù H b->Ü X.K b d v->Q v b
structure FV(X:C)(i:Nat)(e:t_)(g:ŗ):Prop where h:PE X e (tV X i g)
def vE(f:Û):ŗ:=λa _=>match f a with|some (.ok d)=>Z d|_=>U
def Jf(e f:Û):ŗ:=λa b=>match e a,f a with|some (.ok k),d%3=>(match Sz k with|some k=>Z ((AY b k).getD d)|none=>U)|_,_=>U
def pv(F:ß)(g:ŗ)(f:Û):ŗ:=λa b=>match g a b,f a with|some x,y%3=>(match F [x,y]with|some (.ok d)=>Z d|_=>U)|_,_=>U
abbrev œ:=Ev->Kv->(Ev×Kv)%1
def tDc(X:C)(i:Nat)(f:œ):TS:=λb m H=>∃a j k,T1 X i a H m j k/\∃e g,f j k=Z (e,g)/\∀d h,ş a H h->T1 X i a h d e g->b.nx d h
structure FDs(X:C)(i:Nat)(st:WA%0)(f:œ):Prop where h:ŋ X st (tDc X i f)
structure Et(X:C)(i:Nat)(st:WA)(f:œ):Prop where h:PS X st (tDc X i f)
def Jg(e:Û)(g:ŗ):œ:=λa b=>match g a b,e a with|some d,k%3=>(match Sz k with|some k=>if b.length<100000 then Z (a,GA b k d)else U|none=>U)|_,_=>U
def ql(j:Nat)(a:œ):N%0->œ|[],b,e=>Z (b,e)|d::ds,b,e=>match a (b.set j (Z d)) e with|some (f,g)=>ql j a ds f g|none=>U
def Jh(j:Nat)(b:Û)(a:œ):œ:=λd e=>match b d with|some (.ok (.tup ds))=>ql j a ds d e|_=>U
def ş.refl(a:O)(H:Hp):ş a H H:=λ_ _ _ h=>h
def ş.trans{d:Hp}(p:ş e h Δ)(q:ş e Δ d):ş e h d:=λb u n a=>q b u n (p b u n a)
def ş.of(d:Ù h Δ):ş e h Δ:=λb u _ a=>d b u a
def SA(k:FE a g A):FV a b g (vE A):=⟨λm s i H Q I⟨e,j,n,T,d,f,q⟩=>k.h m s i H Q I ⟨j,T.env,by
 unfold vE at f;split at f;·rename_i o h;cases f;rw[h];exact q
 ·cases f⟩⟩
def N9(hu:a.A.units+1<cLine)(hx:PE a (.Name d o) (yF b))(hk:FE a g A)(hd:FE a y Ä)(m:M2 a (.Name d o) "get" w g y Ο):FV a b (.Call (.Attribute (.Name d o) "get" w) [g,y] [] Ο) (Jf A Ä):=⟨λf' s E H Q I⟨e,v,kv,T,f,i,q⟩=>by
 refine Es hu hx hk.h hd.h m f' s E H Q I ⟨.ref e,T.ia,e,rfl,?_⟩;obtain⟨u,h1,h2⟩:=T.dct;refine⟨.inr ⟨u,.inl h1⟩,v,T.env,?_⟩;unfold Jf at i;split at i
 · rename_i k0 d0 e1 e2;split at i;·rename_i k ek;cases i;rw[e1];intro vk H1 r rk;refine⟨v,(T.mono r).env,?_⟩;rw[e2];intro vd H2 p rd;obtain⟨h,rfl,hb⟩:=AZ ek (Ü.mono p _ _ rk);have T2:=T.mono (r.trans p);obtain⟨j,g1,g2⟩:=T2.dct;refine⟨sY j (kS k),Ż.t g1 hb,q _ H2 (r.trans p) ?_⟩;have n:=g2.val k;cases z:AY kv k with|none=>rw[z]at n;rw[n];exact rd|some d1=>rw[z]at n;obtain⟨v1,e3,r3⟩:=n;rw[e3];exact r3
   ·cases i
 ·cases i⟩
def Oa{f:ŗ}(hu:a.A.units+1<cLine)(hx:PE a (.Name d w) (yF b))(hk:FE a g A)(hv:FV a b y f)(hs:WD y (Z (.Subscript (.Name d w) g Ο)) o.line a.env=pure D:=by lk):Et a b (.Assign [.Subscript (.Name d w) g Ο] y o) (Jg A f):=⟨λf' s Q H m I⟨e,ρ,kv,T,a',b',n,q⟩=>by
 unfold Jg at n;split at n
 · rename_i i k0 e1 e2;split at n
   · rename_i k ek;split at n
     · rename_i hl;cases n;refine Je hu hx hk.h hv.h hs f' s Q H m I ⟨e,ρ,kv,T,i,e1,λv H1 E r1=>⟨.ref e,T.ia,ρ,(T.mono E).env,?_⟩⟩;rw[e2];intro vk H2 z rk;obtain⟨j,rfl,hb⟩:=AZ ek rk;have T2:=T.mono (E.trans z);obtain⟨p,g1,g2⟩:=T2.dct;have r:p.length<sizeLine:=by have:=g2.length;have h2:=bT (b:=p.length+1) ();omega
       refine⟨e,_,rfl,Ŷ.t g1 hb r,q Q _ (λj u hn h=>?_) (T2.put g1 g2 (Ü.mono z _ _ r1))⟩;rw[ay hn];exact z _ _ (E _ _ h)
     ·cases n
   ·cases n
 ·cases n⟩
def Ji{f:œ}(h:Et a b Γ f):FDs a b [Γ] f:=⟨pQ h.h⟩
def Ā.offD{K:d_}{a b:O}{H f:Hp}{e:V%0}{d:(ü%0×V)%0}(k:ş a H f)(g:H a=Z (.dT d))(h:H b=Z (.tup e)):f b=Z (.tup e):=k b _ (λz=>by rw[z,g]at h;cases h) h
def Ob{fb:œ}(j:Nat)(p':j≠b)(hp:YK (D_ a.prog a.w) a.A a.env a.xe)(hc:a.calm=L)(hi:FE a g A)(hg:PG a (.Name d w) (w8 j))(hb:FDs a b À fb)(hs:∀x,Wd g a.env x=pure x:=by intro _;lk):Et a b (.For (.Name d w) g À [] o) (Jh j A fb):=⟨λf' s σ H i I⟨e,ρ,kv,T,e',h',hf,q⟩=>by
 refine rP hp hc (LP hi.h) hg hb.h hs f' s σ H i I ⟨ρ,T.env,?_⟩;unfold Jh at hf;split at hf
 · rename_i ds hd;rw[hd];intro v H1 s1 r1;obtain⟨f,p,rfl,h1,h2⟩:=r1.tupE;refine⟨f,rfl,⟨p,Ā.of h1⟩,?_⟩;have r':=T.mono s1;have s':ds.length=p.length:=by have:=h2.length;omega
   refine⟨λn m a' H'=>m=ds.length-n/\n<=ds.length/\ş e H1 H'/\H' f=Z (.tup p)/\S a.K H' ds p/\∃b' E,T1 a b e H' a' b' E/\ql j fb (ds.drop n) b' E=Z (e',h'),⟨ds.length,by simp,Wm _,ş.refl e H1,h1,h2,ρ,kv,r',by simpa using hf⟩,?_⟩;rintro n m a' H'⟨rfl,hn,g',Q,i',b',E,Tn,k⟩;by_cases k':n<ds.length
   · have hx:p[n]?=Z p[n]:=I_ ();have l':ds[n]?=Z ds[n]:=I_ k';refine .inr ⟨⟨p,p[n],Ā.of Q,hx⟩,λd' H2=>ş e H1 H2/\H2 f=Z (.tup p)/\S a.K H2 ds p/\∃r y,T1 a b e H2 d' r y/\ql j fb (ds.drop (n+1)) r y=Z (e',h'),λd' H2 z=>⟨ds.length-(n+1),by omega,rfl,k',z⟩,λx H2 yl=>?_⟩;obtain⟨rfl,n'⟩:=yl;have ex:=n' p (Ā.of Q);rw[hx]at ex;cases ex;have rd:Ü a.K H2 ds[n] p[n]:=FD.reps_at i' n _ _ l' hx;rw[jn l']at k;unfold ql at k;split at k
     · rename_i r y q';refine⟨e,_,E,Tn.set p' rd,r,y,q',λt' H3 c' T3=>⟨g'.trans c',?_,?_,r,y,T3,k⟩⟩;·obtain⟨m',g1,_⟩:=Tn.dct;exact Ā.offD (K:=a.K) c' g1 Q
       ·obtain⟨m',g1,_⟩:=Tn.dct;exact S.off (λc u hn h=>c' c u (λz=>by rw[z,g1]at h;cases h;exact hn _ rfl) h) _ _ i'
     ·cases k
   · have o':n=ds.length:=by omega
     subst o';rw[Y5]at k;cases k;exact .inl ⟨⟨p,Ā.of Q,by omega⟩,q a' H' ((ş.of s1).trans g') Tn⟩
 ·cases hf⟩
def Eu{g1:ŗ}(k:Nat)(ps:Str%0)(F:ß)(h:Has a.prog a.w a.K a.mg a.base d k ps F)(hr:å j a.A)(hk:k<=j)(hg:Gl a d)(h1:FV a b g g1)(h2:FE a y A)(hn:ps.length=2:=by lk)(u:(d==("__debug__":Str))=D:=by lk)(he:j_ [g,y] a.env=(D,eval g a.env)::j_ [y] a.env:=by lk)(r:j_ [y] a.env=(D,eval y a.env)::j_ [] a.env:=by lk)(n:(V6 w (j_ [y] a.env)).any (·.1)=D:=by lk):FV a b (.Call (.Name d o) [g,y] [] w) (pv F g1 A):=by
 obtain⟨f,fd,G,hm,p,hb⟩:=h;refine⟨λf' s σ H Q I⟨e,z,kv,T,i,m,q⟩=>?_⟩;unfold pv at m;split at m
 · rename_i d1 d2 q1 q2;split at m;·rename_i d' hF;cases m;refine mL (G.mono hk) hr hg hm p hb .nil Mb (ij h1.h (ij h2.h oN r) he) u he n f' s σ H Q I ⟨e,z,kv,T,d1,q1,λv1 H1 s1 r1=>⟨z,(T.mono s1).env,?_⟩⟩;rw[q2];intro E H2 s2 r2;refine⟨[d1,d2],⟨v1,[E],rfl,Ü.mono s2 _ _ r1,E,[],rfl,r2,rfl⟩,hn.symm,?_⟩;rw[hF];exactλv H' s3 r3=>q v H' ((s1.trans s2).trans s3) r3
   ·cases m
 ·cases m
def Ba(i:Nat)(f g:œ)(a:Ev->Kv->Fl%1):ä:=λj=>match f (j.set i U) []with|some (d,h)=>(match g d h with|some (b,e)=>a b e|none=>U)|none=>U
def tR(X:C)(i:Nat)(r:Ev->Kv->Fl%1):TS:=λb g H=>∃a e f d,T1 X i a H g e f/\Ù d H/\d a=U/\þ X d (r e f) b
structure FR(X:C)(i:Nat)(sts:WA%0)(r:Ev->Kv->Fl%1):Prop where h:ŋ X sts (tR X i r)
def Ew{s2:WA}{f1 R:œ}{r:Ev->Kv->Fl%1}(hN:a.N.Nodup)(hi:a.N[b]?=Z d)(hx:Ŏ a.env.scope d)(h1:Et a b Γ f1)(h2:Et a b s2 R)(hr:FR a b À r)(hs:WD (.Dict [] [] Ο) (Z (.Name d w)) o.line a.env=pure D:=by lk)(hf:a.fn d=L\/a.env.scope.names.lookup d=Z .local:=by first|exact .inl rfl|exact .inr rfl|assumption):Ħ a (.Assign [.Name d w] (.Dict [] [] Ο) o::Γ::s2::À) (Ba b f1 R r):=⟨λf' s A H h I⟨Q,E,e⟩=>by
 refine gT (oH (b:=b) hN hi hx Er hs hf) (gT h1.h (gT h2.h hr.h)) f' s A H h I λp hp=>?_;have c':b<A.length:=by rw[I.len];exact(F_.mp hi).1
 have s0:Ù H (æ H p (.dT [])):=aH hp _;have T0:T1 a b p (æ H p (.dT [])) (A.set b (Z (.ref p))) (Q.set b U) []:=by
  have E1:=(E.mono s0).fgt1 b;refine⟨A_ c',λg=>?_,⟨by rw[Wl];exact E1.len,λj g i=>?_⟩,[],az,.nil⟩
  · by_cases hl:b<Q.length;·rw[A_ hl];exactλz=>by cases z
    ·rw[WC (by rw[Wl];omega)];exactλz=>by cases z
  · have d':b≠j:=λz=>by
     subst z;by_cases hl:b<Q.length;·rw[A_ hl]at i;cases i
     ·rw[WC (by rw[Wl];omega)]at i;cases i
    obtain⟨v,q1,q2⟩:=E1.at' j g i;exact⟨v,by rw[p_ d'];exact q1,q2⟩
 unfold Ba at e;split at e
 · rename_i m q e1;split at e
   · rename_i k n e2;refine⟨p,_,[],T0,m,q,e1,λi' H1 b' g'=>⟨p,m,q,g',k,n,e2,λh' H2 a' e'=>⟨p,k,n,H,e',λf u hb=>?_,hp,e⟩⟩⟩;have y:f≠p:=λz=>by rw[z,hp]at hb;cases hb
     exact a' f u y (b' f u y (s0 f u hb))
   ·exact e.elim
 ·exact e.elim⟩
open TS
def Bb{h:Array DictEntry}(a:f.heap.IsValuesView e z)(d:f.heap.get? z=Z Å)(g:Å.data=.dict h b)(i:Î (.ref f.heap.objs.size) {f with heap:=f.heap.push {cls:=.type "dict_valueiterator",data:=.fields #[.ref z,.int 0 0,.int h.size 0,.int b 0]}}):w_ (D_ s r) I (pyIter (.ref e)) Î χ f:=by obtain⟨m,k,n,j⟩:=id a;refine wpAny_pyIter_slot a.typeIs aaa (W6 aaa a.typeIs PySem.F.entry_dict_values_iter ?_ (PySem.F.args_dict_values_iter_1 _));unfold XV.«dict_values.__iter__»;refine e_ (k_ (e_ ?_));unfold ad3;refine e_ (WV k j (x:=.ref z) rfl (k_ (e_ ?_)));unfold adk;refine e_ (aaZ d g (e_ (abP d g ?_)));simp![show YG "dict_valueiterator"=D by decide,x_,if_false];refine WM (k_ ⟨_,rfl,"dict_valueiterator",_,⟨_,xy _ rfl,rfl⟩,WK.lookup,?_⟩);simpa[ż]using i
def Bc{h:Array DictEntry}{Q:B%1->h_->Prop}(a:f.heap.IsValIter z e j h.size b)(i:f.heap.get? e=Z Å)(k:Å.data=.dict h b)(p:(h[j]?).map (·.val)=Z Α)(v:∀o,o.IsValIter z e (j+1) h.size b->X4 z f.heap o->Q (Z Α) {f with heap:=o}):w_ (D_ s r) I (ů (.ref z)) Q χ f:=by
 obtain⟨y,n,u,g⟩:=id a;unfold ů;refine e_ (Yb (WL (name:=b_ "__next__") a.typeIs WK (W6 WK a.typeIs Y1 ?_ (YW _))));refine e_ (k_ (e_ (e_ ?_)));first|refine e_ (Xw a.typeIs (k_ (e_ (aaD n g ?_))))|refine e_ (X_ a.typeIs (k_ (e_ (aaD n g ?_))))
 have m:YG "dict_valueiterator"=D:=by decide+kernel
 simp![m,if_false,x_];show w_ _ _ (if(C_ e==.none)=L then _ else _) _ _ f;rw[if_neg (show¬((C_ e==.none)=L)from nofun)];refine e_ (k_ (e_ (aaZ i k ?_)));rw[if_neg ∅];refine e_ (k_ (e_ (abP i k ?_)));rw[if_neg ∅];refine k_ ?_;obtain⟨w,q,rfl⟩:=XJ.mp p;simp![if_false,show¬((j:Int)<0)from by omega,ZS,q];refine e_ ?_;first|refine e_ (Xw a.typeIs (k_ (e_ (YN a.typeIs ?_))))|refine e_ (X_ a.typeIs (k_ (e_ (YN a.typeIs ?_))))
 show w_ _ _ (setField (.ref z) 1 (ż ((j:Int)+1))>>=_) _ _ f;refine e_ (aaB n g ∅ ?_);have d:(f.heap.update z (acA (·.setIfInBounds 1 (ż ((j:Int)+1))))).IsValIter z e (j+1) h.size b:=⟨_,YO _ n (ab2 (Zl g _)),(acX ..).trans u,by rw[Zl g];simp[ż]⟩;refine e_ (WN (e_ (YN (s:={f with heap:=f.heap.update z (acA (·.setIfInBounds 1 (ż ((j:Int)+1))))}) d.typeIs (e_ (YN (s:={f with heap:=f.heap.update z (acA (·.setIfInBounds 1 (ż ((j:Int)+1))))}) d.typeIs ?_)))));show w_ _ _ (pure w.val) _ _ _;exact k_ (k_ ⟨_,rfl,k_ (v _ d (XH ..))⟩)
def Ex{m:Array DictEntry}{Q:B%1->h_->Prop}(p:I.handled=U)(a:f.heap.IsValIter z e j m.size b)(d:f.heap.get? e=Z Å)(g:Å.data=.dict m b)(o:m.size<=j)(q:∀n,Heap.ExtBut z f.heap n->Q U {f with heap:=n}):w_ (D_ s r) I (ů (.ref z)) Q χ f:=by
 obtain⟨u,i,v,k⟩:=id a;unfold ů;refine e_ (Yb (WL (name:=b_ "__next__") a.typeIs WK (W6 WK a.typeIs Y1 ?_ (YW _))));refine e_ (k_ (e_ (e_ ?_)));first|refine e_ (Xw a.typeIs (k_ (e_ (aaD i k ?_))))|refine e_ (X_ a.typeIs (k_ (e_ (aaD i k ?_))))
 have h:YG "dict_valueiterator"=D:=by decide+kernel
 simp![h,if_false,x_];show w_ _ _ (if(C_ e==.none)=L then _ else _) _ _ f;rw[if_neg (show¬((C_ e==.none)=L)from nofun)];refine e_ (k_ (e_ (aaZ d g ?_)));rw[if_neg ∅];refine e_ (k_ (e_ (abP d g ?_)));rw[if_neg ∅];refine k_ ?_;simp![if_false,show¬((j:Int)<0)from by omega,ZS,Array.getElem?_eq_none o];refine e_ ?_;first|refine e_ (Xw a.typeIs (k_ ?_))|refine e_ (X_ a.typeIs (k_ ?_))
 show w_ _ _ (setField (.ref z) 0 .none>>=_) _ _ f;refine e_ (aaB i k ∅ ?_);show w_ _ _ (newExc (.type "StopIteration") []>>=_) _ _ _;refine e_ ?_;simp![newTuple,newExc];refine e_ (WM ?_ (by size_fits));refine e_ (m:=aaF _ _) (adq (a:=J_) (by first|(simp![aaF];rfl)|rfl) (WM ?_ (by size_fits)));simp![raiseNew];refine e_ (wpAny_handled ?_);rw[show I.in1.handled=U from p];refine e_ (k_ (wpAny_throw ?_));refine e_ (wpAny_isInstance (T:="StopIteration") (b:=L) ⟨_,xy _ rfl,rfl⟩ isSubtype_stop ?_);exact k_ (q _ (((XH ..).extBut.push _).push _))
def Bd(hh:I.handled=U)(f d:O)(u:d≠f)(n:Array DictEntry)(A:Nat):Walks s r I f [f,d] [f] n.size (λi v=>(n[i]?).map (·.val)=Z v) (λi h=>h.IsValIter f d i n.size A/\∃o,h.get? d=Z o/\o.data=.dict n A)where
 sub:=λb m=>by simp at m;simp[m]
 frame:=λ_ _ _⟨st,o,k,j⟩z=>⟨st.at λo e=>z f ∅ o e,o,z d ∅ o k,j⟩;item:=λi g Q E H⟨st,o,k,j⟩p=>by
  have y:(n[i]?).map (·.val)=Z n[i].val:=by simp[H]
  refine Bc st k j y λq a b=>?_;exact p _ q g.toks y ⟨a,o,b.extBut d o u k,j⟩ λb' o m e=>b.extBut b' o (λh=>m (by simp[h])) e
 done:=λg Q E⟨st,o,k,j⟩p=>Ex hh st k j (rl _) λq w=>p q g.toks λb o m e=>w b o (λh=>m (by simp[h])) e;self:=λ_ _ _ _⟨st,_⟩p=>wpAny_pyIter_valiter st p
def Ey(a d:O)(e:Array DictEntry)(m:Nat):PySem.W.KdlSrc s r "dict_values" a d e.size (λi v=>(e[i]?).map (·.val)=Z v) (λh=>h.IsValuesView a d/\∃o,h.get? d=Z o/\o.data=.dict e m)where
 type:=λ_ g=>g.1.typeIs;there:=λ_⟨⟨_,u,_⟩,_,b,_⟩=>⟨z_ u,z_ b⟩;keep:=λ_ _⟨⟨o,p,x⟩,j,b,y⟩k=>⟨⟨o,k a (.inl rfl) o p,x⟩,j,k d (.inr rfl) j b,y⟩;notList:=by decide
 notTuple:=by decide
 hint:=λ_ _ _ _ g f=>PySem.W.kdl_hint_values g.1.typeIs f;iter:=λ_ _ q⟨n,o,b,y⟩=>⟨_,_,(λ_ _ f=>Bb n b y f),Bd q _ d (V7 (z_ b)) e m,⟨⟨_,xy _ rfl,rfl,rfl⟩,o,l_ _ b,y⟩⟩
def tf{k:Array DictEntry}{R:B%0->h_->Prop}(v:I.handled=U)(n:f.heap.IsValuesView z e)(q:f.heap.get? e=Z Å)(w:Å.data=.dict k b)(u:k.size<=sizeLine)(p:z+1=f.heap.objs.size)(h:∀i m,(∀a Å,f.heap.get? a=Z Å->i.get? a=Z Å)->f.heap.objs.size<=i.objs.size->R (k.toList.map (·.val)) {f with heap:=i,toks:=m}):w_ (D_ s r) I (collect (.ref z)) R χ f:=by
 refine PySem.W.kdu_collect (Ey z e k b) v ⟨n,Å,q,w⟩ u λi m g up it=>?_;have d:g.toList=k.toList.map (·.val):=by
  refine ac6 ?_;intro j;have E:=it.1;by_cases o:j<g.size;·have:=it.2 j g[j] (by simp[o]);simp![XX,K_];rw[this];simp[o]
  ·rw[WC (by simp;omega),WC (by simp;omega)]
 rw[d];refine h i m up ?_;obtain⟨A,y,_⟩:=n;exact p▸Nat.succ_le_of_lt (z_ (up _ _ y))
def Be(a:f.TypeIs (.ref e) "dict")(b:(e==Yc)=D)(h:Î (.ref f.heap.objs.size) {f with heap:=f.heap.push {cls:=.type "dict_values",data:=.fields #[.ref e]}}):w_ (D_ s r) I (call (.builtin "dict.values") [.ref e]) Î χ f:=by refine W6 abe a PySem.F.entry_dict_values ?_ (PySem.F.args_dict_values_1 _);refine e_ ?_;unfold Builtin.Dict.noArgs;refine e_ (wpAny_notOrdered_dict a ?_);show w_ _ _ (pure e) _ _ f;refine k_ ?_;show w_ _ _ (ab3 e>>=_) _ _ f;unfold ab3;rw[if_neg (by rw[b];exact nofun)];exact e_ (k_ (e_ (WM (k_ ⟨_,rfl,h⟩))))
structure M0(X:C)(o:t_)(m:Str)(apos cpos:Pos):Prop where
 base:Wz o m X.env (eval o X.env)=eval o X.env
 few:((V6 cpos (j_ [] X.env)).all (λx=>!x.1)&&(Xo cpos (WJ [] X.env)).all (λx=>x.1.isSome)&&o_ (([]:t_%0).length+([]:Xu%0).length+(if([]:Xu%0).isEmpty then 0 else 1)<30))=L
 line:(apos.endLine==cpos.line)=L
 trees:V6 cpos (j_ [] X.env)=[]
def pB(F:ß):ŗ:=λ_ a=>match wt F (a.map (·.2))with|some (.ok d)=>Z d|_=>U
def KD.reps{K:d_}{H:Hp}:∀{b:Kv}{a:(ü%0×V)%0},KD K H b a->S K H (b.map (·.2)) (a.map (·.2))|_,_,.nil=>rfl|_,_,.cons r t=>⟨_,_,rfl,r,KD.reps t⟩
def Jj{b:(ü%0×V)%0}{d:(ü%0×O×B)%0}(r:KT h b d):Ú (b.map (·.2)) (d.map (·.2.2)):=by induction r with|nil=>exact .nil|cons a _ e=>exact .cons a.2.2 e
def Ez{f p2 kp y:Pos}(k:Nat)(ps:Str%0)(F:ß)(h:Has a.prog a.w a.K a.mg a.base p k ps F)(hr:å j a.A)(hk:k+2<=j)(h1:ps.length=1)(hg:Gl a "sorted")(hm:a.mg "sorted"=U)(r':Gl a p)(hx:PE a (.Name d o) (yF b))(m:M0 a (.Name d o) "values" w Ο)(s':(p==("__debug__":Str))=D:=by lk)(he:V6 y (j_ [.Call (.Attribute (.Name d o) "values" w) [] [] Ο] a.env)=(D,eval (.Call (.Attribute (.Name d o) "values" w) [] [] Ο) a.env)::V6 y (j_ [] a.env):=by lk)(E:(V6 y (j_ [.Call (.Attribute (.Name d o) "values" w) [] [] Ο] a.env)).any (·.1)=D:=by lk)(c':V6 y (j_ [] a.env)=[]:=by lk)(g':(Xo y (WJ [⟨Z "key",.Name p p2,kp⟩] a.env)).all (·.1.isSome)=L:=by lk)(q':(Xo y (WJ [⟨Z "key",.Name p p2,kp⟩] a.env)).any (·.1.isNone)=D:=by lk)(o':(Xo y (WJ [⟨Z "key",.Name p p2,kp⟩] a.env)).filterMap (·.1)=[b_ "key"]:=by lk):FV a b (.Call (.Name "sorted" f) [.Call (.Attribute (.Name d o) "values" w) [] [] Ο] [⟨Z "key",.Name p p2,kp⟩] y) (pB F):=⟨λf' s σ H Q I⟨e,ρ,kv,T,n,hd,q⟩=>by
 obtain⟨fa,fd,G,p',u',hb⟩:=h;refine Xg (j3 I hg hm (Α:=.builtin "sorted") (by decide+kernel) ?_ #v[] #v[]);refine callWith_kw ?_ he E g' q';rw[he,c'];refine YC ?_;refine wpAny_Call_method m.base m.few m.line abp abe PySem.F.type_dict_values (ê (hx f' s σ H (λv H'=>v=.ref e/\H'=H) I ⟨.ref e,T.ia,rfl,rfl⟩) λu s1⟨v,H1,I1,rx,e1,e2⟩=>?_);subst e1 e2;obtain rfl:u=C_ e:=rx;obtain⟨l',g1,g2⟩:=T.dct;obtain⟨t1,t2,t3⟩:=Gz I1 (.inr ⟨l',.inl g1⟩);refine⟨t1,t2,?_⟩;rw[m.trees];refine YD rfl (aco (Be t1 t3 (ZI ?_)));obtain⟨hz,_,xs,kt,i,es,ep,ho,hex,e',b',_⟩:=N3 I1.hok g1;have I2:=I1.kept (t':=s1.toks) (h':=s1.heap.push {cls:=.type "dict_values",data:=.fields #[.ref e]}) λr u q=>l_ _ q;refine kws_cons (j9 I2 r' p' (kws_nil ?_) s');rw[o'];show w_ _ _ (call (.builtin "sorted") [.ref s1.heap.objs.size] [(b_ "key",.ref fa)]) _ _ _;unfold pB wt at hd;split at hd
 · rename_i d' A;cases hd;split at A
   · rename_i t' a';split at A
     · rename_i z;cases A;have n':es.size=xs.length:=by have:=congrArg aae b';simpa using this
       have m':es.toList.map (·.val)=xs.map (·.2.2):=by rw[b',W7];rfl
       have rr:=KD.reps g2;refine Ed (ξ:=es.toList.map (·.val)) G (hr.mono hk) hb h1 I2 (λQ' hQ=>tf (hr.hd) ⟨_,xy _ rfl,rfl,rfl⟩ (l_ _ ho) e' ?_ ?_ hQ) (by rw[m'];exact Jj kt) rr a' z.1 z.2.1 z.2.2 λg h' H' sm hL i'=>q _ _ sm ⟨g,h',rfl,hL,i'⟩;·rw[n'];have:=abc kt;omega
       ·rw[WB]
     ·cases A
   ·cases A
 ·cases hd⟩
def Oc(j:Nat)(g:ŗ)(f:ä):Ev->Kv->Fl%1:=λa b=>match g a b with|some d=>f (a.set j (Z d))|none=>U
def Oe{f:ŗ}(j:Nat){y:Str}{k:Pos}(hN:a.N.Nodup)(E:a.N[j]?=Z y)(w:Ŏ a.env.scope y)(he:FV a b g f)(A:Ħ a À Χ)(z:WD g (Z (.Name y k)) o.line a.env=pure D:=by lk)(Q:a.fn y=L\/a.env.scope.names.lookup y=Z .local:=by first|exact .inl rfl|exact .inr rfl|assumption):FR a b (.Assign [.Name y k] g o::À) (Oc j f Χ):=⟨λf' s n H i I⟨h,p,u,H0,T,q,h0,e⟩=>by
 unfold Oc at e;split at e;·rename_i d hd;exact gT (oH hN E w he.h z Q) A.h f' s n H i I ⟨h,p,u,T,d,hd,λv H' m r=>⟨_,(T.env.mono m).set r,þ.mono (q.trans m) e⟩⟩
 ·exact e.elim⟩
def Bf{e:WA}{g f:œ}{r:Ev->Kv->Fl%1}(q:Et a b Γ g)(p:Et a b e f)(j:FR a b À r)(n:Į a.N=L:=by lk)(k:a.N[b]?=Z d:=by lk)(h:kh a.env.scope d=L:=by lk)(m:a.fn d=L:=by lk)(i:WD (.Dict [] [] w) (Z (.Name d o)) Ο.line a.env=pure D:=by lk):Ħ a (.Assign [.Name d o] (.Dict [] [] w) Ο::Γ::e::À) (Ba b g f r):=Ew (jk n) k (fQ h) q p j i (.inl m)
def Jk{f:œ}(k:YK (D_ a.prog a.w) a.A a.env a.xe)(n:FE a g A)(r:FDs a b À f)(e:Ym j b=D:=by lk)(q:a.calm=L:=by lk)(s:Į a.N=L:=by lk)(h:a.N[j]?=Z d:=by lk)(m:kh a.env.scope d=L:=by lk)(p:a.fn d=L:=by lk)(i:∀x,Wd g a.env x=pure x:=by intro _;lk):Et a b (.For (.Name d o) g À [] w) (Jh j A f):=Ob j (ZM e) k q n (iO (jk s) h (fQ m) (.inl p)) r i
def Jl{e:ŗ}(p:a.A.units+64<cLine)(k:FE a y A)(i:FV a b g e)(n:a.N[b]?=Z d:=by lk)(h:kh a.env.scope d=L:=by lk)(m:(d==("__debug__":Str))=D:=by lk)(f:(d==("__classdict__":Str))=D:=by lk)(j:WD g (Z (.Subscript (.Name d o) y Ο)) w.line a.env=pure D:=by lk):Et a b (.Assign [.Subscript (.Name d o) y Ο] g w) (Jg A e):=Oa () (lF n h m f) k i j
def Jm(n:a.A.units+64<cLine)(i:FE a g A)(j:FE a y Ä)(k:a.N[b]?=Z d:=by lk)(h:kh a.env.scope d=L:=by lk)(e:(d==("__debug__":Str))=D:=by lk)(f:(d==("__classdict__":Str))=D:=by lk)(m:M2 a (.Name d o) "get" w g y Ο:=by exact⟨by lk,by lk,by lk,by lk⟩):FV a b (.Call (.Attribute (.Name d o) "get" w) [g,y] [] Ο) (Jf A Ä):=N9 () (lF k h e f) i j m
def Bg{T:cg}{n:ŗ}(u:HA a.prog a.w a.K a.mg a.base T)(p:å j a.A)(f:(T.lookup d).map (λq=>q.2.2)=Z Ω)(z:FV a b g n)(v:FE a y A)(e:((T.lookup d).all λq=>Z7 q.1 j&&Ym q.2.1.length 2)=L:=by lk)(r:a.env.kindOf d=Z .globalImplicit:=by lk)(m:(d==("__debug__":Str))=D:=by lk)(s:j_ [g,y] a.env=(D,eval g a.env)::j_ [y] a.env:=by lk)(k:j_ [y] a.env=(D,eval y a.env)::j_ [] a.env:=by lk)(i:(V6 o (j_ [y] a.env)).any (·.1)=D:=by lk):FV a b (.Call (.Name d w) [g,y] [] o) (pv Ω n A):=by cases h:T.lookup d with|none=>rw[h]at f;cases f|some q=>rw[h]at f e;cases f;rw[Xd,m_]at e;exact Eu q.1 q.2.1 q.2.2 (u.h d q h) p (Ww e.1) r z v (Wx e.2) m s k i
def Bh{T:cg}{e:IQ}{g f n r:Pos}(hT:HA a.prog a.w a.K a.mg a.base T)(hM:MA a.mg e)(Q:å j a.A)(u:(T.lookup p).map (λq=>q.2.2)=Z Ω)(s:((T.lookup p).all λq=>Z7 (q.1+2) j&&Ym q.2.1.length 1)=L:=by lk)(hg:a.env.kindOf (b_ "sorted")=Z .globalImplicit:=by lk)(hm:e.lookup (b_ "sorted")=Z U:=by lk)(A:a.env.kindOf p=Z .globalImplicit:=by lk)(hN:a.N[b]?=Z d:=by lk)(I:kh a.env.scope d=L:=by lk)(hd:(d==("__debug__":Str))=D:=by lk)(H:(d==("__classdict__":Str))=D:=by lk)(m:M0 a (.Name d o) "values" Ο g:=by exact⟨by lk,by lk,by lk,by lk⟩)(E:(p==("__debug__":Str))=D:=by lk)(he:V6 w (j_ [.Call (.Attribute (.Name d o) "values" Ο) [] [] g] a.env)=(D,eval (.Call (.Attribute (.Name d o) "values" Ο) [] [] g) a.env)::V6 w (j_ [] a.env):=by lk)(h:(V6 w (j_ [.Call (.Attribute (.Name d o) "values" Ο) [] [] g] a.env)).any (·.1)=D:=by lk)(i:V6 w (j_ [] a.env)=[]:=by lk)(k:(Xo w (WJ [⟨Z "key",.Name p n,r⟩] a.env)).all (·.1.isSome)=L:=by lk)(z:(Xo w (WJ [⟨Z "key",.Name p n,r⟩] a.env)).any (·.1.isNone)=D:=by lk)(y:(Xo w (WJ [⟨Z "key",.Name p n,r⟩] a.env)).filterMap (·.1)=[b_ "key"]:=by lk):FV a b (.Call (.Name "sorted" f) [.Call (.Attribute (.Name d o) "values" Ο) [] [] g] [⟨Z "key",.Name p n,r⟩] w) (pB Ω):=by cases v:T.lookup p with|none=>rw[v]at u;cases u|some q=>rw[v]at u s;cases u;rw[Xd,m_]at s;exact Ez q.1 q.2.1 q.2.2 (hT.h p q v) Q (Ww s.1) (Wx s.2) hg (hM.no hm) A (lF hN I hd H) m E he h i k z y
def Jp{e:ŗ}(n:FV a b g e)(i:Ħ a À Χ)(p:Į a.N=L:=by lk)(k:a.N[j]?=Z d:=by lk)(f:kh a.env.scope d=L:=by lk)(m:a.fn d=L:=by lk)(h:WD g (Z (.Name d w)) o.line a.env=pure D:=by lk):FR a b (.Assign [.Name d w] g o::À) (Oc j e Χ):=Oe j (jk p) k (fQ f) n i h (.inl m)
end FD
namespace TS
open FD
end TS
namespace FD
open L2 TS
def TBL(P:O)(q:Str)(H:Hp):Prop:=∃a t,H P=Z (.tbl a)/\a[0]?=Z (.str q t)
def spT(b:O)(q:Str)(K:d_)(F:ß)(n:Nat):Sp:=λa H Q E=>TBL b q H/\Ř K F n a H Q E
def bmB(K:d_):Bool:=match Wv K E_ "__builtins__"with|some (Z (.ref a))=>(match K.lookup a with|some ⟨.type "module",Z d,.plain,_⟩=>Ym d aaG&&!Ym a aaG&&!Ym a E_|_=>D)|_=>D
open PySem.W
def SD:kz (ņ a.prog a.w) a E0:=by intro k g H s m i I⟨e,f,n,j,os,b,un,d,F,h⟩;exact h.elim
structure CK(K:d_)(k:Nat)(C:O):Prop where
 n:Wv K E_ (ũ k)=Z (Z (.ref C))c:ŷ K C
 a:∀f∈ě k,Ĝ K C f
def qm{o:Type}:∀{a:Str%0}{d:o%0}{j:Nat}{f:Str}{v:o},a.Nodup->a[j]?=Z f->d[j]?=Z v->(a.zip d).lookup f=Z v
 |[],_,_,_,_,_,h,_=>by simp at h|n::a,[],j,f,v,_,_,h=>by simp at h|n::a,u::d,0,f,v,k,i,g=>by simp at i g;subst i g;simp[Zm,Wo]|n::a,u::d,j+1,f,v,k,i,g=>by
  have b:a[j]?=Z f:=by simpa using i
  have m:(f==n)=D:=beq_eq_false_iff_ne.mpr λe=>by subst e;exact(WT.mp k).1 (We b)
  rw[Zm,Wo,m];exact qm (WT.mp k).2 b (by simpa using g)
def kU{g:Type}:∀{a:Str%0}{d:g%0}{f:Str},f∉a->(a.zip d).lookup f=U|[],_,_,_=>by simp|n::a,[],_,_=>by simp|n::a,u::d,f,h=>by have b:(f==n)=D:=beq_eq_false_iff_ne.mpr λe=>h (e▸pi);rw[Zm,Wo,b];exact kU λz=>h (s_ _ z)
def Bi:∀k,(ě k).Nodup:=by intro k;unfold ě;split<;>decide
def oa(k j:Nat):N->Rs N%1|.obj a ds=>if a=k then(match ds[j]? with|some d=>d%3|none=>U)else U|_=>U
def uS(c:CK q b e)(h:Wv q E_ (ũ b)=Z (Z (.ref z))):z=e:=by have:=c.n.symm.trans h;simp at this;exact this.symm
def Of(c:CK a.K b e)(y:(ě b)[j]?=Z d)(I:FE a g A)(hb:Wz g d a.env (eval g a.env)=eval g a.env:=by lk):FE a (.Attribute g d o) (f1 (oa b j) A):=dI (FX I.h hb) λσ H Q z E g=>⟨z,E,ð.bind g λf v p e1 r s=>by cases f with
 |obj m ds=>
 have k:ð a p (if m=b then(match ds[j]? with|some f=>f%3|none=>U)else U) Q:=s;by_cases w:m=b;·subst w;rw[if_pos rfl]at k;obtain⟨i,C',dx,vs,rfl,h,hn,q,l⟩:=r.objE;cases n:ds[j]? with|none=>rw[n]at k;exact k.elim|some f=>rw[n]at k;obtain⟨u,h1,h2⟩:=q.get' n;rw[uS c hn]at h;exact⟨i,e,dx,_,u,rfl,h,c.c,c.a d (We y),qm (Bi m) y h1,k u p (.refl p) h2⟩
 ·rw[if_neg w]at k;exact k.elim|_=>exact s.elim⟩
def MC(X:C)(o:t_)(m:Str)(e:t_%0)(b a:Pos)(g:Sem Bool):Prop:=eval (.Call (.Attribute o m b) e [] a) X.env=(do
 let d<-eval o X.env
 ack b.atName let(f,first)<-Zd [d] (acl d m g)callWith a f first (V6 a (j_ e X.env)) (Xo a (WJ [] X.env)))
def isO(k:Nat):N->Bool|.obj a _=>a==k|_=>D
def xN(k:Nat)(F:ß)(n:Nat)(b:Û)(g:ë):Û:=λa=>Þ (b a) λx=>if isO k x=L then Þ (g a) λds=>(if ds.length=n then F (x::ds)else U)else U
structure Og(P:n_)(w:y_)(K:d_)(mg:Str->B%1)(base:O_)(k:Nat)(C:O)(m:Str)(lv n:Nat)(F:ß):Prop where
 c:CK K k C
 h:m∉ě k
 f:∃f fd ps,Lf K C m f/\ö P w K mg base (ņ P w) lv f fd ps (spE K F (n+1))/\õ K fd ps []
def Oh(h:isO b i=L):∃ds,i=.obj b ds:=by cases i<;>simp[isO]at h;subst h;exact⟨_,rfl⟩
def Oi(g:Og a.prog a.w a.K a.mg a.base b e d ι j Ω)(o:isO b i=L)(r:Ü a.K h i ψ):∃f k fs,ψ=.ref f/\h f=Z (.ins e k fs)/\fs.lookup d=U:=by obtain⟨ds,rfl⟩:=Oh o;obtain⟨f,s,k,p,rfl,m,n,q,l⟩:=r.objE;rw[uS g.c n]at m;exact⟨f,k,_,rfl,m,kU g.h⟩
def EA{y:Sem Bool}(h:Og a.prog a.w a.K a.mg a.base b e d j 0 Ω)(hr:å ι a.A)(hk:j<=ι)(u:a.ex=[])(ho:FE a g A)(ht:MC a g d [] w o y):FE a (.Call (.Attribute g d w) [] [] o) (xN b Ω 0 A dP):=by
 obtain⟨f,fd,ps,hm,G,hb⟩:=h.f;refine dI (vI (m:=y) ho.h h.c.c hm (G.mono hk) hr hb .nil (xx u) ht) λσ H Q I E g=>⟨I,E,ð.bind g λi v s z r n=>?_⟩;by_cases p:isO b i=L
 ·rw[if_pos p]at n;obtain⟨k,dx,fs,rfl,hh,hl⟩:=Oi h p r;have m:ð a s (Ω [i]) Q:=n;refine⟨k,dx,fs,rfl,hh,hl,?_⟩;show spE a.K Ω 1 [.ref k] s Q (EX a);refine⟨[i],.cons r .nil,rfl,?_⟩;match q:Ω [i]with|none=>rw[q]at m;exact m.elim|some (.ok i)=>rw[q]at m;exact m|some (.exc c)=>rw[q]at m;exactλe s hC z=>⟨c,e,rfl,hC,XW.mono m z⟩
 ·rw[if_neg p]at n;exact n.elim
inductive FlC where|nx(ρ:Ev)|rt(d o:N)|exc(c:Nat)
abbrev FnC:=Ev->FlC%1
def nox(r:FlC%1):FlC%1:=match r with|some (.exc _)=>U|r=>r
def wy{y:V}:∀{a:Str%0}{vs:V%0}{j:Nat}{f:Str},a.Nodup->a[j]?=Z f->j<=vs.length->vs.length<=a.length->oK f y (a.zip vs)=a.zip (if j<vs.length then vs.set j y else vs++[y])
 |[],_,_,_,_,h,_,_=>by simp at h|n::a,[],j,f,_,h,d,_=>by
  have:j=0:=by simpa using d
  subst this;simp at h;subst h;simp[oK]|n::a,u::vs,0,f,_,h,_,_=>by simp at h;subst h;simp[oK]|n::a,u::vs,j+1,f,i,h,d,o=>by
  have k:a[j]?=Z f:=by simpa using h
  have g:n≠f:=λe=>(WT.mp i).1 (e▸We k);have m:=wy (y:=y) (vs:=vs) (WT.mp i).2 k (by simpa using d) (by simpa using o);rw[Zm];show(if n=f then(n,y)::a.zip vs else(n,u)::oK f y (a.zip vs))=_;rw[if_neg g,m];by_cases b:j<vs.length;·rw[if_pos b,if_pos (by simpa using b)];simp
  ·rw[if_neg b,if_neg (by simpa using b)];simp
inductive RsC where|ok(d o:N)|exc(c:Nat)
abbrev SE(o:t_)(a:Env):Sem Bool:=do return(<-importBound o a).getD L
abbrev Lp:=(Str×Nat×Nat×(ß))%0
structure K'(P:n_)(w:y_)(K:d_)(mg:Str->B%1)(base:O_)(k:Nat)(C:O)(T:Lp):Prop where h:∀m e,T.lookup m=Z e->Og P w K mg base k C m e.1 e.2.1 e.2.2
def Jq:K' s r q Ζ Q b e []:=⟨λ_ _ h=>by cases h⟩
def wz{T:Lp}(h:Og s r q Ζ Q b e d j ι Ω)(t:K' s r q Ζ Q b e T):K' s r q Ζ Q b e ((d,j,ι,Ω)::T):=⟨λx a z=>by
 rcases gz z with⟨rfl,rfl⟩|z;·exact h
 ·exact t.h x a z⟩
def Jr(c:CK a.K b e)(f:FE a g A)(h:(ě b)[j]?=Z d:=by lk)(i:Wz g d a.env (eval g a.env)=eval g a.env:=by lk):FE a (.Attribute g d o) (f1 (oa b j) A):=Of c h f i
def Bj{T:Lp}(s:K' a.prog a.w a.K a.mg a.base b e T)(p:å j a.A)(i:(T.lookup d).map (λq=>q.2.2)=Z Ω)(m:a.ex=[])(r:FE a g A)(f:((T.lookup d).all λq=>Z7 q.1 j&&Ym 0 q.2.1)=L:=by lk)(n:MC a g d [] w o (SE g a.env):=by delta MC;lk):FE a (.Call (.Attribute g d w) [] [] o) (xN b Ω 0 A dP):=by cases k:T.lookup d with|none=>rw[k]at i;cases i|some q=>rw[k]at i f;cases i;rw[Xd,m_]at f;have h:=s.h d q k;rw[<-Wx f.2]at h;exact EA h p (Ww f.1) m r n
structure Am(K:d_)(C:O)(q m:Str)(st:WA)(f:O):Prop where
 t:Lf K C m f
 F:∃fd,ł K m q st f fd
def BdQ(x q:Str)(a:WA)(e:Str%0):Prop:=∀(kV b f:B)(h:O%1)(d g:B)(us:B%0),us.length=e.length->acS (Xr x q (iR a) (bQ a) (ao a) .none kV b f h d g) ⟨us,[]⟩=pure (e.zip us)
def noB(k:Nat)(m:Str):Bool:=!(ě k).contains m
def Oj(h:noB b d=L):d∉ě b:=λz=>by simp[noB,z]at h
def Bk(c:CK q b e)(N g:Str%0)(i:ä)(A:Am q e p d Γ z)(k:BdQ d p Γ g)(v:∀(h:B)(A:B_)(f:Env%0)(a:h_)(H:Hp)(E:XK),å j (A.deeper (Yi p (ao Γ) a.heap.objs.size z h))->Ħ (oh (ņ s r) s r q Ζ Q N p (ao Γ) z h A f a H E) (bQ Γ) i)(w:Ω=fX N.length i:=by lk)(n:X' N g (ao Γ)=L:=by lk)(o:ι+1=g.length:=by lk)(u:noB b d=L:=by lk):Og s r q Ζ Q b e d (j+1) ι Ω:=let⟨_,m⟩:=A.F;⟨c,Oj u,_,_,g,A.t,Gf N g i w o m (Gy n) v,m.binds k⟩
def UG:(B%1)%1->Bool|some U=>L|_=>D
def ck_mk(n:Wv q E_ (ũ b)=Z (Z (.ref e)))(i:Y0 q e adf=L)(k:ZA q e=L)(g:aa0 q e=L)(d:WR q (.ref e) "__setattr__"=Z (Z (.builtin "object.__setattr__")))(a:((ě b).all λf=>UG (WR q (.ref e) f))=L):CK q b e:=⟨n,⟨i,k,g,d⟩,λf j=>by
 have h:=Wu.mp a f j;unfold UG at h;split at h;·assumption
 ·cases h⟩
abbrev Uv:=Sum N Nat
inductive ā where|lst(ds:N%0)|obj(k:Nat)(fs:Uv%0)
abbrev á:=ā%0
abbrev ù:=Option Uv%0
def Ė(K:d_)(H:Hp)(m:O%0):Uv->V->Prop|.inl d,v=>Ü K H d v|.inr n,v=>∃a,m[n]?=Z a/\v=.ref a
def ì(K:d_)(H:Hp)(m:O%0):Uv%0->V%0->Prop|[],a=>a=[]|d::ds,a=>∃v us,a=v::us/\Ė K H m d v/\ì K H m ds us
def Ł(K:d_)(H:Hp)(m:O%0)(e:Hp)(a:O):ā->Prop|.lst ds=>∃b,e a=Z (.lst b)/\S K H ds b|.obj k fs=>∃C f d,e a=Z (.ins C f ((ě k).zip d))/\Wv K E_ (ũ k)=Z (Z (.ref C))/\ì K H m fs d/\fs.length<=(ě k).length
structure SR(K:d_)(H:Hp)(m:O%0)(S:á)(Hf:Hp):Prop where
 len:m.length=S.length
 nd:m.Nodup
 fr:∀a∈m,H a=U
 up:Ù H Hf
 at':∀(n:Nat)(c:ā),S[n]?=Z c->∃a,m[n]?=Z a/\Ł K H m Hf a c
structure ú(K:d_)(H:Hp)(m:O%0)(σ:L2.St)(ρ:ù):Prop where
 len:σ.length=ρ.length
 at':∀(i:Nat)(d:Uv),ρ[i]?=Z (Z d)->∃v,σ[i]?=Z (Z v)/\Ė K H m d v
def qo{m b:θ%0}(p:m<+:b){n:Nat}{a:θ}(h:m[n]?=Z a):b[n]?=Z a:=by obtain⟨t,rfl⟩:=p;rw[N_ (F_.mp h).1];exact h
def Ė.mono{f:O%0}(e:Ù h Δ)(p:υ<+:f):∀{d:Uv}{v:V},Ė q h υ d v->Ė q Δ f d v|.inl d,v,b=>Ü.mono e d v b|.inr n,v,⟨a,b,r⟩=>⟨a,qo p b,r⟩
def ì.mono{K:d_}{H f:Hp}{m b:O%0}(e:Ù H f)(p:m<+:b):∀{ds:Uv%0}{a:V%0},ì K H m ds a->ì K f b ds a|[],a,h=>h|d::ds,a,⟨v,us,r,h,q⟩=>⟨v,us,r,h.mono e p,ì.mono e p q⟩
def ì.length{K:d_}{H:Hp}{m:O%0}:∀{ds:Uv%0}{a:V%0},ì K H m ds a->a.length=ds.length|[],a,h=>by cases(show a=[]from h);rfl|d::ds,a,⟨v,us,r,_,q⟩=>by subst r;show us.length+1=ds.length+1;rw[ì.length q]
def ì.get{K:d_}{H:Hp}{m:O%0}:∀{ds:Uv%0}{a:V%0}{i:Nat}{d:Uv},ì K H m ds a->ds[i]?=Z d->∃v,a[i]?=Z v/\Ė K H m d v|[],a,i,v,h,e=>by simp at e|d::ds,a,i,n,⟨b,us,r,g,q⟩,e=>by subst r;cases i with|zero=>simp at e;subst e;exact⟨b,rfl,g⟩|succ i=>obtain⟨k,j,f⟩:=ì.get (i:=i) q (by simpa using e);exact⟨k,by simpa using j,f⟩
def ì.set{K:d_}{H:Hp}{m:O%0}:∀{ds:Uv%0}{a:V%0}(i:Nat){d:Uv}{v:V},ì K H m ds a->Ė K H m d v->ì K H m (ds.set i d) (a.set i v)|[],a,i,d,v,h,_=>by cases(show a=[]from h);exact rfl|g::ds,a,i,d,v,⟨e,us,r,f,q⟩,b=>by subst r;cases i with|zero=>exact⟨v,us,rfl,b,q⟩|succ i=>exact⟨e,us.set i v,rfl,f,ì.set i q b⟩
def ì.append{K:d_}{H:Hp}{m:O%0}:∀{ds b:Uv%0}{a us:V%0},ì K H m ds a->ì K H m b us->ì K H m (ds++b) (a++us)|[],b,a,us,h,q=>by cases(show a=[]from h);exact q|d::ds,b,a,us,⟨f,e,r,g,t⟩,q=>by subst r;exact⟨f,e++us,rfl,g,ì.append t q⟩
variable{Β:ù}
def ú.mono{b:O%0}(E:ú q h υ Ι Β)(e:Ù h Δ)(p:υ<+:b):ú q Δ b Ι Β:=⟨E.len,λi d a=>let⟨v,g,f⟩:=E.at' i d a;⟨v,g,f.mono e p⟩⟩
def ú.set{d:Uv}(E:ú q h υ Ι Β)(r:Ė q h υ d ψ):ú q h υ (Ι.set b (Z ψ)) (Β.set b (Z d)):=by
 refine⟨by rw[Wl,Wl];exact E.len,λj g a=>?_⟩;by_cases f:b=j
 · subst f;have e:b<Β.length:=by have:=(F_.mp a).1;simpa using this
   rw[A_ e]at a;cases a;exact⟨ψ,A_ (by rw[E.len];exact e),r⟩
 ·rw[p_ f]at a⊢;exact E.at' j g a
def vw1(S:á):Uv->N%1|.inl d=>Z d|.inr n=>match S[n]? with|some (.lst ds)=>Z (.lst ds)|_=>U
def vwL(S:á):Uv%0->(N%0)%1|[]=>Z []|u::us=>match vw1 S u,vwL S us with|some d,Z ds=>Z (d::ds)|_,_=>U
def vw(S:á):Uv->N%1|.inl d=>Z d|.inr n=>match S[n]? with|some (.lst ds)=>Z (.lst ds)|some (.obj k fs)=>(vwL S fs).map (.obj k)|none=>U
def û(S:á)(a:ù):Ev:=a.map λo=>o.bind (vw S)
variable{n:á}
def SR.lst(R:SR q h υ n Δ)(a:n[b]?=Z (.lst E))(i:υ[b]?=Z e):Ü q Δ (.lst E) (.ref e):=by obtain⟨d,f,g,k,j⟩:=R.at' b _ a;rw[i]at f;cases f;exact⟨e,g,rfl,k,S.mono R.up _ _ j⟩
def SR.vw1(R:SR q h υ n Δ):∀{u:Uv}{v:V}{d:N},Ė q h υ u v->vw1 n u=Z d->Ü q Δ d v|.inl d,v,m,f,e=>by cases e;exact Ü.mono R.up _ _ f|.inr b,v,m,⟨a,j,i⟩,e=>by subst i;unfold FD.vw1 at e;match g:n[b]? with|none=>simp[g]at e|some (.obj k fs)=>simp[g]at e|some (.lst ds)=>simp[g]at e;subst e;exact R.lst g j
def SR.vwL{K:d_}{H i:Hp}{m:O%0}{a:á}(R:SR K H m a i):∀{us:Uv%0}{b:V%0}{ds:N%0},ì K H m us b->vwL a us=Z ds->S K i ds b|[],b,ds,h,e=>by cases e;exact h|u::us,b,ds,⟨v,k,r,h,q⟩,e=>by subst r;unfold FD.vwL at e;match f:FD.vw1 a u,g:FD.vwL a us with|some d,Z j=>rw[f,g]at e;cases e;exact .cons (R.vw1 h f) (SR.vwL R q g)|none,_=>rw[f]at e;cases e|some _,U=>rw[f,g]at e;cases e
def Bl{S:á}:∀{us:Uv%0}{ds:N%0},vwL S us=Z ds->ds.length=us.length|[],ds,e=>by cases e;rfl|u::us,ds,e=>by unfold FD.vwL at e;match b:FD.vw1 S u,a:FD.vwL S us with|some d,Z f=>rw[b,a]at e;cases e;simp[Bl a]|none,_=>rw[b]at e;cases e|some _,U=>rw[b,a]at e;cases e
def SR.vw(R:SR q h υ n Δ):∀{u:Uv}{v:V}{d:N},Ė q h υ u v->vw n u=Z d->Ü q Δ d v|.inl d,v,E,g,e=>by cases e;exact Ü.mono R.up _ _ g|.inr f,v,E,⟨a,o,r⟩,e=>by subst r;unfold FD.vw at e;match i:n[f]? with|none=>simp[i]at e|some (.lst ds)=>simp[i]at e;subst e;exact R.lst i o|some (.obj k fs)=>dsimp only at e;rw[i]at e;dsimp only at e;obtain⟨b,m,C,A,p,z,y,w,s⟩:=R.at' f _ i;rw[o]at m;cases m;match j:FD.vwL n fs with|none=>simp[j]at e|some ds=>simp[j]at e;subst e;exact⟨a,C,A,p,rfl,z,y,R.vwL w j,by rw[Bl j];exact s⟩
def SR.envs(R:SR q h υ n Δ)(E:ú q h υ Ι Β):ã q Δ Ι (û n Β):=by refine⟨by unfold û;rw[S_];exact E.len,λi d a=>?_⟩;unfold û at a;rw[K_]at a;match b:Β[i]? with|none=>simp[b]at a|some U=>simp[b]at a|some (Z u)=>simp[b]at a;obtain⟨v,f,e⟩:=E.at' i u b;exact⟨v,f,R.vw e a⟩
def pl:N->Bool|.scr _=>L|d=>ģ d
def SR.cell(R:SR q h υ n Δ){a:O}(f:a∈υ):(∃g,Δ a=Z (.lst g))\/∃C j fs,Δ a=Z (.ins C j fs):=by
 obtain⟨e,m⟩:=List.getElem?_of_mem f;have p:e<n.length:=by rw[<-R.len];exact(F_.mp m).1
 obtain⟨b,o,d⟩:=R.at' e _ (I_ p);rw[m]at o;cases o;match s:n[e],d with|.lst ds,d=>obtain⟨g,i,_⟩:=d;exact .inl ⟨g,i⟩|.obj k fs,d=>obtain⟨C,j,r,i,_⟩:=d;exact .inr ⟨C,j,_,i⟩
def SR.grow{j:Hp}(R:SR q h υ n Δ)(e:Ù Δ j):∃E,Ù h E/\SR q E υ n j/\∀d v,pl d=L->Ü q j d v->Ü q E d v:=by
 have H:∀b u,h b=Z u->b∉υ:=λb u f z=>by rw[R.fr b z]at f;cases f
 have y:Ù h λb=>if b∈υ then U else j b:=λb u f=>by simp![H b u f,if_false];exact e b u (R.up b u f)
 have keep:∀b o,(∀m,o≠.lst m)->(∀C w fs,o≠.ins C w fs)->j b=Z o->(λb=>if b∈υ then U else j b) b=Z o:=λb o s p f=>by
  have:b∉υ:=λz=>by
   rcases R.cell z with⟨m,g⟩|⟨C,w,fs,g⟩;·exact s m (Wj (f.symm.trans (e _ _ g)))
   ·exact p C w fs (Wj (f.symm.trans (e _ _ g)))
  simp![this,if_false];exact f
 refine⟨λb=>if b∈υ then U else j b,y,⟨R.len,R.nd,λa f=>by simp[f],λb u f=>?_,λi c f=>?_⟩,λd v hp r=>?_⟩
 · by_cases Q:b∈υ;·simp[Q]at f
   ·simpa[Q]using f
 ·obtain⟨a,ha,g⟩:=R.at' i c f;refine⟨a,ha,?_⟩;match c,g with|.lst ds,⟨m,s,p⟩=>exact⟨m,e _ _ s,S.mono y _ _ p⟩|.obj k fs,⟨C,w,vs,s,p,h3,h4⟩=>exact⟨C,w,vs,e _ _ s,p,h3.mono y (L_ υ),h4⟩
 · by_cases I:∃A,d=.scr A;·obtain⟨A,rfl⟩:=I;obtain⟨a,rv,g⟩:∃a,v=.ref a/\SqF q j a (A.map V.int):=r;exact⟨a,rv,g.imp (λ⟨o,f⟩=>⟨o,keep a _ ∅ ∅ f⟩) id⟩
   · have hi:ģ d=L:=by cases d<;>first|exact hp|exact absurd ⟨_,rfl⟩ I
     exact Ü.tups (λb ys f=>keep b _ ∅ ∅ f) d v hi r
inductive Ru(α:Type)where|ok(a:α)(S:á)|exc(c:Nat)(S:á)
abbrev ô:=á->ù->Ru Uv%1
abbrev CB:=á->ù->Ru Bool%1
abbrev ll:=á->ù->Ru (Uv%0)%1
def XU(X:C)(c:Nat)(H:Hp)(m:O%0)(S:á):Prop:=∀g f d b a s e,Ù H d->m<+:b->SR X.K d b S a->Õ X g f a s->Mc X a c e s->X.xe e s
def OU(X:C)(H:Hp)(m:O%0)(r:Ru θ%1)(Q:θ->Hp->O%0->Hp->Prop):Prop:=match r with|none=>False|some (.exc c S)=>XU X c H m S|some (.ok a S)=>∀d b e,Ù H d->m<+:b->SR X.K d b S e->Q a d b e
def kW{b:Type}(o:Ru θ%1)(k:θ->á->Ru b%1):Ru b%1:=match o with|none=>U|some (.exc c S)=>Z (.exc c S)|some (.ok a S)=>k a S
def tU(X:C)(f:ô):TE:=λd g Q=>∃H m S b,SR X.K H m S g/\ú X.K H m d b/\OU X H m (f S b) λu h e a=>∀v,Ė X.K h e u v->Q v a
def tUB(X:C)(f:CB):TT:=λe g Q=>∃H m S d,SR X.K H m S g/\ú X.K H m e d/\OU X H m (f S d) λb _ _ a=>Q b a
def tUA(X:C)(f:ll):TA:=λe h Q=>∃H m S b,SR X.K H m S h/\ú X.K H m e b/\OU X H m (f S b) λus i g a=>∀d,ì X.K i g us d->Q d a
structure UE(X:C)(e:t_)(f:ô):Prop where h:PE X e (tU X f)
structure UT(X:C)(e:t_)(f:CB):Prop where h:PT X e (tUB X f)
structure UA(X:C)(es:t_%0)(f:ll):Prop where h:PA X es (tUA X f)
def XU.mono{f:O%0}(d:XU a b h υ n)(e:Ù h Δ)(p:υ<+:f):XU a b Δ f n:=λk g q j o s x m i=>d k g q j o s x (e.trans m) (p.trans i)
def OU.mono{f:O%0}{r:Ru θ%1}{Q:θ->Hp->O%0->Hp->Prop}(b:OU a h υ r Q)(e:Ù h Δ)(p:υ<+:f):OU a Δ f r Q:=by match r,b with|none,b=>exact b|some (.exc c S),b=>exact XU.mono b e p|some (.ok d S),b=>exactλm i k j g=>b m i k (e.trans j) (p.trans g)
def OU.bind{i:Type}{o:Ru θ%1}{k:θ->á->Ru i%1}{Q:i->Hp->O%0->Hp->Prop}{P:θ->Hp->O%0->Hp->Prop}(b:OU a h υ (kW o k) Q)(p:∀d S g e f,Ù h g->υ<+:e->SR a.K g e S f->OU a g e (k d S) Q->P d g e f):OU a h υ o P:=by match o,b with|none,b=>exact b|some (.exc c S),b=>exact b|some (.ok d S),b=>exactλq n f m j R=>p d S q n f m j R (OU.mono b m j)
def XU.xw(d:XU a b h υ n)(R:SR a.K h υ n Δ):XW a b Δ:=λg f m s e j I q=>by obtain⟨o,i,k,_⟩:=R.grow j;exact d g f o υ m s e i (L_ υ) k I q
def aJ(f:Û):ô:=λS a=>match f (û S a)with|none=>U|some (.exc c)=>Z (.exc c S)|some (.ok d)=>if pl d=L then Z (.ok (.inl d) S)else U
def cH(f:î):CB:=λS a=>match f (û S a)with|none=>U|some (.exc c)=>Z (.exc c S)|some (.ok d)=>Z (.ok d S)
def Jt(i:FE a g A):UE a g (aJ A):=⟨λj s h w Q I⟨H,m,S,f,R,E,o⟩=>by refine i.h j s h w Q I ⟨û S f,R.envs E,?_⟩;unfold aJ at o;match e:A (û S f)with
 |none=>rw[e]at o;exact o.elim|some (.exc c)=>rw[e]at o;exact XU.xw o R|some (.ok d)=>
 rw[e]at o;dsimp only at o;by_cases b:pl d=L;·rw[if_pos b]at o;intro v u n r;obtain⟨y,k,q,p⟩:=R.grow n;exact o y m u k (L_ m) q v (p d v b r)
 ·rw[if_neg b]at o;exact o.elim⟩
def Ju(h:FT a g Ν):UT a g (cH Ν):=⟨λi s f q Q I⟨H,m,S,e,R,E,o⟩=>by refine h.h i s f q Q I ⟨û S e,R.envs E,?_⟩;unfold cH at o;match b:Ν (û S e)with|none=>rw[b]at o;exact o.elim|some (.exc c)=>rw[b]at o;exact XU.xw o R|some (.ok d)=>rw[b]at o;intro p k;obtain⟨r,j,n,_⟩:=R.grow k;exact o r m p j (L_ m) n⟩
def fE(i:Nat):ô:=λS a=>match a[i]? with|some (Z u)=>Z (.ok u S)|_=>U
def Ol(i:Nat)(h:PE a g (yF i)):UE a g (fE i):=⟨λn s e d Q I⟨H,m,S,f,R,E,o⟩=>by refine h n s e d Q I ?_;unfold fE at o;match b:f[i]? with|none=>rw[b]at o;exact o.elim|some U=>rw[b]at o;exact o.elim|some (Z u)=>rw[b]at o;obtain⟨v,k,j⟩:=E.at' i u b;exact⟨v,k,o H m d (.refl H) (L_ m) R v j⟩⟩
def SF(k j:Nat)(S:á):Uv->Ru Uv%1
 |.inr n=>match S[n]? with|some (.obj a fs)=>if a=k then(match fs[j]? with|some u=>Z (.ok u S)|none=>U)else U|_=>U
 |_=>U
def CF(k j:Nat)(f:ô):ô:=λS a=>kW (f S a) λu b=>SF k j b u
variable{Λ:ô}
def Om(c:CK a.K b e)(hf:(ě b)[j]?=Z d)(ho:UE a g Λ)(hb:Wz g d a.env (eval g a.env)=eval g a.env:=by lk):UE a (.Attribute g d o) (CF b j Λ):=⟨λf' s σ Hf Q I⟨H,m,S,ρ,R,E,f⟩=>FX ho.h hb f' s σ Hf Q I ⟨H,m,S,ρ,R,E,OU.bind f λu S1 H1 m1 A e1 p1 R1 p v r=>by match u,r,p with
 |.inl i,_,p=>exact p.elim|.inr n,⟨h,ha,hv⟩,p=>subst hv;unfold SF at p;match y:S1[n]? with
 |none=>simp[y]at p;exact p.elim|some (.lst ds)=>simp[y]at p;exact p.elim|some (.obj k' fs)=>
 simp![y]at p;by_cases hk:k'=b
 ·subst hk;rw[if_pos rfl]at p;obtain⟨k,q,C',dx,vs,h1,h2,h3,h4⟩:=R1.at' n _ y;rw[ha]at q;cases q;rw[uS c h2]at h1;match z:fs[j]? with|none=>rw[z]at p;exact p.elim|some u=>rw[z]at p;obtain⟨w,g1,g2⟩:=h3.get z;exact⟨h,e,dx,_,w,rfl,h1,c.c,c.a d (We hf),qm (Bi k') hf g1,p H1 m1 A (.refl H1) (L_ m1) R1 w g2⟩
 ·rw[if_neg hk]at p;exact p.elim⟩⟩
def gA:ll:=λS _=>Z (.ok [] S)
def bq(f:ô)(g:ll):ll:=λS a=>kW (f S a) λu b=>kW (g b a) λus S2=>Z (.ok (u::us) S2)
def On:UA a [] gA:=⟨λe f s d b Q I⟨H,m,S,g,R,E,o⟩=>oN e f s d b Q I (o H m b (.refl H) (L_ m) R [] rfl)⟩
variable{Ñ:ll}
def Jv(ha:UE a g Λ)(hr:UA a u Ñ)(A:g%8:=by lk):UA a (g::u) (bq Λ Ñ):=⟨λn f' s j Hf Q I⟨H,m,S,e,R,E,o⟩=>ij ha.h hr.h A n f' s j Hf Q I ⟨H,m,S,e,R,E,OU.bind o λb S1 H1 z a' e1 q R1 y v r=>⟨H1,z,S1,e,R1,E.mono e1 q,OU.bind y λus S2 i h d e2 p R2 w f k=>w i h d (.refl i) (L_ h) R2 (v::f) ⟨v,f,rfl,r.mono e2 p,k⟩⟩⟩⟩
def xO(g:N->N->Rs N%1)(f:ô)(h:Û):ô:=λS e=>kW (f S e) λu a=>match vw a u,h (û a e)with|some d,i%3=>(match g d i with|some (.ok (.bl b))=>Z (.ok (.inl (.bl b)) a)|_=>U)|some _,c%9=>Z (.exc c a)|_,_=>U
def opP{r:R2}{g:N->N->Rs N%1}(hg:ĝ a r g)(R:SR a.K h υ n Δ)(E:ú a.K h υ Ι Β)(o:OU a h υ (xO g Λ A n Β) λu H' m' y=>∀v,Ė a.K H' m' u v->Ò v y):tOp r (tU a Λ) (tF a A) Ι Δ Ò:=⟨h,υ,n,Β,R,E,OU.bind o λu m H1 z a' e1 p1 i b v r=>by refine⟨û m Β,i.envs (E.mono e1 p1),?_⟩;match f:vw m u,j:A (û m Β)with|none,_=>simp[f]at b;exact b.elim|some d,U=>simp[f,j]at b;exact b.elim|some d,c%9=>simp![f,j]at b;exact XU.xw b i|some d,I%3=>simp![f,j]at b;intro v2 Hg H r2;refine hg d I v v2 Hg _ (Ü.mono H _ _ (i.vw r f)) r2 ?_;match e:g d I with|some (.ok (.bl k))=>rw[e]at b;intro w s q p;obtain⟨Q,e2,R2,dn⟩:=i.grow (H.trans q);exact b Q z s e2 (L_ z) R2 w (show Ü a.K Q (.bl k) w from p)|none=>rw[e]at b;exact b.elim|some (.exc _)=>rw[e]at b;exact b.elim|some (.ok .non)=>rw[e]at b;exact b.elim|some (.ok (.int _))=>rw[e]at b;exact b.elim|some (.ok (.str _))=>rw[e]at b;exact b.elim|some (.ok (.tup _))=>rw[e]at b;exact b.elim|some (.ok (.lst _))=>rw[e]at b;exact b.elim|some (.ok (.scr _))=>rw[e]at b;exact b.elim|some (.ok (.exn _))=>rw[e]at b;exact b.elim|some (.ok (.obj _ _))=>rw[e]at b;exact b.elim⟩
def UH(S:á):Uv->Ru Bool%1|.inl (.bl b)=>Z (.ok b S)|_=>U
def uB(f:ô):CB:=λS a=>kW (f S a) λu b=>UH b u
variable{Ï:Uv}
def JA{Q:Bool->Hp->O%0->Hp->Prop}(r:Ė a.K h υ Ï ψ)(R:SR a.K h υ n Δ)(o:OU a h υ (UH n Ï) Q):∃k,ψ=.bl k/\Q k h υ Δ:=by match Ï,r,o with|.inr e,_,o=>exact o.elim|.inl d,r,o=>cases d with|bl b=>exact⟨b,r,o h υ Δ (.refl h) (L_ υ) R⟩|_=>exact o.elim
def JB{e:adz}{r:R2}{b:N->N->Rs N%1}(i:ă a (Wh e) r)(k:ĝ a r b)(p:UE a g Λ)(n:FE a y A)(j:Wc e y=D):UT a (.Compare g [e] [y] o) (uB (xO b Λ A)):=⟨λq s f z Q I⟨H,m,S,ρ,R,E,d⟩=>yU i p.h n.h j q s f z Q I (opP k R E (OU.bind d λu S1 H1 m1 a' e1 p1 w h v r=>JA r w h))⟩
def EB(i:υ.Nodup)(h:υ[b]?=Z e)(k:υ[j]?=Z e):b=j:=by
 obtain⟨l,a⟩:=F_.mp h;obtain⟨f,g⟩:=F_.mp k;have d:=XZ.mp i;rcases aa3 b j with z|z|z;·exact(d b j l f z (a.trans g.symm)).elim
 ·exact z
 ·exact(d j b f l z (g.trans a.symm)).elim
def Ł.ne{b:O}{o:HO}{c:ā}(a:Ł q h υ Δ e c)(g:e≠b):Ł q h υ (æ Δ b o) e c:=by match c,a with|.lst ds,⟨i,f,d⟩=>exact⟨i,by rw[ay g];exact f,d⟩|.obj k fs,⟨C,m,j,f,d⟩=>exact⟨C,m,j,by rw[ay g];exact f,d⟩
def Ł.pre{b:O%0}{c:ā}(a:Ł q h υ Δ e c)(p:υ<+:b):Ł q h b Δ e c:=by match c,a with|.lst ds,a=>exact a|.obj k fs,⟨C,m,d,j,i,g,f⟩=>exact⟨C,m,d,j,i,g.mono (.refl h) p,f⟩
def SR.put{o:HO}{c:ā}(R:SR q h υ n Δ)(g:υ[b]?=Z e)(r:Ł q h υ (æ Δ e o) e c):SR q h υ (n.set b c) (æ Δ e o):=by
 have m:e∈υ:=We g;refine⟨by rw[Wl];exact R.len,R.nd,R.fr,λd u a=>?_,λj s a=>?_⟩
 · have:d≠e:=λz=>by rw[z,R.fr e m]at a;cases a
   rw[ay this];exact R.up d u a
 · by_cases i:b=j
   · subst i;have p:b<n.length:=by rw[<-R.len];exact(F_.mp g).1
     rw[A_ p]at a;cases a;exact⟨e,g,r⟩
   ·rw[p_ i]at a;obtain⟨d,k,f⟩:=R.at' j s a;exact⟨d,k,f.ne λz=>i (EB R.nd g (z▸k))⟩
def SR.fresh(R:SR q h υ n Δ)(d:Δ e=U):e∉υ/\h e=U:=by
 refine⟨λz=>?_,?_⟩;·rcases R.cell z with⟨f,a⟩|⟨C,g,fs,a⟩<;>·rw[d]at a;cases a
 ·cases b:h e with|none=>rfl|some u=>have:=R.up e u b;rw[d]at this;cases this
def SR.push{o:HO}{c:ā}(R:SR q h υ n Δ)(p:Δ e=U)(s:Ł q h (υ++[e]) (æ Δ e o) e c):SR q h (υ++[e]) (n++[c]) (æ Δ e o):=by
 obtain⟨i,m⟩:=R.fresh p;refine⟨by simp[R.len],?_,λa d=>?_,λb u d=>?_,λf w d=>?_⟩
 · rw[X6];refine⟨R.nd,by simp,λa d b v=>?_⟩;have:b=e:=by simpa using v
   subst this;exactλz=>i (z▸d)
 · rcases V8.mp d with d|d;·exact R.fr a d
   · have:a=e:=by simpa using d
     subst this;exact m
 · have:b≠e:=λz=>by rw[z,m]at d;cases d
   rw[ay this];exact R.up b u d
 · by_cases j:f<n.length;·rw[N_ j]at d;obtain⟨a,k,g⟩:=R.at' f w d;refine⟨a,by rw[N_ (by rw[R.len];exact j)];exact k,(g.ne (b:=e) λ(z:a=e)=>i (by rw[<-z];exact We k)).pre (Zn υ [e])⟩
   · have r:f=n.length:=by have:=(F_.mp d).1;simp at this;omega
     subst r;rw[Q_ (rl _),Y2]at d;cases d;exact⟨e,by rw[<-R.len,Q_ (rl _),Y2];rfl,s⟩
def ins:Uv%0->(N%0)%1|[]=>Z []|.inl d::us=>(ins us).map (d::·)|.inr _::_=>U
def qp{K:d_}{H:Hp}{m:O%0}:∀{us:Uv%0}{a:V%0}{ds:N%0},ins us=Z ds->ì K H m us a->S K H ds a|[],a,ds,h,r=>by cases h;exact r|.inr _::_,_,_,h,_=>by cases h|.inl d::us,a,ds,h,⟨v,j,e,g,f⟩=>by subst e;unfold ins at h;cases b:ins us with|none=>rw[b]at h;cases h|some i=>rw[b]at h;cases h;exact .cons g (qp b f)
def Bm(d:ll):ô:=λS b=>kW (d S b) λus a=>match ins us with|some ds=>if ds.length<=100000 then Z (.ok (.inr a.length) (a++[.lst ds]))else U|none=>U
def SR.newL(R:SR a.K h υ n Δ)(d:S a.K h E ν)(g:Δ e=U)(o:OU a h υ (Z (.ok (.inr n.length) (n++[.lst E]))) λu i f b=>∀v,Ė a.K i f u v->Ò v b):Ò (.ref e) (æ Δ e (.lst ν)):=o h (υ++[e]) _ (.refl h) (Zn υ [e]) (R.push g ⟨ν,az,d⟩) (.ref e) ⟨e,by rw[<-R.len,Q_ (rl _),Y2];rfl,rfl⟩
def Oo(k:UA a u Ñ):UE a (.List u o) (Bm Ñ):=⟨λn s g v Q I⟨H,m,S,h,R,E,b⟩=>zb k.h n s g v Q I ⟨H,m,S,h,R,E,OU.bind b λus S1 H1 A w e1 z q d y i=>by match f:ins us with
 |none=>simp[f]at d;exact d.elim|some ds=>
 simp![f]at d;by_cases e:ds.length<=100000;·rw[if_pos e]at d;have r:=qp f i;exact⟨by rw[r.length];exact bT e,λp j=>q.newL r j d⟩
 ·rw[if_neg e]at d;exact d.elim⟩⟩
def pC{b:_}{K:d_}{H:Hp}(g:∀d v,pl d=L->Ü K b d v->Ü K H d v):∀{ds:N%0}{a:V%0},ç ds=L->S K b ds a->S K H ds a
 |[],a,_,r=>r|d::ds,a,i,r=>by
  obtain⟨v,h,e,k,j⟩:∃v us,a=v::us/\Ü K b d v/\S K b ds us:=r;have f:ģ d=L/\ç ds=L:=by simpa[ç]using i
  exact⟨v,h,e,g d v (by cases d<;>first|exact f.1|rfl) k,pC g f.2 j⟩
def JC(f:ô)(e:ll):ô:=λS a=>kW (f S a) λu b=>match u with|.inr n=>(match b[n]? with|some (.lst _)=>kW (e b a) λus S2=>(match ins us,S2[n]? with|some [d],Z (.lst ds)=>if ds.length<100000 then Z (.ok (.inl .non) (S2.set n (.lst (ds++[d]))))else U|_,_=>U)|_=>U)|_=>U
def Op(ho:UE a y Λ)(ha:UA a [g] Ñ)(a':Wz y "append" a.env (eval y a.env)=eval y a.env:=by lk)(c':((V6 w (j_ [g] a.env)).all (λx=>!x.1)&&(Xo w (WJ [] a.env)).all (λx=>x.1.isSome)&&o_ ([g].length+([]:Xu%0).length+(if([]:Xu%0).isEmpty then 0 else 1)<30))=L:=by lk)(A:(o.endLine==w.line)=L:=by lk)(hs:j_ [g] a.env=(D,eval g a.env)::j_ [] a.env:=by lk)(q:(V6 w (j_ [] a.env)).any (·.1)=D:=by lk):UE a (.Call (.Attribute y "append" o) [g] [] w) (JC Λ Ñ):=⟨λf' s σ Hf Q I⟨H,m,S,ρ,R,E,y⟩=>zj Xz YQ abd r9 ho.h ha.h a' c' A hs q f' s σ Hf Q I ⟨H,m,S,ρ,R,E,OU.bind y λu S1 H1 m1 i' e1 p1 R1 i v r=>by match u,r,i with|.inl d,_,i=>exact i.elim|.inr n,⟨f,ha,hv⟩,i=>subst hv;dsimp only at i;match p:S1[n]? with|none=>rw[p]at i;exact i.elim|some (.obj k fs)=>rw[p]at i;exact i.elim|some (.lst g')=>rw[p]at i;dsimp only at i;obtain⟨b,hb,d',q1,q2⟩:=R1.at' n _ p;rw[ha]at hb;cases hb;refine⟨.inl ⟨rfl,d',č.of q1⟩,H1,m1,S1,ρ,R1,E.mono e1 p1,OU.bind i λus S2 H2 m2 h' e2 p2 R2 h vs rs=>?_⟩;match z:ins us,j:S2[n]? with
 |some [d],Z (.lst ds)=>
 rw[z,j]at h;dsimp only at h;by_cases hl:ds.length<100000
 · rw[if_pos hl]at h;obtain⟨b,hb,xs,q3,q4⟩:=R2.at' n _ j;have b':=qo p2 ha;rw[b']at hb;cases hb;obtain⟨e,rfl,e'⟩:=fN (qp z rs);have hz:xs.length<sizeLine:=by have:=q4.length;have h2:=bT (b:=xs.length+1) ();omega
   exact⟨f,xs,e,rfl,rfl,q3,hz,h H2 m2 _ (.refl H2) (L_ m2) (R2.put b' ⟨_,az,q4.append ⟨e,[],rfl,e',rfl⟩⟩) .non rfl⟩
 ·rw[if_neg hl]at h;exact h.elim|none,_=>simp[z]at h;exact h.elim|some [],_=>simp[z]at h;exact h.elim|some (_::_::_),_=>simp[z]at h;exact h.elim|some [d],U=>simp[z,j]at h;exact h.elim|some [d],Z (.obj _ _)=>simp[z,j]at h;exact h.elim⟩⟩
def Oq(f:ô):ô:=λS b=>kW (f S b) λu a=>match u with|.inr n=>(match a[n]? with|some (.lst ds)=>(match ds[ds.length-1]? with|some d=>Z (.ok (.inl d) (a.set n (.lst ds.dropLast)))|none=>U)|_=>U)|_=>U
def Os(ho:UE a g Λ)(j:Wz g "pop" a.env (eval g a.env)=eval g a.env:=by lk)(i:(o.endLine==w.line)=L:=by lk):UE a (.Call (.Attribute g "pop" o) [] [] w) (Oq Λ):=⟨λf' s σ Hf Q I⟨H,m,S,ρ,R,E,g⟩=>L9 Xz acH PySem.F.type_list_pop Ma ho.h j i f' s σ Hf Q I ⟨H,m,S,ρ,R,E,OU.bind g λu S1 H1 m1 a' e1 p1 R1 f v r=>by match u,r,f with|.inl d,_,f=>exact f.elim|.inr n,⟨e,ha,hv⟩,f=>subst hv;dsimp only at f;match h:S1[n]? with|none=>rw[h]at f;exact f.elim|some (.obj k fs)=>rw[h]at f;exact f.elim|some (.lst ds)=>rw[h]at f;dsimp only at f;obtain⟨b,hb,z,A,p⟩:=R1.at' n _ h;rw[ha]at hb;cases hb;match q:ds[ds.length-1]? with|none=>rw[q]at f;exact f.elim|some d=>rw[q]at f;obtain⟨y,h1,h2⟩:=p.get' q;rw[<-p.length]at h1;refine⟨.inl ⟨rfl,z,č.of A⟩,e,z,y,rfl,rfl,A,h1,?_⟩;refine f H1 m1 _ (.refl H1) (L_ m1) (R1.put ha ⟨_,az,?_⟩) y h2;rw[ab5,ab5,p.length];exact p.take _⟩⟩
inductive Ŋ where|nx(ρ:ù)(S:á)|rt(u:Uv)(S:á)|exc(c:Nat)(S:á)
abbrev cq:=á->ù->Ŋ%1
def OV(X:C)(H:Hp)(m:O%0)(r:Ŋ%1)(a:vD):Prop:=match r with|none=>False|some (.exc c S)=>XU X c H m S|some (.rt u S)=>∀v d b e,Ù H d->m<+:b->SR X.K d b S e->Ė X.K d b u v->a.rt v e|some (.nx g S)=>∀f d b e,Ù H d->m<+:b->SR X.K d b S e->ú X.K d b f g->a.nx f e
def tVU(X:C)(f:cq):TS:=λa d e=>∃H m S b,SR X.K H m S e/\ú X.K H m d b/\OV X H m (f S b) a
structure US(X:C)(st:WA)(f:cq):Prop where h:PS X st (tVU X f)
structure Ş(X:C)(st:WA%0)(f:cq):Prop where h:ŋ X st (tVU X f)
def EC(o:Ru θ%1)(k:θ->á->Ŋ%1):Ŋ%1:=match o with|none=>U|some (.exc c S)=>Z (.exc c S)|some (.ok a S)=>k a S
def sqV(o:Ŋ%1)(k:á->ù->Ŋ%1):Ŋ%1:=match o with|some (.nx a S)=>k S a|o=>o
def OV.mono{m:O%0}{d:vD}{r:Ŋ%1}(b:OV a h υ r d)(e:Ù h Δ)(p:υ<+:m):OV a Δ m r d:=by match r,b with|none,b=>exact b|some (.exc c S),b=>exact XU.mono b e p|some (.rt u S),b=>exactλv k g j i f=>b v k g j (e.trans i) (p.trans f)|some (.nx n S),b=>exactλv k g j i f=>b v k g j (e.trans i) (p.trans f)
def OU.bindV{e:vD}{o:Ru θ%1}{k:θ->á->Ŋ%1}{P:θ->Hp->O%0->Hp->Prop}(b:OV a h υ (EC o k) e)(p:∀d S i f g,Ù h i->υ<+:f->SR a.K i f S g->OV a i f (k d S) e->P d i f g):OU a h υ o P:=by match o,b with|none,b=>exact b|some (.exc c S),b=>exact b|some (.ok d S),b=>exactλq n g m j R=>p d S q n g m j R (OV.mono b m j)
def qr:cq:=λS a=>Z (.nx a S)
def dJ(f g:cq):cq:=λS a=>sqV (f S a) g
def ki(i:Nat)(f:ô):cq:=λS a=>EC (f S a) λu b=>Z (.nx (a.set i (Z u)) b)
def qt(f:ô):cq:=λS a=>EC (f S a) λ_ b=>Z (.nx a b)
def iN(f:ô):cq:=λS a=>EC (f S a) λu b=>Z (.rt u b)
def ĳ(p:CB)(f g:cq):cq:=λS a=>EC (p S a) λb d=>if b=L then f d a else g d a
def SG(f:ä):cq:=λS a=>match f (û S a)with|some (.exc c)=>Z (.exc c S)|_=>U
def JD:Ş a [] qr:=⟨λf s d e b I⟨H,m,S,g,R,E,o⟩=>uw f s d e b I (o d H m e (.refl H) (L_ m) R E)⟩
variable{É:cq}
def JE(b:US a Γ É):Ş a [Γ] É:=⟨pQ b.h⟩
def ED{G:cq}(n:US a Γ É)(k:Ş a À G):Ş a (Γ::À) (dJ É G):=⟨λp s h v b I⟨H,m,S,g,R,E,o⟩=>by refine gT n.h k.h p s h v b I ⟨H,m,S,g,R,E,?_⟩;unfold dJ sqV at o;match d:É S g with|none=>rw[d]at o;exact o.elim|some (.exc c e)=>rw[d]at o;exact o|some (.rt u e)=>rw[d]at o;exact o|some (.nx f e)=>rw[d]at o;exactλz w j A q i r y=>⟨w,j,e,f,r,y,OV.mono o q i⟩⟩
def Ot(i:Nat){x:Str}(hN:a.N.Nodup)(z:a.N[i]?=Z x)(q:Ŏ a.env.scope x)(Q:UE a g Λ)(y:WD g (Z (.Name x w)) o.line a.env=pure D:=by lk)(A:a.fn x=L\/a.env.scope.names.lookup x=Z .local:=by first|exact .inl rfl|exact .inr rfl|assumption):US a (.Assign [.Name x w] g o) (ki i Λ):=⟨λf' s j Hf d I⟨H,m,S,k,R,E,b⟩=>oH hN z q Q.h y A f' s j Hf d I ⟨H,m,S,k,R,E,OU.bindV b λu S1 h f e e1 n R1 p v r=>p _ h f e (.refl h) (L_ f) R1 ((E.mono e1 n).set r)⟩⟩
def JF(q:UE a g Λ)(p:WD g U o.line a.env=pure D:=by lk):US a (.Expr g o) (qt Λ):=⟨λw s i A d I⟨H,m,S,j,R,E,b⟩=>ux q.h p w s i A d I ⟨H,m,S,j,R,E,OU.bindV b λu Q h f e y k z n v r=>n _ h f e (.refl h) (L_ f) z (E.mono y k)⟩⟩
def Ou(n:UE a g Λ):US a (.Return (Z g) o) (iN Λ):=⟨λp s i w d I⟨H,m,S,j,R,E,b⟩=>yI n.h p s i w d I ⟨H,m,S,j,R,E,OU.bindV b λu A h f e z y q k v r=>k v h f e (.refl h) (L_ f) q r⟩⟩
def SH{n:WA%0}{p:CB}{G:cq}(w:UT a g p)(z:Ş a À É)(y:Ş a n G):US a (.If g À n o) (ĳ p É G):=⟨λA s v Q d I⟨H,m,S,f,R,E,b⟩=>CS w.h z.h y.h A s v Q d I ⟨H,m,S,f,R,E,OU.bindV b λk q u i a' j h r e=>by cases k with|true=>rw[if_pos rfl]at e⊢;exact⟨u,i,q,f,r,E.mono j h,e⟩|false=>rw[if_neg ∅]at e⊢;exact⟨u,i,q,f,r,E.mono j h,e⟩⟩⟩
def Ov(h:FS a Γ Χ):US a Γ (SG Χ):=⟨λi s g j b I⟨H,m,S,f,R,E,o⟩=>by refine h.h i s g j b I ⟨û S f,R.envs E,?_⟩;unfold SG at o;match e:Χ (û S f)with|none=>rw[e]at o;exact o.elim|some (.rt d)=>rw[e]at o;exact o.elim|some (.nx _)=>rw[e]at o;exact o.elim|some (.exc c)=>rw[e]at o;exact XU.xw o R⟩
def xP(k j:Nat)(w:Uv)(a:Uv%0):(Uv%0)%1:=if j<a.length then Z (a.set j w)else if j=a.length/\a.length<(ě k).length then Z (a++[w])else U
def yt(k j:Nat)(o f:ô):cq:=λS a=>EC (f S a) λw e=>EC (o e a) λu S2=>match u with|.inr n=>(match S2[n]? with|some (.obj d fs)=>if d=k then(match xP k j w fs with|some b=>Z (.nx a (S2.set n (.obj k b)))|none=>U)else U|_=>U)|_=>U
def Ow{i:ô}(c:CK a.K b e)(d':(ě b)[j]?=Z d)(ho:UE a y i)(he:UE a g Λ)(hs:WD g (Z (.Attribute y d w)) o.line a.env=pure D:=by lk):US a (.Assign [.Attribute y d w] g o) (yt b j i Λ):=⟨λf' s σ Hf p I⟨H,m,S,ρ,R,E,y⟩=>LX ho.h he.h hs f' s σ Hf p I ⟨H,m,S,ρ,R,E,OU.bindV y λh S1 H1 m1 l' e1 p1 R1 o1 f ry=>⟨H1,m1,S1,ρ,R1,E.mono e1 p1,OU.bindV o1 λu S2 H2 m2 i' e2 p2 R2 Q v r=>by match u,r,Q with
 |.inl q,_,Q=>exact Q.elim|.inr n,⟨k,ha,hv⟩,Q=>subst hv;dsimp only at Q;match b':S2[n]? with
 |none=>rw[b']at Q;exact Q.elim|some (.lst ds)=>rw[b']at Q;exact Q.elim|some (.obj k' fs)=>
 rw[b']at Q;dsimp only at Q;by_cases hk:k'=b
 · subst hk;rw[if_pos rfl]at Q;obtain⟨z,e',C',dx,vs,h1,h2,h3,h4⟩:=R2.at' n _ b';rw[ha]at e';cases e';rw[uS c h2]at h1;have lv:=h3.length;refine⟨k,e,dx,_,rfl,h1,c.c,c.a d (We d'),?_,?_⟩
   · have:(ě k').length<1000:=by unfold ě;split<;>decide
     rw[List.length_zip];omega
   ·match A:xP k' j h fs with
     |none=>rw[A]at Q;exact Q.elim|some h'=>
     rw[A]at Q;dsimp only at Q;have c':Ė a.K H2 m2 h f:=ry.mono e2 p2;refine Q σ H2 m2 _ (.refl H2) (L_ m2) (R2.put ha ⟨e,dx,if j<vs.length then vs.set j f else vs++[f],?_,by rw[<-uS c h2];exact h2,?_,?_⟩) ((E.mono e1 p1).mono e2 p2)
     · rw[az];unfold xP at A;have g':j<=vs.length:=by
        by_cases hj:j<fs.length;·omega
        · rw[if_neg hj]at A;by_cases a':j=fs.length/\fs.length<(ě k').length;·omega
          ·rw[if_neg a']at A;cases A
       rw[wy (Bi k') d' g' ()]
     · unfold xP at A;by_cases hj:j<fs.length;·rw[if_pos hj]at A;cases A;rw[if_pos ()];exact h3.set j c'
       · rw[if_neg hj]at A;by_cases a':j=fs.length/\fs.length<(ě k').length;·rw[if_pos a']at A;cases A;rw[if_neg ()];exact h3.append ⟨f,[],rfl,c',rfl⟩
         ·rw[if_neg a']at A;cases A
     · unfold xP at A;by_cases hj:j<fs.length;·rw[if_pos hj]at A;cases A;rw[Wl];exact h4
       · rw[if_neg hj]at A;by_cases a':j=fs.length/\fs.length<(ě k').length;·rw[if_pos a']at A;cases A;rw[Ws];simp;omega
         ·rw[if_neg a']at A;cases A
 ·rw[if_neg hk]at Q;exact Q.elim⟩⟩⟩
def JG(b:Nat%0)(a:ù):ù:=b.foldl (λr j=>r.set j U) a
def ú.fgt1(j:Nat)(E:ú q h υ Ι Β):ú q h υ Ι (Β.set j U):=by
 refine⟨by rw[Wl];exact E.len,λi d a=>?_⟩;by_cases b:j=i
 · subst b;by_cases e:j<Β.length;·rw[A_ e]at a;cases a
   ·rw[WC (by rw[Wl];omega)]at a;cases a
 ·rw[p_ b]at a;exact E.at' i d a
def ú.fgt{H:Hp}{m:O%0}{K:d_}{d:L2.St}:∀(b:Nat%0){a:ù},ú K H m d a->ú K H m d (JG b a)|[],_,E=>E|j::b,a,E=>ú.fgt b (E.fgt1 j)
abbrev đ:=á->Uv%0->Ru Uv%1
def mB(n:Nat)(b:cq):đ:=λS us=>match b S (us.map Z++u_ (n-us.length) U)with|some (.nx _ a)=>Z (.ok (.inl .non) a)|some (.rt u a)=>Z (.ok u a)|some (.exc c a)=>Z (.exc c a)|none=>U
def Ž(K:d_)(F:đ)(n:Nat):Sp:=λf g Q E=>∃H m S us,SR K H m S g/\ì K H m us f/\us.length=n/\match F S us with|some (.ok u e)=>∀v d b a,Ù H d->m<+:b->SR K d b e a->Ė K d b u v->Q v a|some (.exc c e)=>∀C d b a,Wv K E_ (į c)=Z (Z (.ref C))->Ù H d->m<+:b->SR K d b e a->E (.ref C) U a|none=>False
def SI{m:Env%0}{E:XK}(k:∀C v u o,Wv q E_ (į b)=Z (Z (.ref C))->Ù Δ v->υ<+:u->SR q v u n o->E (.ref C) U o):XU (oh (ņ s r) s r q Ζ Q H d ω e Α I m f h E) b Δ υ n:=by intro f' σ v u A s1 ev e1 p1 R1 g⟨j,C,he,hC,F⟩;subst he;have F':KE (λa=>f.heap.get? a=U) A j (.ref C) s1.heap:=F.imp λa ha=>ha.1;refine sx g rfl rfl rfl F' λh' Ts F2 A2 y=>?_;have I2:=Õ.aft (ε:=[]) (g.pins_of (pins':=[]) λp w=>nomatch w) A2 rfl λi z=>⟨(y i z).1,(y i z).2.1,λp w=>absurd (show p∈([]:(O×Obj)%0)from w) ∅,(y i z).2.2⟩;exact⟨j,.ref C,A,rfl,g.os,g.bare,I2.base,I2.hok,F2,k C v u A hC e1 p1 R1⟩
def pD{b:Uv%0}(r:ì q h υ b ν):ú q h υ (L2.start H ν) (b.map Z++u_ (H.length-b.length) U):=by
 have g:=r.length;refine⟨by unfold L2.start;rw[Ws,Ws,S_,S_,W_,W_,g],λi d a=>?_⟩;by_cases f:i<b.length
 ·rw[N_ (by simpa using f),K_]at a;match e:b[i]? with|none=>rw[e]at a;cases a|some u=>rw[e]at a;cases a;obtain⟨v,k,j⟩:=r.get e;refine⟨v,?_,j⟩;unfold L2.start;rw[N_ (by rw[S_,g];exact f),K_,k];rfl
 ·rw[Q_ (by simpa using f)]at a;have:=We a;rw[List.mem_replicate]at this;cases this.2
variable{Í:đ}
def Bn(N I:Str%0)(fb:cq)(hF:Í=mB N.length fb)(hn:j=I.length)(Fn:ł q d p Γ e Æ)(Sc:il N I (ao Γ))(hb:∀(w:B)(A:B_)(o:Env%0)(f:h_)(H:Hp)(E:XK),å b (A.deeper (Yi p (ao Γ) f.heap.objs.size e w))->Ş (oh (ņ s r) s r q Ζ Q N p (ao Γ) e w A o f H E) (bQ Γ) fb):ö s r q Ζ Q (ņ s r) (b+1) e Æ I (Ž q Í j):=by
 subst hF hn;obtain⟨oc,od,kV,d',pm,an,w,ct,c',rfl,lk,a'⟩:=Fn.ex;refine Da lk a' Sc (λvs H n E h=>?_) λA o f Hf vs n E hr h=>?_;·obtain⟨H,m,S,us,R,g,hl,_⟩:=h;rw[g.length,hl]
 ·obtain⟨H,m,S,us,R,g,hl,a⟩:=h;refine⟨_,(hb w A o f Hf E hr).h,H,m,S,us.map Z++u_ (N.length-us.length) U,R,pD g,?_⟩;unfold mB at a;match z:fb S (us.map Z++u_ (N.length-us.length) U)with|none=>rw[z]at a;exact a.elim|some (.exc c S1)=>rw[z]at a;exact SI a|some (.rt u S1)=>rw[z]at a;exactλv H' m' y k i R' r'=>a v H' m' y k i R' r'|some (.nx ρ S1)=>rw[z]at a;exactλb' H' m' y k i R' _=>a .non H' m' y k i R' rfl
def nq(F:đ)(n:Nat)(b:ll):ô:=λS a=>kW (b S a) λus d=>if us.length=n then F d us else U
def wA{g:Uv%0}(R:SR a.K h υ n Δ)(q:ì a.K h υ g ν)(s:g.length=b)(o:OU a h υ (Í n g) λu j i f=>∀v,Ė a.K j i u v->Ò v f):Ž a.K Í b ν Δ Ò (EX a):=by refine⟨h,υ,n,g,R,q,s,?_⟩;match k:Í n g with|none=>rw[k]at o;exact o.elim|some (.ok u w)=>rw[k]at o;exactλv j i f e p m r=>o j i f e p m v r|some (.exc c w)=>rw[k]at o;exactλd j i f hC e p m=>⟨c,d,rfl,hC,XU.xw (XU.mono o e p) m⟩
def JH(G:ö a.prog a.w a.K a.mg a.base (ņ a.prog a.w) b e Æ H (Ž a.K Í j))(hr:å b a.A)(p:a.ex=[])(hg:Gl a d)(hm:a.mg d=Z (.ref e))(hk:WG a.K (.ref e)=L)(hb:õ a.K Æ H [])(ha:UA a (g::u) Ñ)(q:(d==("__debug__":Str))=D:=by lk)(he:g%8:=by lk)(n:(V6 w (j_ u a.env)).any (·.1)=D:=by lk):UE a (.Call (.Name d o) (g::u) [] w) (nq Í j Ñ):=⟨λf' s v Hf Q I⟨h,m,S,y,R,E,f⟩=>mL G hr hg hm hk hb .nil (xx p) ha.h q he n f' s v Hf Q I ⟨h,m,S,y,R,E,OU.bind f λus S1 H1 m1 r e1 p1 R1 i z A=>by
 show Ž a.K Í j (z++[]) r Q (EX a);rw[Xe];by_cases k:us.length=j;·rw[if_pos k]at i;exact wA R1 A k i
 ·rw[if_neg k]at i;exact i.elim⟩⟩
structure Bo(P:n_)(w:y_)(K:d_)(mg:Str->B%1)(base:O_)(k:Nat)(C:O)(m:Str)(lv n:Nat)(F:đ):Prop where
 c:CK K k C
 h:m∉ě k
 f:∃f fd ps,Lf K C m f/\ö P w K mg base (ņ P w) lv f fd ps (Ž K F (n+1))/\õ K fd ps []
def eQ(k:Nat)(F:đ)(n:Nat)(g:ô)(e:ll):ô:=λS a=>kW (g S a) λu b=>match u with|.inr c=>(match b[c]? with|some (.obj d _)=>if d=k then kW (e b a) λus S2=>(if us.length=n then F S2 (.inr c::us)else U)else U|_=>U)|_=>U
variable{Ð:Nat}
def JJ{pl:Sem Bool}(h:Bo a.prog a.w a.K a.mg a.base b e d ι j Í)(hr:å Ð a.A)(hk:ι<=Ð)(b':a.ex=[])(ho:UE a g Λ)(ha:UA a (y::u) Ñ)(ht:MC a g d (y::u) w o pl)(he:j_ (y::u) a.env=(D,eval y a.env)::j_ u a.env:=by lk)(a':(V6 o (j_ u a.env)).any (·.1)=D:=by lk):UE a (.Call (.Attribute g d w) (y::u) [] o) (eQ b Í j Λ Ñ):=by obtain⟨f,fd,ps,hm,G,hb⟩:=h.f;refine⟨λf' s σ Hf Q I⟨H,m,S,ρ,R,E,g⟩=>Ho (v:=pl) ho.h h.c.c hm (G.mono hk) hr hb .nil (xx b') ha.h he a' ht f' s σ Hf Q I ⟨H,m,S,ρ,R,E,OU.bind g λk S1 H1 m1 d' e1 p1 R1 q v r=>?_⟩⟩;match k,r,q with
 |.inl n,_,q=>exact q.elim|.inr n',⟨i,ha,hv⟩,q=>subst hv;dsimp only at q;match hs:S1[n']? with
 |none=>rw[hs]at q;exact q.elim|some (.lst ds)=>rw[hs]at q;exact q.elim|some (.obj k' fs)=>
 rw[hs]at q;dsimp only at q;by_cases z:k'=b
 · subst z;rw[if_pos rfl]at q;obtain⟨p,A,C',dx,vs,h1,h2,h3,h4⟩:=R1.at' n' _ hs;rw[ha]at A;cases A;rw[uS h.c h2]at h1;refine⟨i,dx,_,rfl,h1,kU h.h,H1,m1,S1,ρ,R1,E.mono e1 p1,OU.bind q λus S2 H2 m2 c' e2 p2 R2 o2 ws rs=>?_⟩;show Ž a.K Í (j+1) (.ref i::(ws++[])) c' Q (EX a);rw[Xe];by_cases hl:us.length=j;·rw[if_pos hl]at o2;exact wA (g:=.inr n'::us) R2 ⟨.ref i,ws,rfl,⟨i,qo p2 ha,rfl⟩,rs⟩ (by rw[Wb,hl]) o2
   ·rw[if_neg hl]at o2;exact o2.elim
 ·rw[if_neg z]at q;exact q.elim
def EE{pl:Sem Bool}(h:Bo a.prog a.w a.K a.mg a.base b e d j 0 Í)(hr:å ι a.A)(hk:j<=ι)(a':a.ex=[])(ho:UE a g Λ)(ht:MC a g d [] w o pl):UE a (.Call (.Attribute g d w) [] [] o) (eQ b Í 0 Λ gA):=by obtain⟨f,fd,ps,hm,G,hb⟩:=h.f;refine⟨λf' s σ Hf Q I⟨H,m,S,ρ,R,E,g⟩=>vI (m:=pl) ho.h h.c.c hm (G.mono hk) hr hb .nil (xx a') ht f' s σ Hf Q I ⟨H,m,S,ρ,R,E,OU.bind g λu S1 H1 m1 b' e1 p1 R1 p v r=>?_⟩⟩;match u,r,p with|.inl k,_,p=>exact p.elim|.inr A,⟨i,ha,hv⟩,p=>subst hv;dsimp only at p;match z:S1[A]? with
 |none=>rw[z]at p;exact p.elim|some (.lst ds)=>rw[z]at p;exact p.elim|some (.obj k' fs)=>
 rw[z]at p;dsimp only at p;by_cases q:k'=b;·subst q;rw[if_pos rfl]at p;obtain⟨n,y,C',dx,vs,h1,h2,h3,h4⟩:=R1.at' A _ z;rw[ha]at y;cases y;rw[uS h.c h2]at h1;refine⟨i,dx,_,rfl,h1,kU h.h,?_⟩;show Ž a.K Í (0+1) [.ref i] b' Q (EX a);exact wA (g:=[.inr A]) R1 ⟨.ref i,[],rfl,⟨i,ha,rfl⟩,rfl⟩ rfl p
 ·rw[if_neg q]at p;exact p.elim
structure Ox(P:n_)(w:y_)(K:d_)(mg:Str->B%1)(base:O_)(k:Nat)(C:O)(lv n:Nat)(F:đ):Prop where
 c:CK K k C
 g:mg (ũ k)=Z (.ref C)f:∃f fd ps,Mk K C f/\ö P w K mg base (ņ P w) lv f fd ps (Ž K F (n+1))/\õ K fd ps []
def Bp(k:Nat)(F:đ)(n:Nat)(d:ll):ô:=λS b=>kW (d S b) λus a=>if us.length=n then kW (F (a++[.obj k []]) (.inr a.length::us)) λu S2=>(match u with|.inl .non=>Z (.ok (.inr a.length) S2)|_=>U)else U
def JK(h:Ox a.prog a.w a.K a.mg a.base b e ι j Í)(a':å Ð a.A)(hk:ι+1<=Ð)(c':a.ex=[])(hg:Gl a (ũ b))(ha:UA a (g::u) Ñ)(e':(ũ b==("__debug__":Str))=D)(he:g%8:=by lk)(b':(V6 w (j_ u a.env)).any (·.1)=D:=by lk):UE a (.Call (.Name (ũ b) o) (g::u) [] w) (Bp b Í j Ñ):=by
 obtain⟨f,fd,ps,M,G,hb⟩:=h.f;refine⟨λf' s σ Hf Q I⟨H,m,S,ρ,R,E,n⟩=>Hq M G (a'.mono hk) hg h.g hb .nil (xx c') ha.h e' he b' f' s σ Hf Q I ⟨H,m,S,ρ,R,E,OU.bind n λus S1 H1 A i' e1 p1 R1 z vs rs=>?_⟩⟩;by_cases hl:us.length=j
 · rw[if_pos hl]at z;intro i dx ha d' y;obtain⟨H2,e2,R2,_⟩:=R1.grow (aH d' (.own i));have g':æ i' dx (.own i) i=U:=by rw[ay (by first|exact y|exact WO y)];exact ha
   have R3:=R2.push (o:=.ins e dx []) (c:=.obj b []) g' ⟨e,dx,[],by rw[az];simp,h.c.n,rfl,Wm _⟩;have p:(A++[i])[S1.length]?=Z i:=by rw[<-R1.len,Q_ (rl _),Y2];rfl
   show Ž a.K Í (j+1) (.ref i::(vs++[])) _ _ (EX a);rw[Xe];refine wA (g:=.inr S1.length::us) R3 ⟨.ref i,vs,rfl,⟨i,p,rfl⟩,rs.mono e2 (Zn A [i])⟩ (by rw[Wb,hl]) (OU.bind (z.mono e2 (Zn A [i])) λk S4 H4 m4 h' e4 p4 R4 q v r=>?_);match k,r,q with|.inr _,_,q=>exact q.elim|.inl d,r,q=>cases d with|non=>exact⟨r,q H4 m4 h' (.refl H4) (L_ m4) R4 (.ref i) ⟨i,qo p4 p,rfl⟩⟩|_=>exact q.elim
 ·rw[if_neg hl]at z;exact z.elim
abbrev og:=(Str×Nat×Nat×đ)%0
structure SJ(P:n_)(w:y_)(K:d_)(mg:Str->B%1)(base:O_)(x:Str)(lv n:Nat)(F:đ):Prop where f:∃f fd ps,ö P w K mg base (ņ P w) lv f fd ps (Ž K F n)/\mg x=Z (.ref f)/\WG K (.ref f)=L/\õ K fd ps []
structure ť(P:n_)(w:y_)(K:d_)(mg:Str->B%1)(base:O_)(T:og):Prop where h:∀x e,T.lookup x=Z e->SJ P w K mg base x e.1 e.2.1 e.2.2
structure ī(P:n_)(w:y_)(K:d_)(mg:Str->B%1)(base:O_)(k:Nat)(C:O)(T:og):Prop where h:∀m e,T.lookup m=Z e->Bo P w K mg base k C m e.1 e.2.1 e.2.2
def JL:ť s r q Ζ Q []:=⟨λ_ _ h=>by cases h⟩
def qu{T:og}(h:SJ s r q Ζ Q d b j Í)(t:ť s r q Ζ Q T):ť s r q Ζ Q ((d,b,j,Í)::T):=⟨λd e z=>by
 rcases gz z with⟨rfl,rfl⟩|z;·exact h
 ·exact t.h d e z⟩
def JM:ī s r q Ζ Q b e []:=⟨λ_ _ h=>by cases h⟩
def fY{T:og}(h:Bo s r q Ζ Q b e d j ι Í)(t:ī s r q Ζ Q b e T):ī s r q Ζ Q b e ((d,j,ι,Í)::T):=⟨λx a z=>by
 rcases gz z with⟨rfl,rfl⟩|z;·exact h
 ·exact t.h x a z⟩
def uT{h:O_}(w:q.In h)(y:h.Ns E_ Ζ)(N g:Str%0)(k:cq)(A:Af q d Γ e)(m:NZ d Γ g)(u:∀(i:B)(A:B_)(f:Env%0)(a:h_)(H:Hp)(E:XK),å b (A.deeper (Yi d (ao Γ) a.heap.objs.size e i))->Ş (oh (ņ s r) s r q Ζ Q N d (ao Γ) e i A f a H E) (bQ Γ) k)(v:Í=mB N.length k:=by lk)(o:X' N g (ao Γ)=L:=by lk)(p:j=g.length:=by lk):SJ s r q Ζ Q d (b+1) j Í:=let⟨_,n⟩:=A.F;⟨_,_,g,Bn N g k v p n (Gy o) u,Yg w y A.a,A.k,n.binds m⟩
def fZ(c:CK q b e)(N g:Str%0)(i:cq)(A:Am q e p d Γ z)(k:BdQ d p Γ g)(v:∀(h:B)(A:B_)(f:Env%0)(a:h_)(H:Hp)(E:XK),å j (A.deeper (Yi p (ao Γ) a.heap.objs.size z h))->Ş (oh (ņ s r) s r q Ζ Q N p (ao Γ) z h A f a H E) (bQ Γ) i)(w:Í=mB N.length i:=by lk)(n:X' N g (ao Γ)=L:=by lk)(o:ι+1=g.length:=by lk)(u:noB b d=L:=by lk):Bo s r q Ζ Q b e d (j+1) ι Í:=let⟨_,m⟩:=A.F;⟨c,Oj u,_,_,g,A.t,Bn N g i w o m (Gy n) v,m.binds k⟩
def JN{h:O_}(y:q.In h)(I:h.Ns E_ Ζ)(c:CK q b e)(M:Mk q e z)(N g:Str%0)(k:cq)(A:∃w,ł q "__init__" d Γ z w)(m:BdQ "__init__" d Γ g)(u:∀(i:B)(A:B_)(f:Env%0)(a:h_)(H:Hp)(E:XK),å j (A.deeper (Yi d (ao Γ) a.heap.objs.size z i))->Ş (oh (ņ s r) s r q Ζ Q N d (ao Γ) z i A f a H E) (bQ Γ) k)(v:Í=mB N.length k:=by lk)(o:X' N g (ao Γ)=L:=by lk)(p:ι+1=g.length:=by lk):Ox s r q Ζ Q b e (j+1) ι Í:=let⟨_,n⟩:=A;⟨c,Yg y I c.n,_,_,g,M,Bn N g k v p n (Gy o) u,n.binds m⟩
def QZ(n:Nat)(a:cq):ß:=λds=>match a [] ((ds.map λd=>d%7)++u_ (n-ds.length) U)with|some (.rt (.inl d) _)=>d%3|_=>U
def wB{K:d_}{H:Hp}{m:O%0}:∀{ds:N%0}{a:V%0},S K H ds a->ì K H m (ds.map .inl) a|[],a,r=>r|d::ds,a,r=>by obtain⟨v,us,e,f,b⟩:∃v us,a=v::us/\Ü K H d v/\S K H ds us:=r;exact⟨v,us,e,f,wB b⟩
def Oy(N y:Str%0)(I:cq)(hF:Ω=QZ N.length I)(hn:j=y.length)(Fn:ł q d p Γ e Æ)(Sc:il N y (ao Γ))(hb:∀(u:B)(A:B_)(o:Env%0)(a:h_)(H:Hp)(E:XK),å b (A.deeper (Yi p (ao Γ) a.heap.objs.size e u))->Ş (oh Ĳ s r q Ζ Q N p (ao Γ) e u A o a H E).nox (bQ Γ) I):ö s r q Ζ Q Ĳ (b+1) e Æ y (Ř q Ω j):=by
 subst hF hn;obtain⟨oc,od,kV,c',pm,an,u,ct,b',rfl,lk,a'⟩:=Fn.ex;refine Da lk a' Sc (λvs H m E h=>?_) λA o a H vs m E hr h=>?_;·obtain⟨ds,f,hl,_⟩:=h;rw[f.length,hl]
 ·obtain⟨ds,f,hl,z⟩:=h;have i:=pD (H:=N) (wB (m:=[]) f);rw[W7,S_]at i;refine⟨_,(hb u A o a H E hr).h.nox,H,[],[],_,⟨rfl,aaR,(λ_ z=>by cases z),.refl H,(λ_ _ z=>by simp at z)⟩,i,?_⟩;unfold QZ at z;have e0:(ds.map λg=>Z (Z5 g:Uv))=ds.map (Z∘Z5):=rfl;rw[e0]at z;match w:I [] (ds.map (Z∘Z5)++u_ (N.length-ds.length) U)with|none=>rw[w]at z;exact z.elim|some (.exc c S)=>rw[w]at z;exact z.elim|some (.nx ρ S)=>rw[w]at z;exact z.elim|some (.rt (.inr _) S)=>rw[w]at z;exact z.elim|some (.rt (.inl g) S)=>rw[w]at z;exactλv H' m' Hf k n R r'=>z v Hf (k.trans R.up) (Ü.mono R.up _ _ r')
def JO(h:PE a g (yF b)):UE a g (fE b):=Ol b h
def JP(c:CK a.K j e)(f:UE a g Λ)(h:(ě j)[b]?=Z d:=by lk)(i:Wz g d a.env (eval g a.env)=eval g a.env:=by lk):UE a (.Attribute g d o) (CF j b Λ):=Om c h f i
def JQ(j:UE a g Λ)(k:Į a.N=L:=by lk)(h:a.N[b]?=Z d:=by lk)(e:kh a.env.scope d=L:=by lk)(i:a.fn d=L:=by lk)(f:WD g (Z (.Name d w)) o.line a.env=pure D:=by lk):US a (.Assign [.Name d w] g o) (ki b Λ):=Ot b (jk k) h (fQ e) j f (.inl i)
def JR{f:ô}(c:CK a.K j e)(k:UE a g f)(m:UE a y Λ)(h:(ě j)[b]?=Z d:=by lk)(i:WD y (Z (.Attribute g d w)) o.line a.env=pure D:=by lk):US a (.Assign [.Attribute g d w] y o) (yt j b f Λ):=Ow c h k m i
def EF{T:og}(E:ť a.prog a.w a.K a.mg a.base T)(r:å j a.A)(h:(T.lookup d).map (λq=>q.2.2)=Z Í)(n:a.ex=[])(A:UA a (g::u) Ñ)(e:((T.lookup d).all λq=>Z7 q.1 j&&Ym b q.2.1)=L:=by lk)(v:a.env.kindOf d=Z .globalImplicit:=by lk)(p:(d==("__debug__":Str))=D:=by lk)(y:g%8:=by lk)(k:(V6 o (j_ u a.env)).any (·.1)=D:=by lk):UE a (.Call (.Name d w) (g::u) [] o) (nq Í b Ñ):=by cases i:T.lookup d with|none=>rw[i]at h;cases h|some q=>rw[i]at h e;cases h;rw[Xd,m_]at e;obtain rfl:=Wx e.2;obtain⟨f,I,H,G,s,m,z⟩:=(E.h d q i).f;exact JH (G.mono (Ww e.1)) r n (ı v) s m z A p y k
def EG{T:og}(z:ī a.prog a.w a.K a.mg a.base b e T)(p:å ι a.A)(h:(T.lookup d).map (λq=>q.2.2)=Z Í)(m:a.ex=[])(r:UE a g Λ)(v:UA a (y::u) Ñ)(f:((T.lookup d).all λq=>Z7 q.1 ι&&Ym j q.2.1)=L:=by lk)(n:MC a g d (y::u) w o (SE g a.env):=by delta MC;lk)(s:j_ (y::u) a.env=(D,eval y a.env)::j_ u a.env:=by lk)(k:(V6 o (j_ u a.env)).any (·.1)=D:=by lk):UE a (.Call (.Attribute g d w) (y::u) [] o) (eQ b Í j Λ Ñ):=by cases i:T.lookup d with|none=>rw[i]at h;cases h|some q=>rw[i]at h f;cases h;rw[Xd,m_]at f;obtain rfl:=Wx f.2;exact JJ (z.h d q i) p (Ww f.1) m r v n s k
def Bq{T:og}(s:ī a.prog a.w a.K a.mg a.base b e T)(p:å j a.A)(i:(T.lookup d).map (λq=>q.2.2)=Z Í)(m:a.ex=[])(r:UE a g Λ)(f:((T.lookup d).all λq=>Z7 q.1 j&&Ym 0 q.2.1)=L:=by lk)(n:MC a g d [] w o (SE g a.env):=by delta MC;lk):UE a (.Call (.Attribute g d w) [] [] o) (eQ b Í 0 Λ gA):=by cases k:T.lookup d with|none=>rw[k]at i;cases i|some q=>rw[k]at i f;cases i;rw[Xd,m_]at f;have h:=s.h d q k;rw[<-Wx f.2]at h;exact EE h p (Ww f.1) m r n
def EH(h:Ox a.prog a.w a.K a.mg a.base b e ι j Í)(f:å Ð a.A)(k:a.ex=[])(s:UA a (g::u) Ñ)(n:ũ b=d:=by lk)(p:Z7 (ι+1) Ð=L:=by lk)(q:a.env.kindOf d=Z .globalImplicit:=by lk)(m:(d==("__debug__":Str))=D:=by lk)(r:g%8:=by lk)(i:(V6 o (j_ u a.env)).any (·.1)=D:=by lk):UE a (.Call (.Name d w) (g::u) [] o) (Bp b Í j Ñ):=by subst n;exact JK h f (Ww p) k (ı q) s m r i
def Oz(b:a.A.units+64<cLine)(f:UE a g Λ)(e:FE a y A)(d:Wc .NotEq y=D:=by lk):UT a (.Compare g [.NotEq] [y] o) (uB (xO İ Λ A)):=JB (MT b) MV f e d
structure Lk(J:It)(a c:Int)(n:Nat):Prop where
 go:∀i H,i<n->J.go i H
 yld:∀i H x H',J.yld i H x H'->H'=H/\x=.int (a+(i:Int)*c)stop:∀i H,n<=i->J.stop i H
abbrev FnI:=Ev->(Int×Int×Nat)%1
structure UI(X:C)(tg iter:t_)(w:FnI):Prop where h:PI X tg iter λσ H R=>∃ρ a c n,ã X.K H σ ρ/\w ρ=Z (a,c,n)/\∀J H',Ù H H'->Lk J a c n->R J H'
abbrev okR(n:Int):Prop:=-(2^62)<=n/\n<2^62
def iU1(b:ë):FnI:=λa=>match b a with|some (.ok [.int n])=>if okR n then Z (0,1,n.toNat)else U|_=>U
def SK(a:Int)(n:Nat):Lk (Itr a n) a 1 n:=⟨λ_ _ h=>h,λi H x b⟨h,e⟩=>⟨h,by rw[e,Int.mul_one]⟩,λ_ _ h=>h⟩
def Vw(p:Gl a "range")(m:a.mg "range"=U)(q:FA a [y] ο)(j:j_ [y] a.env=[(D,eval y a.env)]:=by lk):UI a g (.Call (.Name "range" o) [y] [] w) (iU1 ο):=⟨λu s e H R I⟨f,a',c',Q,E,b,r⟩=>by
 refine rO p m q.h j u s e H R I ⟨f,E,?_⟩;unfold iU1 at b;split at b
 · rename_i n k;rw[k];split at b;·rename_i d;cases b;intro A Hg z i;obtain⟨v,rfl,h⟩:=fN i;exact⟨n,by rw[show v=.int n from h],d.1,d.2,r _ _ z (SK 0 _)⟩
   ·cases b
 ·cases b⟩
def oo(i:Nat)(d:Nat%0)(F:cq)(a c:Int):Nat->Nat->á->ù->Ŋ%1|0,_,S,b=>Z (.nx (JG d b) S)|n+1,k,S,b=>match F S ((JG d b).set i (.int (a+(k:Int)*c)%7))with|some (.nx e f)=>oo i d F a c n (k+1) f e|o=>o
def xQ(i:Nat)(d:Nat%0)(w:FnI)(F:cq):cq:=λS b=>match w (û S b)with|some (a,c,n)=>oo i d F a c n 0 S b|none=>U
def JU{w:FnI}(i:Nat)(Q:Nat%0)(hp:YK (D_ a.prog a.w) a.A a.env a.xe)(hc:a.calm=L)(hi:UI a g y w)(hn:PG a g (w8 i))(hb:Ş a À É)(h':∀x,Wd y a.env x=pure x:=by intro _;lk):US a (.For g y À [] o) (xQ i Q w É):=⟨λf' s σ Hf f I⟨H,m,S,ρ,R,E,d⟩=>by unfold xQ at d;match hq:w (û S ρ)with
 |none=>rw[hq]at d;exact d.elim|some (b,c,n)=>
 rw[hq]at d;dsimp only at d;refine rP hp hc hi.h hn hb.h h' f' s σ Hf f I ⟨û S ρ,b,c,n,R.envs E,hq,λJ Hg eg e=>?_⟩;obtain⟨H0,e0,R0,_⟩:=R.grow eg;refine⟨λk q b' c'=>q=n-k/\k<=n/\∃z A S' p,SR a.K z A S' c'/\ú a.K z A b' p/\OV a z A (oo i Q É b c (n-k) k S' p) f,⟨n,by simp,Wm _,H0,m,S,ρ,R0,E.mono e0 (L_ m),by simpa using d.mono e0 (L_ m)⟩,?_⟩;rintro k q b' c'⟨rfl,hk,z,A,S',p,R',E',j⟩;by_cases d':k<n;·refine .inr ⟨e.go k _ d',λa' e'=>∃H2 m2 S2 u,SR a.K H2 m2 S2 e'/\ú a.K H2 m2 a' u/\OV a H2 m2 (oo i Q É b c (n-(k+1)) (k+1) S2 u) f,λa' e' q=>⟨n-(k+1),by omega,rfl,d',q⟩,λx H2 h=>?_⟩;obtain⟨rfl,rfl⟩:=e.yld k _ x H2 h;rw[show n-k=(n-(k+1))+1 by omega]at j;unfold oo at j;show tVU a É _ _ _;refine⟨z,A,S',(JG Q p).set i (.int (b+(k:Int)*c)%7),R',(ú.fgt Q E').set (show Ü a.K z (.int (b+(k:Int)*c)) (.int (b+(k:Int)*c))from rfl),?_⟩;match v:É S' ((JG Q p).set i (.int (b+(k:Int)*c)%7))with|none=>rw[v]at j;exact j|some (.exc c _)=>rw[v]at j;exact j|some (.rt r _)=>rw[v]at j;exact j|some (.nx u S2)=>rw[v]at j;exactλa' H3 m3 i' e3 p3 R3 E3=>⟨H3,m3,S2,u,R3,E3,OV.mono j e3 p3⟩
 · have g':k=n:=by omega
   subst g';rw[Y2]at j;exact .inl ⟨e.stop k _ (rl _),j b' z A c' (.refl z) (L_ A) R' (ú.fgt Q E')⟩⟩
def uOk(f:ô):ô:=λS a=>match f S a with|some (.ok u b)=>Z (.ok u b)|_=>U
def EI{e:FnI}(i:YK (D_ a.prog a.w) a.A a.env a.xe)(k:UI a (.Name d w) g e)(p:Ş a À É)(n:a.calm=L:=by lk)(q:Į a.N=L:=by lk)(h:a.N[b]?=Z d:=by lk)(j:kh a.env.scope d=L:=by lk)(m:a.fn d=L:=by lk)(f:∀d,Wd g a.env d=pure d:=by intro _;lk):US a (.For (.Name d w) g À [] o) (xQ b Ç e É):=JU b Ç i n k (iO (jk q) h (fQ j) (.inl m)) p f
def oq(e i N:Nat)(F:cq)(g:Û):cq:=λS b=>match F S b with|some (.rt u a)=>Z (.rt u a)|some (.exc c a)=>if c<e then(match g ((u_ N U).set i (Z (.exn c)))with|some (.ok d)=>if FD.pl d=L then Z (.rt (.inl d) a)else U|_=>U)else U|_=>U
def JV{X:C}{bs:WA%0}{hx:t_}{F:cq}{g:Û}{J n:Str}{CJ:O}{np A y r':Pos}(mm i N:Nat)(c':X.ex=[])(t':X.stack=X.env::X.outer)(w':X.env.frame=Z X.env.locals)(v':Gl X J)(h':X.mg J=Z (.ref CJ))(KJ:excIn X.K CJ Ů "ValueError.__new__"=L)(xk:∀c a,c<mm->nsIn X.K E_ (į c)=Z (Z (.ref a))->excIn X.K a Ů "ValueError.__new__"=L/\mroIn X.K a (.ref CJ)=Z L)(hN:X.N.Nodup)(hi:X.N[i]?=Z n)(hl:X.env.scope.names.lookup n=Z .local)(y':X.N.length=N)(hb:∀pl E',Ş (Lh X pl E') bs F)(hh:∀pl e,FE (sy X pl e) hx g)(x':(J==("__debug__":Str))=D:=by lk):US X (.Try bs [.ExceptHandler (Z (.Name J np)) (Z n) [.Return (Z hx) A] y] [] [] r') (oq mm i N F g):=by
 constructor;intro k s σ Hf f I⟨H,m,S,ρ,R,E,o⟩;refine wpAny_Try_except ?_;have e':=λE'(h:OV (Lh X k E') H m (F S ρ) {nx:=λ_ _=>False,rt:=f.rt})=>(hb k E').h [] s σ Hf {nx:=λ_ _=>False,rt:=f.rt} (Ic I) ⟨H,m,S,ρ,R,E,h⟩;refine Wr (e' (λe n'=>w_ (D_ X.prog X.w) X.A (ada e X.env) (λ_ m'=>w_ (D_ X.prog X.w) X.A (setFlight e U) (λ_ l'=>w_ (D_ X.prog X.w) X.A (handleBy e X.env [.ExceptHandler (Z (.Name J np)) (Z n) [.Return (Z hx) A] y]) (SP X k f) X.xe l') X.xe m') X.xe n') ?_) (λfl s1 w=>?_) λe s1 w=>w
 ·unfold oq at o;match hf:F S ρ with
  |none=>rw[hf]at o;exact o.elim|some (.nx _ _)=>rw[hf]at o;exact o.elim|some (.rt u S1)=>rw[hf]at o;exact o|some (.exc c S1)=>
  rw[hf]at o;dsimp only at o;by_cases d':c<mm
  · rw[if_pos d']at o;intro ps a' H0 m0 H1 s1 ev same pre R1 I1⟨e,a,he,hC,F⟩;subst he;have fe:H1 e=U:=F.1;have fn:=F.2.1;refine DJ (a:=Lh X k _) I1 c' t' w' F (E1:=X.xe) (E2:=X.xe) λh2 Ts a0 k1 k2 k3 k4 k5=>?_;have k':=I1.pins_of (pins':=[]) λp hp=>absurd hp ∅;have i':∀b,b=e\/b∈Ts->H1 b=U/\X.s₀.heap.get? b=U/\(∀p∈(X.pn++k)++[],p.1≠b)/\∃o vs,s1.heap.get? b=Z o/\o.data=.fields vs:=λb hb=>⟨(k5 b hb).1,(k5 b hb).2.1.1,λp hp=>(k5 b hb).2.1.2 p (by simpa using hp),(k5 b hb).2.2⟩;have I2:=Õ.aft k' (vR I1 k1 k4) c' i';have J2:Õ (sy X k e) [] a' H1 {s1 with heap:=h2}:=vV (mU I2);have s':=k3;obtain⟨oe,vs,T,oT,ts,t1,⟨t2,t3⟩,t4,_⟩:=s';obtain⟨xC,xm⟩:=xk c a d' hC;refine wpAny_handleBy_cons (codeAny_handlers_test (j9 (a:=sy X k e) J2 v' h' ?_ x')) (by intro z;cases z);refine zP (Ζ:=λ_=>Z (.ref a)) (d:=n) J2.kIn (zK J2.kIn rfl xC) (zK J2.kIn h' KJ) t1 t2 xm ?_;show Yl _ _ (.handlers (.ref e) [.ExceptHandler U (Z n) [.Return (Z hx) A] y] X.env) _ _;refine codeAny_handlers_suite_as ?_;refine ZW (s:={s1 with heap:=h2}) k1 k2 k3.at λh3 m1 m2 m3 m4=>?_;have A3:Aft (Lh X k _) e Ts s1.heap h3:=vR I1 m1 λb o q d=>by obtain⟨sl,q'⟩:=k4 b o q d;exact⟨sl,m4 b _ q' d⟩
    have I3:=Õ.aft k' A3 c' i';obtain⟨Q,z',T3,B',A',u1,⟨u2,u3⟩,u4,_⟩:=m3;have I4:=Õ.freeze I3 fe u1 u4 fn.1 λp hp=>fn.2 p (by simpa using hp);have J4:Õ (sy X k e) [] a' (æ H1 e (.frz Q (.ext λ_=>True))) {s1 with heap:=h3}:=vV (mU I4);refine mj (a:=sy X k e) J4 hN hi (.inl hl) (ψ:=.ref e) rfl (λs5 J5=>?_) (.inr hl);have rep:Ü X.K (æ H1 e (.frz Q (.ext λ_=>True))) (.exn c) (.ref e):=⟨e,Q,_,a,rfl,az,u2,hC⟩;have E5:ã X.K (æ H1 e (.frz Q (.ext λ_=>True))) (a'.set i (Z (.ref e))) ((u_ N U).set i (Z (.exn c))):=by
     refine ã.set (ζ:=u_ N U) ⟨?_,λj d hj=>?_⟩ rep;·rw[I1.len,W_];exact y'
     ·rw[Yv]at hj;split at hj<;>cases hj
    match hg:g ((u_ N U).set i (Z (.exn c)))with
    |none=>rw[hg]at o;exact o.elim|some (.exc c2)=>rw[hg]at o;exact o.elim|some (.ok d)=>
     rw[hg]at o;dsimp only at o;by_cases b':FD.pl d=L
     ·rw[if_pos b']at o;have o':=(zn (F4 (o:=A) (hh k e))).h [] s5 _ _ {nx:=λ_ _=>False,rt:=f.rt} J5 ⟨_,E5,(by unfold aR;rw[hg];intro v H' e1 r;obtain⟨H2,e2,R2,dn⟩:=R1.grow ((aH fe _).trans e1);exact o v H2 m0 H' (same.trans e2) pre R2 (dn d v b' r))⟩;refine Wr o' (λfl s6 w=>?_) λ_ _ z=>z.elim;cases fl with
     |ret u=>
     obtain⟨v,g',H6,J6,rv,q6⟩:=w;have J7:Õ X k g' H6 s6:=xz I.ok J6;have u':i<g'.length:=by rw[J7.len];exact(F_.mp hi).1
     refine e_ (wpAny_bindName (mj J7 hN hi (.inl hl) (ψ:=.non) rfl (λs7 J8=>?_) (.inr hl)));exact zO J8 hN hi hl (ψ:=.non) (A_ u') λs8 J9=>⟨v,_,H6,J9,rv,q6⟩|next=>obtain⟨_,_,_,z⟩:=w;exact Wg z|brk=>obtain⟨_,_,_,z⟩:=w;exact Wg z|cont=>obtain⟨_,_,_,z⟩:=w;exact Wg z
     ·rw[if_neg b']at o;exact o.elim
  ·rw[if_neg d']at o;exact o.elim
 ·cases fl with|ret u=>obtain⟨v,p',H',I',rv,q⟩:=w;exact⟨v,p',H',mU I',rv,q⟩|next=>obtain⟨_,_,_,z⟩:=w;exact Wg z|brk=>obtain⟨_,_,_,z⟩:=w;exact Wg z|cont=>obtain⟨_,_,_,z⟩:=w;exact Wg z
def uIf(c:î)(f g:ô):ô:=λS a=>match c (û S a)with|some (.ok k)=>if k=L then f S a else g S a|_=>U
def SL{d:ô}(p:FT a g Ν)(r:UE a y Λ)(q:UE a Ê d):UE a (.IfExp g y Ê o) (uIf Ν Λ d):=⟨λu s n w Q I⟨H,m,S,e,R,E,b⟩=>by refine vF p.h r.h q.h u s n w Q I ⟨û S e,R.envs E,?_⟩;unfold uIf at b;match h:Ν (û S e)with|none=>rw[h]at b;exact b.elim|some (.exc _)=>rw[h]at b;exact b.elim|some (.ok k)=>rw[h]at b;intro z v;obtain⟨j,f,i,_⟩:=R.grow v;cases k with|true=>exact Cw ⟨j,m,S,e,i,E.mono f (L_ m),OU.mono b f (L_ m)⟩|false=>exact Cv ⟨j,m,S,e,i,E.mono f (L_ m),OU.mono b f (L_ m)⟩⟩
def OA:Nat%0->N%0->ù->ù|i::is,d::ds,a=>OA is ds (a.set i (d%7))|_,_,a=>a
def Q0(b:Nat%0)(f:ô):cq:=λS a=>EC (f S a) λu d=>match u with|.inl (.tup ds)=>if ds.length=b.length then Z (.nx (OA b ds a) d)else U|_=>U
def ú.setAll{K:d_}{H:Hp}{m:O%0}:∀(is:Nat%0){ds:N%0}{a:V%0}{b:L2.St}{e:ù},ú K H m b e->S K H ds a->ú K H m (QT is a b) (OA is ds e)|[],_,_,_,_,E,_=>E|_::_,[],a,_,_,E,r=>by cases(show a=[]from r);exact E|i::is,d::ds,a,b,e,E,r=>by obtain⟨v,us,rfl,h,t⟩:∃v us,a=v::us/\Ü K H d v/\S K H ds us:=r;exact ú.setAll is (E.set (d:=.inl d) h) t
def OB(hc:a.calm=L)(h:ţ a u (Gc Ç))(he:UE a g Λ)(hn:(V_ u a.env).length=Ç.length:=by lk)(A:(V_ u a.env).findIdx? (·.1)=U:=by lk)(hs:aa_ [.Tuple u b o] g w.line a.env=pure D:=by lk)(hw:aba [.Tuple u b o] g a.env=pure U:=by lk)(z:(V_ [.Tuple u b o] a.env).map (·.2)=[Ye (.Tuple u b o) a.env]:=by lk):US a (.Assign [.Tuple u b o] g w) (Q0 Ç Λ):=⟨λf' s σ Hf d I⟨H,m,S,ρ,R,E,f⟩=>yL he.h (yK (j:=Ç.length) hc h hn A) hs hw z f' s σ Hf d I ⟨H,m,S,ρ,R,E,OU.bindV f λe S1 p q Q e1 o R1 j v r=>by match e,r,j with
 |.inr _,_,j=>exact j.elim|.inl (.tup ds),r,j=>
 have k:OV a p q (if ds.length=Ç.length then Z (.nx (OA Ç ds ρ) S1)else U) d:=j;by_cases n:ds.length=Ç.length;·rw[if_pos n]at k;obtain⟨i,xs,rfl,z,y⟩:=(show Ü a.K p (.tup ds) v from r).tupE;exact⟨i,xs,rfl,Ā.of (R1.up _ _ z),y.length.trans n,y.length.trans n,k _ p q Q (.refl p) (L_ q) R1 (ú.setAll Ç (E.mono e1 o) y)⟩
 ·rw[if_neg n]at k;exact k.elim|.inl .non,_,j=>exact j.elim|.inl (.bl _),_,j=>exact j.elim|.inl (.int _),_,j=>exact j.elim|.inl (.str _),_,j=>exact j.elim|.inl (.lst _),_,j=>exact j.elim|.inl (.scr _),_,j=>exact j.elim|.inl (.exn _),_,j=>exact j.elim|.inl (.obj _ _),_,j=>exact j.elim⟩⟩
def Q1(f:ô):Û:=λa=>match f [] (a.map λo=>o.map .inl)with|some (.ok (.inl d) _)=>d%3|some (.exc c _)=>c%9|_=>U
def OC(h:UE a g Λ):FE a g (Q1 Λ):=⟨λA s w H Q I⟨j,E,o⟩=>by have R:SR a.K H [] [] H:=⟨rfl,aaR,λ_ h=>(nomatch h),.refl H,λn c h=>by simp at h⟩;have EU:ú a.K H [] w (j.map λo=>o.map .inl):=⟨by rw[S_];exact E.len,λi d h=>by rw[K_]at h;cases q:j[i]? with|none=>rw[q]at h;cases h|some x=>cases x with|none=>rw[q]at h;cases h|some d0=>rw[q]at h;cases h;exact E.at' i d0 q⟩;refine h.h A s w H Q I ⟨H,[],[],_,R,EU,?_⟩;unfold Q1 at o;match e:Λ [] (j.map λo=>o.map .inl)with|none=>rw[e]at o;exact o.elim|some (.ok (.inr _) _)=>rw[e]at o;exact o.elim|some (.ok (.inl d) S1)=>rw[e]at o⊢;intro H1 m1 p k _ f v r;exact o v p (Ù.trans k f.up) (Ü.mono f.up d v r)|some (.exc c S1)=>rw[e]at o⊢;have z:XW a c H:=o;exactλb m H' m' u y x k _ f I' q=>z b m u y x (k.trans f.up) I' q⟩
def EJ{T:og}(hT:ť a.prog a.w a.K a.mg a.base T)(hr:å b a.A)(p:(T.lookup d).map (λq=>q.2.2)=Z Í)(ha:UA a (g::u) Ñ)(n:((T.lookup d).all λq=>Z7 q.1 b&&Ym j q.2.1)=L:=by lk)(hg:a.env.kindOf d=Z .globalImplicit:=by lk)(c':(d==("__debug__":Str))=D:=by lk)(he:g%8:=by lk)(a':(V6 w (j_ u a.env)).any (·.1)=D:=by lk):UE a (.Call (.Name d o) (g::u) [] w) (uOk (nq Í j Ñ)):=by cases y:T.lookup d with|none=>rw[y]at p;cases p|some q=>rw[y]at p n;cases p;rw[Xd,m_]at n;have hn:=Wx n.2;obtain⟨f,fd,ps,G,hm,b',hb⟩:=(hT.h d q y).f;refine⟨λf' s σ Hf Q I⟨H,m,S,ρ,R,E,e⟩=>mL (G.mono (Ww n.1)) hr (ı hg) hm b' hb .nil SD ha.h c' he a' f' s σ Hf Q I ⟨H,m,S,ρ,R,E,?_⟩⟩;unfold uOk nq kW at e;match i:Ñ S ρ with
 |none=>rw[i]at e;exact e.elim|some (.exc c A)=>rw[i]at e;exact e.elim|some (.ok us A)=>
 rw[i]at e;intro H1 m1 d' e1 p1 R1 vs rs;show Ž a.K q.2.2 q.2.1 (vs++[]) d' Q E0;rw[Xe];dsimp only at e;by_cases z:us.length=j
 ·rw[if_pos z]at e;refine⟨H1,m1,A,us,R1,rs,by rw[z,hn],?_⟩;match k:q.2.2 A us with|none=>rw[k]at e;exact e.elim|some (.ok h S')=>rw[k]at e;exactλv H' m' e' g o R' r=>e H' m' e' (e1.trans g) (p1.trans o) R' v r|some (.exc c S')=>rw[k]at e;exact e.elim
 ·rw[if_neg z]at e;exact e.elim
def Q3(e d:Û):ô:=λS b=>match R cf e d (û S b)with|some (.ok (.lst a))=>if ç a=L then Z (.ok (.inr S.length) (S++[.lst a]))else U|_=>U
def OD(p:FE a g A)(n:FE a y Ä):UE a (.BinOp g .Add y o) (Q3 A Ä):=⟨λq s f z Q I⟨H,m,S,h,R,E,b⟩=>by
 refine IZ p n q s f z Q I ⟨û S h,R.envs E,?_⟩;unfold Q3 at b;split at b
 · rename_i e j;rw[j];by_cases d:ç e=L;·rw[if_pos d]at b;refine⟨e,rfl,λH1 l xs r k i=>?_⟩;obtain⟨H0,u,w,v⟩:=R.grow r;exact w.newL (pC v d i) k (OU.mono b u (L_ m))
   ·rw[if_neg d]at b;exact b.elim
 ·exact b.elim⟩
def xR{g:ä}(h:Ν ζ=L%3):bt Ν Χ g ζ=Χ ζ:=by unfold bt;rw[h];rfl
def bb{p:θ->Bool}{l:θ%0}(h:l.all p=L){x:θ}(a:x∈l):p x=L:=Wu.mp h x a
end FD
variable{Β:FD.ù}{n:FD.á}{Λ:FD.ô}{Ñ:FD.ll}{Ï:FD.Uv}{É:FD.cq}{Í:FD.đ}{Ð:Nat}
namespace G
open L2 FD
def Ý(i:Nat):WA:=p9_.main.body.getD i (.Pass ⟨0,0,0,0⟩)
section
variable{X:C}{a b c o e:t_}{es:t_%0}{fa fb fc fo:Û}{ga:ë}{pos p pt apos cpos:Pos}
def OE(e:FE X a fa)(d:FE X b fb):FE X (.BinOp a .Add b pos) (R cf fa fb):=uD o_add ME e d
def OF(e:FE X a fa)(d:FE X b fb):FE X (.BinOp a .Add b pos) (R dD fa fb):=uD Nk Nl e d
def OG(e:FE X a fa)(d:FE X b fb):FE X (.BinOp a .Sub b pos) (R uo fa fb):=uD LR RH e d
def OH(e:FE X a fa)(d:FE X b fb):FE X (.BinOp a .Mult b pos) (R lj fa fb):=uD FQ MF e d
def OI(e:FE X a fa)(d:FE X b fb):FE X (.BinOp a .Mod b pos) (R kx fa fb):=uD LS RI e d
def JW(e:FE X a fa)(d:FE X b fb):FE X (.BinOp a .FloorDiv b pos) (R kG fa fb):=uD Hj MG e d
def OJ(e:FE X a fa)(d:FE X b fb):FE X (.BinOp a .Mult b pos) (R QX fa fb):=uD NJ NK e d
def OK(d:X.A.units+64<cLine)(g:FE X a fa)(f:FE X b fb)(e:Wc .Eq b=D:=by lk):FT X (.Compare a [.Eq] [b] pos) (fB (R è fa fb)):=kA (MS d) MU g f e
def OL(d:X.A.units+64<cLine)(g:FE X a fa)(f:FE X b fb)(e:Wc .NotEq b=D:=by lk):FT X (.Compare a [.NotEq] [b] pos) (fB (R İ fa fb)):=kA (MT d) MV g f e
def OM(f:FE X a fa)(e:FE X b fb)(d:Wc .Lt b=D:=by lk):FT X (.Compare a [.Lt] [b] pos) (fB (R Œ fa fb)):=kA HU HV f e d
def ON(f:FE X a fa)(e:FE X b fb)(d:Wc .Gt b=D:=by lk):FT X (.Compare a [.Gt] [b] pos) (fB (R ļ fa fb)):=kA LV (MI _) f e d
def OO(f:FE X a fa)(e:FE X b fb)(d:Wc .Is b=D:=by lk):FT X (.Compare a [.Is] [b] pos) (fB (R ė fa fb)):=kA FU MJ f e d
def JX(f:FE X a fa)(e:FE X b fb)(d:Wc .IsNot b=D:=by lk):FT X (.Compare a [.IsNot] [b] pos) (fB (R oj fa fb)):=kA yT F7 f e d
def JZ(d:X.A.units<cLine)(g:FE X a fa)(f:FE X b fb)(e:Wc .Eq b=D:=by lk):FT X (.Compare a [.Eq] [b] pos) (fB (R QR fa fb)):=kA (RM d) RN g f e
def OP(d:X.A.units+64<cLine)(g:FE X a fa)(f:FE X b fb)(e:Wc .Gt b=D:=by lk):FT X (.Compare a [.Gt] [b] pos) (fB (R gtT fa fb)):=kA (Sv d) Sw g f e
def OQ(f:FE X a fa)(e:FE X b fb)(d:Wc .In b=D:=by lk):FT X (.Compare a [.In] [b] pos) (fB (R Ų fa fb)):=kA Ur Us f e d
def Br(g:FE X a fa)(f:FE X b fb)(e:FE X c fc)(d:lastMarks [.LtE,.Lt] [b,c]=D:=by lk):FT X (.Compare a [.LtE,.Lt] [b,c] pos) (fB (kB ĩ Œ fa fb fc)):=DM Ny Nz HU HV g f e d
def OR(d:X.A.units+64<cLine)(g:FE X a fa)(f:FE X b fb)(e:Wc .Eq b=D:=by lk):FE X (.Compare a [.Eq] [b] pos) (R è fa fb):=lT (MS d) MU g f e
def OS(f:FE X a fa)(e:FE X b fb)(d:Wc .Lt b=D:=by lk):FE X (.Compare a [.Lt] [b] pos) (R Œ fa fb):=lT HU HV f e d
def OT(f:FE X a fa)(e:FE X b fb)(d:Wc .LtE b=D:=by lk):FE X (.Compare a [.LtE] [b] pos) (R ĩ fa fb):=lT Ny Nz f e d
def OW(f:FE X a fa)(e:FE X b fb)(d:Wc .Gt b=D:=by lk):FE X (.Compare a [.Gt] [b] pos) (R ļ fa fb):=lT LV (MI _) f e d
def OX(f:FE X a fa)(e:FE X b fb)(d:Wc .Is b=D:=by lk):FE X (.Compare a [.Is] [b] pos) (R ė fa fb):=lT FU MJ f e d
def J0(f:FE X a fa)(e:FE X b fb)(d:Wc .IsNot b=D:=by lk):FE X (.Compare a [.IsNot] [b] pos) (R oj fa fb):=lT yT F7 f e d
def OY(f:FE X a fa)(e:FE X b fb)(d:Wc .In b=D:=by lk):FE X (.Compare a [.In] [b] pos) (R Ų fa fb):=lT Ur Us f e d
def Bs(f:FE X a fa)(e:FE X b fb)(d:Wc .NotIn b=D:=by lk):FE X (.Compare a [.NotIn] [b] pos) (R vN fa fb):=lT HI HJ f e d
def OZ(h:X.mg "isinstance"=U)(g:X.mg "int"=U)(j:FE X a fa)(i:X.env.kindOf (b_ "isinstance")=Z .globalImplicit:=by lk)(f:X.env.kindOf (b_ "int")=Z .globalImplicit:=by lk)(d:j_ [a,.Name (b_ "int") pt] X.env=(D,eval a X.env)::j_ [.Name (b_ "int") pt] X.env:=by lk)(b:j_ [.Name (b_ "int") pt] X.env=(D,eval (.Name (b_ "int") pt) X.env)::j_ [] X.env:=by lk)(e:(V6 pos (j_ [.Name (b_ "int") pt] X.env)).any (·.1)=D:=by lk):FE X (.Call (.Name "isinstance" p) [a,.Name (b_ "int") pt] [] pos) (f1 (jo mX) fa):=vP (T:="int") Iq Nu (by decide+kernel) (by lk) i h f g j d b e
def O0(h:X.mg "isinstance"=U)(g:X.mg "str"=U)(j:FE X a fa)(i:X.env.kindOf (b_ "isinstance")=Z .globalImplicit:=by lk)(f:X.env.kindOf (b_ "str")=Z .globalImplicit:=by lk)(d:j_ [a,.Name (b_ "str") pt] X.env=(D,eval a X.env)::j_ [.Name (b_ "str") pt] X.env:=by lk)(b:j_ [.Name (b_ "str") pt] X.env=(D,eval (.Name (b_ "str") pt) X.env)::j_ [] X.env:=by lk)(e:(V6 pos (j_ [.Name (b_ "str") pt] X.env)).any (·.1)=D:=by lk):FE X (.Call (.Name "isinstance" p) [a,.Name (b_ "str") pt] [] pos) (f1 (jo sh) fa):=vP (T:="str") HN MP (by decide+kernel) (by lk) i h f g j d b e
def EK(h:X.mg "isinstance"=U)(g:X.mg "tuple"=U)(j:FE X a fa)(i:X.env.kindOf (b_ "isinstance")=Z .globalImplicit:=by lk)(f:X.env.kindOf (b_ "tuple")=Z .globalImplicit:=by lk)(d:j_ [a,.Name (b_ "tuple") pt] X.env=(D,eval a X.env)::j_ [.Name (b_ "tuple") pt] X.env:=by lk)(b:j_ [.Name (b_ "tuple") pt] X.env=(D,eval (.Name (b_ "tuple") pt) X.env)::j_ [] X.env:=by lk)(e:(V6 pos (j_ [.Name (b_ "tuple") pt] X.env)).any (·.1)=D:=by lk):FE X (.Call (.Name "isinstance" p) [a,.Name (b_ "tuple") pt] [] pos) (f1 (jo uH) fa):=vP (T:="tuple") HP Dt (by decide+kernel) (by lk) i h f g j d b e
def Ka(h:X.mg "isinstance"=U)(g:X.mg "bool"=U)(j:FE X a fa)(i:X.env.kindOf (b_ "isinstance")=Z .globalImplicit:=by lk)(f:X.env.kindOf (b_ "bool")=Z .globalImplicit:=by lk)(d:j_ [a,.Name (b_ "bool") pt] X.env=(D,eval a X.env)::j_ [.Name (b_ "bool") pt] X.env:=by lk)(b:j_ [.Name (b_ "bool") pt] X.env=(D,eval (.Name (b_ "bool") pt) X.env)::j_ [] X.env:=by lk)(e:(V6 pos (j_ [.Name (b_ "bool") pt] X.env)).any (·.1)=D:=by lk):FE X (.Call (.Name "isinstance" p) [a,.Name (b_ "bool") pt] [] pos) (f1 (jo fD) fa):=vP (T:="bool") Dr HS (by decide+kernel) (by lk) i h f g j d b e
def qv(a:FE X o fo)(b:FA X (e::es) ga)(h:P' X o "startswith" e es apos cpos:=by exact⟨by lk,by lk,by lk,by lk,by lk⟩):FE X (.Call (.Attribute o "startswith" apos) (e::es) [] cpos) (fM (si Wn) fo ga):=sX PySem.F.slot_str_startswith PySem.F.type_str_startswith RK F9 a b h
def uU(a:FE X o fo)(b:FA X (e::es) ga)(h:P' X o "endswith" e es apos cpos:=by exact⟨by lk,by lk,by lk,by lk,by lk⟩):FE X (.Call (.Attribute o "endswith" apos) (e::es) [] cpos) (fM (si aav) fo ga):=sX PySem.F.slot_str_endswith PySem.F.type_str_endswith RL F9 a b h
def EM(a:FE X o fo)(b:FA X (e::es) ga)(h:P' X o "split" e es apos cpos:=by exact⟨by lk,by lk,by lk,by lk,by lk⟩):FE X (.Call (.Attribute o "split" apos) (e::es) [] cpos) (fM (je) fo ga):=sX Zw PySem.F.type_str_split Du HW a b h
def Kb(a:FE X o fo)(b:FA X (e::es) ga)(h:P' X o "join" e es apos cpos:=by exact⟨by lk,by lk,by lk,by lk,by lk⟩):FE X (.Call (.Attribute o "join" apos) (e::es) [] cpos) (fM (Dw) fo ga):=sX PySem.F.slot_str_join PySem.F.type_str_join HX MX a b h
def tq(a:FE X o fo)(b:FA X (e::es) ga)(h:P' X o "partition" e es apos cpos:=by exact⟨by lk,by lk,by lk,by lk,by lk⟩):FE X (.Call (.Attribute o "partition" apos) (e::es) [] cpos) (fM (qe) fo ga):=sX abm PySem.F.type_str_partition HY MZ a b h
def EN(a:FE X o fo)(b:FA X (e::es) ga)(h:P' X o "strip" e es apos cpos:=by exact⟨by lk,by lk,by lk,by lk,by lk⟩):FE X (.Call (.Attribute o "strip" apos) (e::es) [] cpos) (fM (mV) fo ga):=sX PySem.F.slot_str_strip PySem.F.type_str_strip DO Ie a b h
def EO(a:FE X o fo)(b:FA X (e::es) ga)(h:P' X o "rfind" e es apos cpos:=by exact⟨by lk,by lk,by lk,by lk,by lk⟩):FE X (.Call (.Attribute o "rfind" apos) (e::es) [] cpos) (fM (QQ ad8) fo ga):=sX PySem.F.slot_str_rfind PySem.F.type_str_rfind Ds MO a b h
def O1(a:FE X o fo)(b:FA X (e::es) ga)(h:P' X o "index" e es apos cpos:=by exact⟨by lk,by lk,by lk,by lk,by lk⟩):FE X (.Call (.Attribute o "index" apos) (e::es) [] cpos) (fM Nm fo ga):=sX PySem.F.slot_str_index PySem.F.type_str_index Nn RW a b h
def dN{x:Str}(h:FE X (.Name x p) fa):FE X (.Name x p) fa:=h
def dC{k:Const}{n:Nat}(h:FE X (.Constant k n p) fa):FE X (.Constant k n p) fa:=h
def dA(h:FA X es ga):FA X es ga:=h
def dK{x:Str}{a:Xu%0}(h:FE X (.Call (.Name x p) es a pos) fa):FE X (.Call (.Name x p) es a pos) fa:=h
def dM{x:Str}{a:Xu%0}(h:FE X (.Call (.Attribute o x p) es a pos) fa):FE X (.Call (.Attribute o x p) es a pos) fa:=h
def dB{d:Operator}(h:FE X (.BinOp a d b pos) fa):FE X (.BinOp a d b pos) fa:=h
def dQ{b:adz%0}(h:FE X (.Compare a b es pos) fa):FE X (.Compare a b es pos) fa:=h
def dT{fb:î}(h:FT X a fb):FT X a fb:=h
def dW{fb:î}(h:FW X a fb):FW X a fb:=h
def dE(h:FE X a fa):FE X a fa:=h
def dSs{a:WA%0}{f:ä}(h:Ħ X a f):Ħ X a f:=h
def dS{a:WA}{f:ä}(h:FS X a f):FS X a f:=h
end
set_option hygiene false
local macro_rules|`(tactic|walk_at$y:str)=>do
 let A:=fun(c:Char)=>match c.toNat with|63=>`(?_)|108=>`(by lk)|114=>`(by room)|107=>`(by kernel_rfl!)|97=>`(by assumption)|100=>`(#v[])|67=>`(rfl)|103=>`(by with_unfolding_all(first|assumption|exact Ă.of (by assumption)|exact IX (by assumption)))|106=>`(qj)|101=>`(by decide+kernel)|_=>`(_)
 let B:=fun(f:Char->Lean.MacroM Lean.Term)(u:List String)=>do
  let a<-(u.getD 1 "").toList.toArray.mapM f
  pure (Lean.Syntax.mkApp (Lean.mkIdent (u.getD 0 "").toName) a)
 let C:=fun(c:Char)=>do
  match ("m ı l|v! ē.xtV a|h! ē.xtO a_d|n! CA.c adC|c F3 ??|o Ml ??|x! ē.xc a_d|V lF llll|s! CA.j a|q! ē.exJ a|A! CA.xk a|B jk l".splitOn "|").find? (fun s=>s.front==c) with
  |none=>A c
  |some s=>
   let u:=s.splitOn " "
   let e<-B A u.tail
   if (u.getD 0 "").length==2 then `(by with_unfolding_all exact $e) else pure e
 let l:=y.getString.splitOn "|"
 if l.length==1 then
  let a<-("dN|Rz _lk|RA _lk|Sl rk|Sm rk;dC|Mf|Mh|RB|Mg;dA|zm|uF ??;dK|Eh rrk?|AR rrkl?|AS rgk?|Ap ?lm?m??|ML m??|Dx m??|D8 m??|IE m??|MM lm??|NM lm??|Nw lm??|Nx lm??|OZ ???|O0 ???|EK ???|Ka ???|Nd vjelm?m??|Nc hnmlm??;dM|qv ??|uU ??|EM ??|Kb ??|tq ??|EN ??|EO ??|O1 ??|DK ??|Dz ??|Bj rrkl?;dB|OE ??|OF ??|OG ??|OH ??|OI ??|JW ??|OJ ??;dQ|OR ???|OS ??|OT ??|OW ??|OX ??|J0 ??|OY ??|Bs ??;dT|OK ???|OL ???|OM ??|ON ??|OO ??|JX ??|JZ ???|OP ???|OQ ??|Br ???|FW.ft c|FW.ft o|Mm ?|Mi ?;dW|F3 ??|Ml ??|Hy ?|Mj ?;dE|NY ??|Mt ?|Ms ?|Mn ?|Mp ??|RC ??|Mq ?|MH ?|RD ???|MK ???|Ig ???|Sn ???|Sr ???|Jr r?|OC ?;dSs|Hz|Bf ???|zn ?|Ek ??|Dh ??;dS|F4 ?|RF ???|HB ?|Sq ???k|IR ?|M6 l??|IT ???|El ???|DE _xlnllm?;|HK|HL ?|Ei|Ej ?|~a|zp m??|zq m??|Mx ?|DC m??|IC m??|FI.toG ?|Jk ???|Ji ?|Jl ???|Jm ???|Bg rrk??|Bh rrrk|Jp ??|SA ?|Em ?|M4|Im|Io ?|DT ??|Nq ?|Np ???|R6 l???|IV ?V|D7 lV??|IS ?|IU ???;+|~b|MA.no al|å.units a|Ă.units a|å.units0 a|PassesOwn.never|PassesOwn.leaving;|JD|JE ?|ED ??|JQ ?|JF ?|Ou ?|SH ???|EI ???|Vw m??|JR r??|Ov ?|Jt ?|JO V|JP r?|On|Jv ??|Bq rrkl?|EG rrkl??|EF rrkl?|EH rrl?|Op ??|Os ?|Oo ?|Oz ???|Ju ?|JV ___lllmsqABlll??|OB l??|SL ???|OD ??|EJ rrk?|~c".splitOn ";").toArray.mapM fun t=>do
   let w:=Lean.Syntax.mkStrLit t
   let w<-`(tactic|walk_at$w:str)
   match (t.splitOn "|").getD 0 "" with
   |"+"=>pure w|""=>`(tactic|with_reducible $w:tactic)
   |d=>
    let d:=Lean.mkIdent d.toName
    `(tactic|with_reducible((fail_if_success(fail_if_success refine $d ?_));$w:tactic))
  `(tactic|(first $[|$a:tactic]*)<;>walk_at"x")
 else
  let a<-l.tail.toArray.mapM fun s=>match s with
   |"~a"=>`(tactic|intro _ _ _ _)|"~b"=>`(tactic|assumption)|"~c"=>`(tactic|intro _ _)
   |_=>do
   let e<-B C (s.splitOn " ")
   `(tactic|refine $e)
  `(tactic|first $[|$a:tactic]*)
set_option hygiene true
local macro_rules|`(tactic|fin2)=>`(tactic|(intros;(conv=>arg 2;whnf);walk_at"x"))
def CC:IQ:=[cN "ValueError",cN "all",cN "any",cN "bool",cN "enumerate",cN "int",cN "isinstance",cN "len",cN "max",cN "min",cN "range",cN "set",cN "sorted",cN "str",cN "tuple",cN "zip",cI "ASK_HOUSE" 1,cI "ASK_ORIGIN" 3,cI "ASK_PARTS" 4,cI "ASK_PATH" 2,cI "ASK_SAFE" 0,cS "FIGURES" "0123456789",cI "GIVEN_HOUSE" 2,cI "GIVEN_LASTS" 5,cI "GIVEN_NAME" 0,cI "GIVEN_PARTS" 8,cI "GIVEN_PATH" 3,cI "GIVEN_REACH" 7,cI "GIVEN_SAFE" 6,cI "GIVEN_UNTIL" 4,cI "GIVEN_WORTH" 1,cS "LABEL_SIGNS" "abcdefghijklmnopqrstuvwxyz0123456789-",cI "LAST_MOMENT" 9999,cI "LONGEST_LABEL" 8,cI "LONGEST_NOTE_NAME" 10,cI "LONGEST_PATH" 20,cI "LONGEST_WORTH" 12,cI "MOST_FIGURES" 4,cI "MOST_LABELS" 5,cI "MOST_NOTES" 20,cI "MOST_RULES" 8,cI "NOTE_ENDS" 5,cI "NOTE_EXACT" 3,cI "NOTE_HOUSE" 2,cI "NOTE_MADE" 8,cI "NOTE_NAME" 0,cS "NOTE_NAME_SIGNS" "abcdefghijklmnopqrstuvwxyzABCDEFGHIJKLMNOPQRSTUVWXYZ0123456789-_",cI "NOTE_PARTS" 10,cI "NOTE_PATH" 4,cI "NOTE_REACH" 7,cI "NOTE_SAFE" 6,cI "NOTE_USED" 9,cI "NOTE_WORTH" 1,cS "NO_WORTH_SIGNS" ";,=",cS "PATH_SIGNS" "abcdefghijklmnopqrstuvwxyz0123456789-_./"]
section
variable{P:n_}{w:y_}{K:d_}{mg:Str->B%1}{base h:O_}{f:O}{cls:Nat->O}{CJ:O}{C:O}(ck:CK K 1 C)(XI:K.In h)(Gn:h.Ns E_ mg)(M:MA mg CC)(xa:ē K [0,1,2,3,4,5,6,8] cls CJ)(ca:CA K mg cls CJ [0,1,2,3,4,5,6,8] 9)
include XI Gn M xa ca ck
def TO0:Lp:=[]
def TV0:og:=[]
def TW0:og:=[]
def T0:cg:=[]
def TE0:cg:=[]
def TM0:cg:=[]
def iT:ä:=(aR (f1 (oa 1 1) (Y 0)))
def iU:ß:=fX 1 iT
def TO1:Lp:=("notes",1,0,iU)::TO0
theorem qw(A:Am K C "Desk.notes" "notes" (bL (Ý 122) 1) f)(a:K' P w K mg base 1 C TO0):K' P w K mg base 1 C TO1:=wz (Bk ck ["self"] ["self"] iT A aK (by delta iT;fin2)) a
def gc:ä:=(aR (cT (bp (é fw (aw (f1 (oa 1 2) (Y 0)))) (é fw (aw (f1 (oa 1 3) (Y 0)))))))
def gf:ß:=fX 1 gc
def TO2:Lp:=("steps",1,0,gf)::TO1
theorem qz(A:Am K C "Desk.steps" "steps" (bL (Ý 122) 11) f)(a:K' P w K mg base 1 C TO1):K' P w K mg base 1 C TO2:=wz (Bk ck ["self"] ["self"] gc A aK (by delta gc;fin2)) a
def gB:ä:=(aQ (bt (fB (R QR (Y 0) (eU dP))) (aR (R lj (X 7) (Y 1))) ó) (aR (R cf (R Ö (Y 0) (R kx (Y 1) (é fw (aw (Y 0))))) (R lj (X 6553) (R kG (Y 1) (é fw (aw (Y 0))))))))
def dU:ß:=bM 2 gB
def T1:cg:=("_law_cell",1,["_law_script","_law_k"],dU)::T0
theorem tu(A:Af K "_law_cell" (Ý 124) f)(t:T0%4):T1%4:=aD (aU XI Gn ["_law_script","_law_k"] ["_law_script","_law_k"] gB A aK (by delta gB;fin2)) t
def ez:ä:=(aQ (cx 3 (R kx (R cf (R lj (R kx (ag dU 2 (bp (Y 0) (Y 1))) (X 2147483563)) (X 69069)) (R lj (X 104723) (R cf (Y 1) (X 1)))) (X 2147483563))) (aQ (cx 3 (R kx (R cf (R lj (Y 3) (Y 3)) (R kG (Y 3) (X 3))) (X 2147483399))) (aR (R kx (R kG (R kx (R cf (R lj (Y 3) (Y 3)) (R kG (Y 3) (X 7))) (X 2147483647)) (X 11)) (Y 2)))))
def ae:ß:=bM 4 ez
def T2:cg:=("_law_drawn",2,["_law_script","_law_k","_law_many"],ae)::T1
theorem qA(A:Af K "_law_drawn" (Ý 125) f)(t:T1%4):T2%4:=aD (aU XI Gn ["_law_script","_law_k","_law_many","_law_cell_here"] ["_law_script","_law_k","_law_many"] ez A aK (by delta ez;fin2)) t
def kj:ä:=(aQ (cx 2 (eU (aO (Ø "a.b") (aO (Ø "b") (uE (Ø "x.a.b") (Ø "y.x.a.b") (Ø "c.uk") (Ø "uk") (Ø "d.c.uk") (Ø "e.d.c.uk")))))) (aQ (cx 2 (R cf (Y 2) (eU (uE (Ø "w.ck") (Ø "v.w.ck") (Ø "ck") (Ø "g-1.a.b") (Ø "7.b") (Ø "p.q"))))) (aR (R Ö (Y 2) (ag ae 3 (bS (Y 0) (Y 1) (é fw (aw (Y 2)))))))))
def aY:ß:=bM 3 kj
def T3:cg:=("_law_name",3,["_law_script","_law_at"],aY)::T2
theorem tz(A:Af K "_law_name" (Ý 126) f)(t:T2%4):T3%4:=aD (aU XI Gn ["_law_script","_law_at","_law_some"] ["_law_script","_law_at"] kj A aK (by delta kj;fin2)) t
def kl:ä:=(aQ (cx 2 (eU (aO (Ø "/") (aO (Ø "/x") (aO (Ø "/x/") (uE (Ø "/x/y") (Ø "/xy") (Ø "/x/y/z.q") (Ø "//") (Ø "/-_.9") (Ø "/x/y/"))))))) (aR (R Ö (Y 2) (ag ae 3 (bS (Y 0) (Y 1) (é fw (aw (Y 2))))))))
def cB:ß:=bM 3 kl
def T4:cg:=("_law_path",3,["_law_script","_law_at"],cB)::T3
theorem tE(A:Af K "_law_path" (Ý 128) f)(t:T3%4):T4%4:=aD (aU XI Gn ["_law_script","_law_at","_law_some"] ["_law_script","_law_at"] kl A aK (by delta kl;fin2)) t
def iB:ä:=(aQ (cx 2 (R Ö (eU (bS (fC .non) (ag aY 2 (bp (Y 0) (R cf (Y 1) (X 3)))) (ag aY 2 (bp (Y 0) (R cf (Y 1) (X 3)))))) (ag ae 3 (bS (Y 0) (R cf (Y 1) (X 2)) (X 3))))) (aR (cT (mS (R è (ag ae 3 (bS (Y 0) (Y 1) (X 2))) (X 0)) (ag aY 2 (bp (Y 0) (R cf (Y 1) (X 1)))) (ag cB 2 (bp (Y 0) (R cf (Y 1) (X 4)))) (Y 2)))))
def jR:ß:=bM 3 iB
def T5:cg:=("_law_ask",4,["_law_script","_law_at"],jR)::T4
theorem uV(A:Af K "_law_ask" (Ý 129) f)(t:T4%4):T5%4:=aD (aU XI Gn ["_law_script","_law_at","_law_origin"] ["_law_script","_law_at"] iB A aK (by delta iB;fin2)) t
def gZ:ä:=(aQ (cx 3 (R Ö (eU (aO (Ø "n") (uE (Ø "safe-a") (Ø "own-b") (Ø "N_2") (Ø "m-1") (Ø "safe-") (Ø "n")))) (ag ae 3 (bS (Y 0) (Y 1) (X 7))))) (aQ (cx 4 (R Ö (eU (mo (Ø "5") (Ø "") (Ø "a!b~") (Ø "x/y?z") (Ø "123456789012"))) (ag ae 3 (bS (Y 0) (R cf (Y 1) (X 1)) (X 5))))) (zV 5 (mo (fC .non) (fC .non) (Y 2) (R Ö (fM (je) (Y 2) (aw (Ø "."))) (f1 HH (X 1))) (ag aY 2 (bp (Y 0) (R cf (Y 1) (X 3))))) (gk (DS (ĥ (fB (R Ų (Ø ".") (Y 2))) (uq (Y 2) (eP (R cf (fM Nm (Y 2) (aw (Ø "."))) (X 1))) gp) (Y 2))) (gk (gW 6 (R Ö (eU (bS (fC .non) (Ø "/") (ag cB 2 (bp (Y 0) (R cf (Y 1) (X 5)))))) (ag ae 3 (bS (Y 0) (R cf (Y 1) (X 4)) (X 3))))) (gk (gW 7 (R Ö (eU (bS (fC .non) (fC .non) (ag ae 3 (bS (Y 0) (R cf (Y 1) (X 7)) (X 60))))) (ag ae 3 (bS (Y 0) (R cf (Y 1) (X 6)) (X 3))))) (gk (gW 8 (R Ö (eU (bS (fC .non) (fC .non) (ag ae 3 (bS (Y 0) (R cf (Y 1) (X 9)) (X 30))))) (ag ae 3 (bS (Y 0) (R cf (Y 1) (X 8)) (X 3))))) (gk (gW 9 (R Ö (eU (bp (Ø "any") (Ø "near"))) (ag ae 3 (bS (Y 0) (R cf (Y 1) (X 11)) (X 2))))) (gk (gW 10 (R è (ag ae 3 (bS (Y 0) (R cf (Y 1) (X 10)) (X 2))) (X 0))) (zT 5 (cT (aO (Y 3) (aO (Y 4) (uE (R Ö (Y 5) (ag ae 3 (bS (Y 0) (R cf (Y 1) (X 2)) (X 6)))) (Y 6) (Y 7) (Y 8) (Y 10) (Y 9)))))))))))))))
def fR:ß:=bM 11 gZ
def T6:cg:=("_law_given",4,["_law_script","_law_at","_law_house"],fR)::T5
theorem qB(A:Af K "_law_given" (Ý 131) f)(t:T5%4):T6%4:=aD (aU XI Gn ["_law_script","_law_at","_law_house","_law_name_here","_law_worth","_law_some","_law_path_here","_law_until","_law_lasts","_law_reach","_law_safe"] ["_law_script","_law_at","_law_house"] gZ A aK (by delta gZ;fin2)) t
def bN:kK:=(gk (gW 6 (R dD (R dD (Y 1) (X 1)) (R lj (X 14) (Y 5)))) (gk (gW 4 (R dD (Y 4) (ag ae 3 (bS (Y 0) (Y 6) (X 4))))) (gk (gW 7 (R Ö (eU (mS (Ø "n") (Ø "m-1") (Ø "safe-a") (Ø "N_2"))) (ag ae 3 (bS (Y 0) (R dD (Y 6) (X 1)) (X 4))))) (gk (gW 8 (R Ö (eU (bS (Ø "5") (Ø "") (Ø "a!b~"))) (ag ae 3 (bS (Y 0) (R dD (Y 6) (X 2)) (X 3))))) (gk (gW 9 (R Ö (eU (bp (fC .non) (ag ae 3 (bS (Y 0) (R dD (Y 6) (X 7)) (X 60))))) (ag ae 3 (bS (Y 0) (R dD (Y 6) (X 6)) (X 2))))) (gk (gW 10 (R è (ag ae 3 (bS (Y 0) (R dD (Y 6) (X 4)) (X 2))) (X 0))) (gk (gW 11 (cT (mo (Y 7) (Y 8) (ag aY 2 (bp (Y 0) (R dD (Y 6) (X 3)))) (Y 10) (ag cB 2 (bp (Y 0) (R dD (Y 6) (X 5))))))) (gk (gW 12 (R Ö (eU (bS (Ø "any") (Ø "any") (Ø "near"))) (ag ae 3 (bS (Y 0) (R dD (Y 6) (X 9)) (X 3))))) (gk (gW 13 (R è (ag ae 3 (bS (Y 0) (R dD (Y 6) (X 8)) (X 2))) (X 0))) (gk (gW 14 (R dD (Y 4) (ag ae 3 (bS (Y 0) (R dD (Y 6) (X 10)) (X 5))))) (gk (gW 15 (R dD (Y 11) (cT (mo (Y 9) (Y 13) (Y 12) (Y 4) (Y 14))))) (Il 3 (fB (R è (dv [("_law_note",15)] (gm (Y 3)) (Z (fB (R è (cT (bS (R Ö (Y 0) (X 0)) (R Ö (Y 0) (X 2)) (R Ö (Y 0) (X 4)))) (cT (bS (R Ö (Y 1) (X 0)) (R Ö (Y 1) (X 2)) (R Ö (Y 1) (X 4))))))) (Y 0)) (eU dP))) (DS (Y 15)) Li))))))))))))
def lG:ä:=(zV 3 dP (gk (gW 4 (X 0)) (gk (zW 5 [5,6,7,8,9,10,11,12,13,14,15] (λa=>Þ ((aw (ag ae 3 (bS (Y 0) (Y 1) (R dD (Y 2) (X 1))))) a) yq) bN) (zT 3 (é gq (aw (Y 3)))))))
def jS:ß:=bM 16 lG
def T7:cg:=("_law_jar",4,["_law_script","_law_at","_law_many"],jS)::T6
theorem uW(A:Af K "_law_jar" (Ý 130) f)(t:T6%4):T7%4:=aD (aU XI Gn ["_law_script","_law_at","_law_many","_law_found","_law_now","_law_k","_law_here","_law_name_here","_law_worth","_law_ends","_law_exact","_law_head","_law_reach","_law_safe","_law_late","_law_note"] ["_law_script","_law_at","_law_many"] lG A aK (by delta lG bN;fin2)) t
def jt:ä:=(aQ (bt (cw (fB (f1 (jo sh) (Y 0)))) (aR (fC (.bl D))) ó) (aQ (bt (Č (fB (R Œ (é fw (aw (Y 0))) (Y 2))) (fB (R ļ (é fw (aw (Y 0))) (Y 3)))) (aR (fC (.bl D))) ó) (aR (é qc (aw (dv [("signs",1)] (gm (Y 0)) U (R Ų (Y 0) (Y 1))))))))
def eC:ß:=bM 4 jt
def T8:cg:=("is_text_of",1,["thing","signs","least","most"],eC)::T7
theorem qC(A:Af K "is_text_of" (Ý 12) f)(t:T7%4):T8%4:=aD (aU XI Gn ["thing","signs","least","most"] ["thing","signs","least","most"] jt A aK (by delta jt;fin2)) t
def lH:ä:=(aQ (bt (cw (fB (ag eC 4 (mS (Y 0) (Ø "abcdefghijklmnopqrstuvwxyz0123456789-") (X 1) (X 8))))) (aR (fC (.bl D))) ó) (aR (li (QN (fM (si Wn) (Y 0) (aw (Ø "-")))) (QN (fM (si aav) (Y 0) (aw (Ø "-")))))))
def pE:ß:=bM 1 lH
def T9:cg:=("is_label",2,["thing"],pE)::T8
theorem uX(A:Af K "is_label" (Ý 21) f)(t:T8%4):T9%4:=aD (aU XI Gn ["thing"] ["thing"] lH A aK (by delta lH;fin2)) t
def nu:ä:=(aQ (bt (cw (fB (f1 (jo sh) (Y 0)))) (aR (fC (.bl D))) ó) (aQ (cx 1 (fM (je) (Y 0) (aw (Ø ".")))) (aQ (bt (Č (fB (R ļ (é fw (aw (Y 1))) (X 5))) (cw (fB (é qc (aw (dv [] (gm (Y 1)) U (ag pE 1 (aw (Y 0))))))))) (aR (fC (.bl D))) ó) (aR (QN (ag eC 4 (mS (R Ö (Y 1) (f1 HH (X 1))) (Ø "0123456789") (X 1) (X 8))))))))
def bi:ß:=bM 2 nu
def T10:cg:=("is_name",3,["thing"],bi)::T9
theorem xS(A:Af K "is_name" (Ý 22) f)(t:T9%4):T10%4:=aD (aU XI Gn ["thing","parts"] ["thing"] nu A aK (by delta nu;fin2)) t
def nv:ä:=(aQ (bt (cw (fB (f1 (jo sh) (Y 0)))) (aR (fC (.bl D))) ó) (aQ (bt (fB (fM (si Wn) (Y 0) (aw (Ø "*.")))) (aR (ag bi 1 (aw (uq (Y 0) (eP (X 2)) gp)))) ó) (aQ (bt (fB (fM (si Wn) (Y 0) (aw (Ø "!")))) (aR (li (R Ų (Ø ".") (Y 0)) (ag bi 1 (aw (uq (Y 0) (eP (X 1)) gp))))) ó) (aR (ag bi 1 (aw (Y 0)))))))
def tG:ß:=bM 1 nv
def T11:cg:=("is_rule",4,["thing"],tG)::T10
theorem xT(A:Af K "is_rule" (Ý 23) f)(t:T10%4):T11%4:=aD (aU XI Gn ["thing"] ["thing"] nv A aK (by delta nv;fin2)) t
def lI:ä:=(aQ (bt (Č (cw (fB (f1 (jo uH) (Y 0)))) (fB (R ļ (é fw (aw (Y 0))) (X 8)))) (aR (fC (.bl D))) ó) (aQ (bt (cw (fB (é qc (aw (dv [] (gm (Y 0)) U (ag tG 1 (aw (Y 0)))))))) (aR (fC (.bl D))) ó) (aR (é qc (aw (dv [("thing",0)] (λa=>Þ ((bp (X 1) (é fw (aw (Y 0)))) a) Cy) U (R Œ (R Ö (Y 1) (R uo (Y 0) (X 1))) (R Ö (Y 1) (Y 0)))))))))
def bU:ß:=bM 1 lI
def T12:cg:=("is_table",5,["thing"],bU)::T11
theorem uY(A:Af K "is_table" (Ý 24) f)(t:T11%4):T12%4:=aD (aU XI Gn ["thing"] ["thing"] lI A aK (by delta lI;fin2)) t
def eY:ä:=(bt (cw (fB (ag bU 1 (aw (Y 0))))) (eW 1 (Ø "this is no table")) ó)
def aT:ß:=fX 1 eY
def TE1:cg:=("need_table",6,["thing"],aT)::TE0
theorem qE(A:Af K "need_table" (Ý 26) f)(t:T12%4)(a:TE0%5):TE1%5:=bz (cj XI Gn ["thing"] ["thing"] eY A aK (by delta eY;fin2)) a
def cK:cq:=(dJ (qt (aJ (aC aT 1 (aw (Y 1))))) (dJ (yt 1 0 (fE 0) (aJ (Y 1))) (dJ (yt 1 1 (fE 0) (aJ (cT dP))) (dJ (yt 1 2 (fE 0) (Bm gA)) (yt 1 3 (fE 0) (Bm gA))))))
def cL:đ:=mB 2 cK
theorem lJ(A:∃b,ł K "__init__" "Desk.__init__" (bL (Ý 122) 0) f b)(a:Mk K C f)(d:TE1%5):Ox P w K mg base 1 C 7 1 cL:=JN XI Gn ck a ["self","table"] ["self","table"] cK A aK (by delta cK;fin2)
def gC:ä:=(aQ (cx 1 (eU (bS (f1 (L' (λc=>if([0,1,2,3,4,5,6,8]:Nat%0).contains c then Z (c==1)else U)) (Y 0)) (f1 (L' (λc=>if([0,1,2,3,4,5,6,8]:Nat%0).contains c then Z (c==5)else U)) (Y 0)) (f1 (L' (λc=>if([0,1,2,3,4,5,6,8]:Nat%0).contains c then Z (c==3)else U)) (Y 0))))) (aQ (cx 1 (R cf (Y 1) (eU (bS (f1 (L' (λc=>if([0,1,2,3,4,5,6,8]:Nat%0).contains c then Z (c==4)else U)) (Y 0)) (f1 (L' (λc=>if([0,1,2,3,4,5,6,8]:Nat%0).contains c then Z (c==0)else U)) (Y 0)) (f1 (L' (λc=>if([0,1,2,3,4,5,6,8]:Nat%0).contains c then Z (c==6)else U)) (Y 0)))))) (aQ (cx 1 (R cf (Y 1) (eU (aw (f1 (L' (λc=>if([0,1,2,3,4,5,6,8]:Nat%0).contains c then Z (c==8)else U)) (Y 0)))))) (aQ (bt (Č (fB (R İ (fML RU (Y 1) (aw (fC (.bl L)))) (X 1))) (cw (fB (f1 (L' (λc=>if([0,1,2,3,4,5,6,8]:Nat%0).contains c then Z L else U)) (Y 0))))) (aR (cT (bp (Ø "refused") (f1 HH (X 1))))) ó) (aR (cT (bp (Ø "refused") (fML QS (Y 1) (aw (fC (.bl L)))))))))))
def bj:ß:=bM 2 gC
def TM1:cg:=("_law_refused",1,["_law_e"],bj)::TM0
theorem ny(A:Af K "_law_refused" (Ý 134) f)(a:G' P w K mg base TM0):G' P w K mg base TM1:=Eg (IW XI Gn ["_law_e","_law_flags"] ["_law_e"] gC A aK (by delta gC;fin2)) a
def ju:cq:=(iN (Bp 1 cL 1 (bq (fE 0) gA)))
def gD:cq:=(oq 9 1 2 ju (ag bj 1 (aw (Y 1))))
def gE:đ:=mB 2 gD
def TW1:og:=("_law_new",10,1,gE)::TW0
theorem tH(A:Af K "_law_new" (Ý 136) f)(b:G' P w K mg base TM1)(a:ť P w K mg base TW0)(d:Ox P w K mg base 1 C 7 1 cL):ť P w K mg base TW1:=qu (uT XI Gn ["_law_table_here","_law_e"] ["_law_table_here"] gD A aK (by delta gD ju;fin2)) a
def hU:ä:=(aR (é gq (aw (dv [("_law_now",1)] (gm (Y 0)) (Z (Č (fB (R ė (R Ö (Y 0) (X 5)) (fC .non))) (fB (R ļ (R Ö (Y 0) (X 5)) (Y 1))))) (Y 0)))))
def hZ:ß:=bM 2 hU
def T13:cg:=("_law_swept",1,["_law_jar_here","_law_now"],hZ)::T12
theorem qF(A:Af K "_law_swept" (Ý 133) f)(t:T12%4):T13%4:=aD (aU XI Gn ["_law_jar_here","_law_now"] ["_law_jar_here","_law_now"] hU A aK (by delta hU;fin2)) t
def iV:ä:=(aR (ľ (R è (Y 0) (Y 1)) (fM (si aav) (Y 0) (aw (R cf (Ø ".") (Y 1))))))
def aG:ß:=bM 2 iV
def T14:cg:=("lies_within",1,["one","other"],aG)::T13
theorem ot(A:Af K "lies_within" (Ý 27) f)(t:T13%4):T14%4:=aD (aU XI Gn ["one","other"] ["one","other"] iV A aK (by delta iV;fin2)) t
def EQ:ä:=(aR (cT (bS (R Ö (Y 0) (X 0)) (R Ö (Y 0) (X 2)) (R Ö (Y 0) (X 4)))))
def cU:ß:=bM 1 EQ
def T15:cg:=("key",1,["note"],cU)::T14
theorem O2(A:Af K "key" (Ý 97) f)(t:T14%4):T15%4:=aD (aU XI Gn ["note"] ["note"] EQ A aK (by delta EQ;fin2)) t
def bX:ä:=(aQ (cx 1 (dt 1 [] (gm (Y 0)) (gN 0) U (ag cU 1 (aw (Y 0))))) (aR (R è (é mZ (aw (Y 1))) (é fw (aw (Y 1))))))
def cR:ß:=bM 2 bX
def T16:cg:=("has_no_key_twice",2,["notes"],cR)::T15
theorem kn(A:Af K "has_no_key_twice" (Ý 103) f)(t:T15%4):T16%4:=aD (aU XI Gn ["notes","keys"] ["notes"] bX A aK (by delta bX;fin2)) t
def jv:ä:=(aR (é qc (aw (dv [("notes",0)] (λa=>Þ ((bp (X 1) (é fw (aw (Y 0)))) a) Cy) U (R ĩ (R Ö (R Ö (Y 1) (R uo (Y 0) (X 1))) (X 8)) (R Ö (R Ö (Y 1) (Y 0)) (X 8)))))))
def ic:ß:=bM 1 jv
def T17:cg:=("is_by_made",1,["notes"],ic)::T16
theorem qG(A:Af K "is_by_made" (Ý 102) f)(t:T16%4):T17%4:=aD (aU XI Gn ["notes"] ["notes"] jv A aK (by delta jv;fin2)) t
def bf:ä:=(aQ (bt (Č (cw (fB (f1 (jo mX) (Y 0)))) (fB (f1 (jo fD) (Y 0)))) (aR (fC (.bl D))) ó) (aR (li (R ĩ (Y 1) (Y 0)) (R ĩ (Y 0) (Y 2)))))
def aW:ß:=bM 3 bf
def T18:cg:=("is_whole_number",1,["thing","least","most"],aW)::T17
theorem kX(A:Af K "is_whole_number" (Ý 13) f)(t:T17%4):T18%4:=aD (aU XI Gn ["thing","least","most"] ["thing","least","most"] bf A aK (by delta bf;fin2)) t
def fG:ä:=(aR (ag aW 3 (bS (Y 0) (X 0) (X 9999))))
def aZ:ß:=bM 1 fG
def T19:cg:=("is_moment",2,["thing"],aZ)::T18
theorem tJ(A:Af K "is_moment" (Ý 47) f)(t:T18%4):T19%4:=aD (aU XI Gn ["thing"] ["thing"] fG A aK (by delta fG;fin2)) t
def bu:ä:=(aR (ľ (R ė (Y 0) (fC .non)) (ag aZ 1 (aw (Y 0)))))
def aE:ß:=bM 1 bu
def T20:cg:=("is_moment_or_none",3,["thing"],aE)::T19
theorem jY(A:Af K "is_moment_or_none" (Ý 48) f)(t:T19%4):T20%4:=aD (aU XI Gn ["thing"] ["thing"] bu A aK (by delta bu;fin2)) t
def ip:ä:=(aR (ag eC 4 (mS (Y 0) (Ø "abcdefghijklmnopqrstuvwxyzABCDEFGHIJKLMNOPQRSTUVWXYZ0123456789-_") (X 1) (X 10))))
def aS:ß:=bM 1 ip
def T21:cg:=("is_note_name",2,["thing"],aS)::T20
theorem nA(A:Af K "is_note_name" (Ý 68) f)(t:T20%4):T21%4:=aD (aU XI Gn ["thing"] ["thing"] ip A aK (by delta ip;fin2)) t
def nB:ä:=(aR (li (ag eC 4 (mS (Y 0) (Ø "abcdefghijklmnopqrstuvwxyz0123456789-_./") (X 1) (X 20))) (fM (si Wn) (Y 0) (aw (Ø "/")))))
def cX:ß:=bM 1 nB
def T22:cg:=("is_path",2,["thing"],cX)::T21
theorem xU(A:Af K "is_path" (Ý 36) f)(t:T21%4):T22%4:=aD (aU XI Gn ["thing"] ["thing"] nB A aK (by delta nB;fin2)) t
def lK:ä:=(aR (ľ (R è (Y 0) (Ø "any")) (R è (Y 0) (Ø "near"))))
def fH:ß:=bM 1 lK
def T23:cg:=("is_reach",1,["thing"],fH)::T22
theorem uZ(A:Af K "is_reach" (Ý 70) f)(t:T22%4):T23%4:=aD (aU XI Gn ["thing"] ["thing"] lK A aK (by delta lK;fin2)) t
def iW:ä:=(aR (li (f1 (jo uH) (Y 0)) (R è (é fw (aw (Y 0))) (Y 1))))
def bY:ß:=bM 2 iW
def T24:cg:=("is_tuple_of",1,["thing","parts"],bY)::T23
theorem ou(A:Af K "is_tuple_of" (Ý 14) f)(t:T23%4):T24%4:=aD (aU XI Gn ["thing","parts"] ["thing","parts"] iW A aK (by delta iW;fin2)) t
def lL:ä:=(aQ (bt (Č (cw (fB (f1 (jo sh) (Y 0)))) (fB (R ļ (é fw (aw (Y 0))) (X 12)))) (aR (fC (.bl D))) ó) (aR (é qc (aw (dv [] (gm (Y 0)) U (li (R ĩ (Ø "!") (Y 0)) (li (R ĩ (Y 0) (Ø "~")) (R vN (Y 0) (Ø ";,=")))))))))
def bP:ß:=bM 1 lL
def T25:cg:=("is_worth",1,["thing"],bP)::T24
theorem u0(A:Af K "is_worth" (Ý 69) f)(t:T24%4):T25%4:=aD (aU XI Gn ["thing"] ["thing"] lL A aK (by delta lL;fin2)) t
def kY:ä:=(aQ (bt (cw (fB (ag bY 2 (bp (Y 0) (X 10))))) (aR (fC (.bl D))) ó) (aQ (bt (Č (cw (fB (ag aZ 1 (aw (R Ö (Y 0) (X 8)))))) (cw (fB (ag aZ 1 (aw (R Ö (Y 0) (X 9))))))) (aR (fC (.bl D))) ó) (aR (é qc (aw (eU (aO (ag aS 1 (aw (R Ö (Y 0) (X 0)))) (aO (ag bP 1 (aw (R Ö (Y 0) (X 1)))) (aO (ag bi 1 (aw (R Ö (Y 0) (X 2)))) (uE (f1 (jo fD) (R Ö (Y 0) (X 3))) (ag cX 1 (aw (R Ö (Y 0) (X 4)))) (ag aE 1 (aw (R Ö (Y 0) (X 5)))) (f1 (jo fD) (R Ö (Y 0) (X 6))) (ag fH 1 (aw (R Ö (Y 0) (X 7)))) (R ĩ (R Ö (Y 0) (X 8)) (R Ö (Y 0) (X 9)))))))))))))
def gF:ß:=bM 1 kY
def T26:cg:=("is_note",4,["thing"],gF)::T25
theorem xV(A:Af K "is_note" (Ý 92) f)(t:T25%4):T26%4:=aD (aU XI Gn ["thing"] ["thing"] kY A aK (by delta kY;fin2)) t
def kZ:ä:=(aQ (bt (Č (cw (fB (f1 (jo uH) (Y 0)))) (fB (R ļ (é fw (aw (Y 0))) (X 20)))) (aR (fC (.bl D))) ó) (aQ (bt (cw (fB (é qc (aw (dv [] (gm (Y 0)) U (ag gF 1 (aw (Y 0)))))))) (aR (fC (.bl D))) ó) (aR (li (ag ic 1 (aw (Y 0))) (ag cR 1 (aw (Y 0)))))))
def db:ß:=bM 1 kZ
def T27:cg:=("is_jar",5,["thing"],db)::T26
theorem Bt(A:Af K "is_jar" (Ý 101) f)(t:T26%4):T27%4:=aD (aU XI Gn ["thing"] ["thing"] kZ A aK (by delta kZ;fin2)) t
def gG:ä:=(bt (cw (fB (ag db 1 (aw (Y 0))))) (eW 5 (Ø "this is no jar")) ó)
def aM:ß:=fX 1 gG
def TE2:cg:=("need_jar",6,["thing"],aM)::TE1
theorem u5(A:Af K "need_jar" (Ý 104) f)(t:T27%4)(a:TE1%5):TE2%5:=bz (cj XI Gn ["thing"] ["thing"] gG A aK (by delta gG;fin2)) a
def fT:ä:=(bt (cw (fB (ag bi 1 (aw (Y 0))))) (eW 0 (Ø "this is no name")) ó)
def cy:ß:=fX 1 fT
def TE3:cg:=("need_name",4,["thing"],cy)::TE2
theorem tK(A:Af K "need_name" (Ý 25) f)(t:T27%4)(a:TE2%5):TE3%5:=bz (cj XI Gn ["thing"] ["thing"] fT A aK (by delta fT;fin2)) a
def cY:ä:=(aQ (fA (aC aM 1 (aw (Y 0)))) (aQ (fA (aC cy 1 (aw (Y 1)))) (aR (é gq (aw (dv [("house",1)] (gm (Y 0)) (Z (cw (fB (ag aG 2 (bp (R Ö (Y 0) (X 2)) (Y 1)))))) (Y 0)))))))
def bg:ß:=fX 2 cY
def TE4:cg:=("forgotten",7,["jar","house"],bg)::TE3
theorem tL(A:Af K "forgotten" (Ý 108) f)(t:T27%4)(a:TE3%5):TE4%5:=bz (cj XI Gn ["jar","house"] ["jar","house"] cY A aK (by delta cY;fin2)) a
def iX:ä:=(aR (cT (bp (R Ö (Y 0) (X 9)) (R Ö (Y 0) (X 8)))))
def cC:ß:=bM 1 iX
def T28:cg:=("when_last",1,["note"],cC)::T27
theorem tM(A:Af K "when_last" (Ý 120) f)(t:T27%4):T28%4:=aD (aU XI Gn ["note"] ["note"] iX A aK (by delta iX;fin2)) t
def iC:ä:=(aQ (bt (fB (R gtT (ag cC 1 (aw (Y 1))) (ag cC 1 (aw (Y 0))))) (aR (Y 1)) ó) (aR (Y 0)))
def iD:ß:=bM 2 iC
def T29:cg:=("later_of",2,["mine","its"],iD)::T28
theorem u8(A:Af K "later_of" (Ý 119) f)(t:T28%4):T29%4:=aD (aU XI Gn ["mine","its"] ["mine","its"] iC A aK (by delta iC;fin2)) t
def au:ä:=(bt (fB (R ļ (é fw (aw (Y 0))) (X 20))) (eW 5 (Ø "these are more notes than a jar has")) ó)
def ai:ß:=fX 1 au
def TE5:cg:=("need_no_more_than_a_jar_has",1,["notes"],ai)::TE4
theorem fU(A:Af K "need_no_more_than_a_jar_has" (Ý 105) f)(a:TE4%5):TE5%5:=bz (cj XI Gn ["notes"] ["notes"] au A aK (by delta au;fin2)) a
def iE:ä:=(aR (cT (bp (R Ö (Y 0) (X 8)) (ag cU 1 (aw (Y 0))))))
def eD:ß:=bM 1 iE
def T30:cg:=("place_of",2,["note"],eD)::T29
theorem u9(A:Af K "place_of" (Ý 118) f)(t:T29%4):T30%4:=aD (aU XI Gn ["note"] ["note"] iE A aK (by delta iE;fin2)) t
def eE:œ:=(Jg (ag cU 1 (aw (Y 3))) (vE (Y 3)))
def eI:œ:=(Jg (ag cU 1 (aw (Y 3))) (pv iD (Jf (ag cU 1 (aw (Y 3))) (Y 3)) (Y 3)))
def gH:ä:=(aQ (fA (aC aM 1 (aw (Y 0)))) (aQ (fA (aC aM 1 (aw (Y 1)))) (Ba 2 (Jh 3 (Y 0) eE) (Jh 3 (Y 1) eI) (Oc 4 (pB eD) (aQ (fA (aC ai 1 (aw (Y 4)))) (aR (é gq (aw (Y 4)))))))))
def bJ:ß:=fX 5 gH
def TE6:cg:=("merged",7,["one","other"],bJ)::TE5
theorem Bu(A:Af K "merged" (Ý 117) f)(t:T30%4)(a:TE5%5):TE6%5:=bz (cj XI Gn ["one","other","chosen","note","notes"] ["one","other"] gH A aK (by delta gH eE eI;fin2)) a
def k6:ä:=(aQ (bt (cw (fB (ag bY 2 (bp (Y 0) (X 4))))) (aR (fC (.bl D))) ó) (aR (é qc (aw (eU (mS (f1 (jo fD) (R Ö (Y 0) (X 0))) (ag bi 1 (aw (R Ö (Y 0) (X 1)))) (ag cX 1 (aw (R Ö (Y 0) (X 2)))) (ľ (R ė (R Ö (Y 0) (X 3)) (fC .non)) (ag bi 1 (aw (R Ö (Y 0) (X 3)))))))))))
def eZ:ß:=bM 1 k6
def T31:cg:=("is_ask",4,["thing"],eZ)::T30
theorem Bv(A:Af K "is_ask" (Ý 50) f)(t:T30%4):T31%4:=aD (aU XI Gn ["thing"] ["thing"] k6 A aK (by delta k6;fin2)) t
def gI:ä:=(bt (cw (fB (ag eZ 1 (aw (Y 0))))) (eW 3 (Ø "this is no ask")) ó)
def bG:ß:=fX 1 gI
def TE7:cg:=("need_ask",5,["thing"],bG)::TE6
theorem vb(A:Af K "need_ask" (Ý 51) f)(t:T31%4)(a:TE6%5):TE7%5:=bz (cj XI Gn ["thing"] ["thing"] gI A aK (by delta gI;fin2)) a
def dL:ä:=(bt (cw (fB (ag aZ 1 (aw (Y 0))))) (eW 6 (Ø "this is no moment")) ó)
def bc:ß:=fX 1 dL
def TE8:cg:=("need_moment",3,["thing"],bc)::TE7
theorem ow(A:Af K "need_moment" (Ý 49) f)(t:T31%4)(a:TE7%5):TE8%5:=bz (cj XI Gn ["thing"] ["thing"] dL A aK (by delta dL;fin2)) a
def dZ:ä:=(aR (ag eC 4 (mS (Y 0) (Ø "0123456789") (X 1) (X 4))))
def d5:ß:=bM 1 dZ
def T32:cg:=("is_written_moment",2,["text"],d5)::T31
theorem jZ(A:Af K "is_written_moment" (Ý 73) f)(t:T31%4):T32%4:=aD (aU XI Gn ["text"] ["text"] dZ A aK (by delta dZ;fin2)) t
def iq:ä:=(aQ (bt (fB (R è (Y 0) (Ø "safe"))) (aR (cT (bp (X 6) (fC (.bl L))))) ó) (aQ (bt (fB (ag fH 1 (aw (Y 0)))) (aR (cT (bp (X 7) (Y 0)))) ó) (aQ (cx 1 (fM (qe) (Y 0) (aw (Ø " ")))) (aQ (cx 2 (R Ö (Y 1) (X 0))) (aQ (cx 3 (R Ö (Y 1) (X 2))) (aQ (bt (mR (fB (R è (Y 2) (Ø "for"))) (fB (ag bi 1 (aw (Y 3))))) (aR (cT (bp (X 2) (Y 3)))) ó) (aQ (bt (mR (fB (R è (Y 2) (Ø "under"))) (fB (ag cX 1 (aw (Y 3))))) (aR (cT (bp (X 3) (Y 3)))) ó) (aQ (bt (mR (fB (R è (Y 2) (Ø "until"))) (fB (ag d5 1 (aw (Y 3))))) (aR (cT (bp (X 4) (é QY (aw (Y 3)))))) ó) (aQ (bt (mR (fB (R è (Y 2) (Ø "lasts"))) (fB (ag d5 1 (aw (Y 3))))) (aR (cT (bp (X 5) (é QY (aw (Y 3)))))) ó) (aR (fC .non)))))))))))
def bO:ß:=bM 4 iq
def T33:cg:=("what_is_told",4,["part"],bO)::T32
theorem nF(A:Af K "what_is_told" (Ý 74) f)(t:T32%4):T33%4:=aD (aU XI Gn ["part","pieces","word","rest"] ["part"] iq A aK (by delta iq;fin2)) t
def bA:kK:=(gk (gW 5 (ag bO 1 (aw (Y 4)))) (oIf (fB (R oj (Y 5) (fC .non))) (we (R Ö (Y 5) (X 0)) (R Ö (Y 5) (X 1))) Li))
def fg:ä:=(aQ (bt (cw (fB (f1 (jo sh) (Y 0)))) (eW 4 (Ø "this is no text")) ó) (aQ (cx 1 (dt 1 [] (gm (fM (je) (Y 0) (aw (Ø ";")))) (gN 0) U (fM (mV) (Y 0) (aw (Ø " "))))) (aQ (cx 2 (fM (qe) (R Ö (Y 1) (X 0)) (aw (Ø "=")))) (aQ (bt (Č (fB (R è (R Ö (Y 2) (X 1)) (Ø ""))) (Č (cw (fB (ag aS 1 (aw (R Ö (Y 2) (X 0)))))) (cw (fB (ag bP 1 (aw (R Ö (Y 2) (X 2)))))))) (eW 4 (Ø "the first part is no note's name, = and worth")) ó) (zV 3 (aO (R Ö (Y 2) (X 0)) (aO (R Ö (Y 2) (X 2)) (uE (fC .non) (fC .non) (fC .non) (fC .non) (fC (.bl D)) (Ø "any")))) (gk (zW 4 [4,5] (gm (uq (Y 1) (eP (X 1)) gp)) bA) (zT 3 (é gq (aw (Y 3))))))))))
def aI:ß:=fX 6 fg
def TE9:cg:=("read_given",5,["text"],aI)::TE8
theorem qH(A:Af K "read_given" (Ý 75) f)(t:T33%4)(a:TE8%5):TE9%5:=bz (cj XI Gn ["text","parts","first","given","part","told"] ["text"] fg A aK (by delta fg bA;fin2)) a
def aL:ä:=(aQ (fA (aC aT 1 (aw (Y 0)))) (aQ (fA (aC aM 1 (aw (Y 1)))) (aQ (fA (aC bG 1 (aw (Y 2)))) (aQ (cx 5 (aC aI 1 (aw (Y 3)))) (aQ (fA (aC bc 1 (aw (Y 4)))) (aR (Y 5)))))))
def aj:ß:=fX 6 aL
def SM:cg:=("read_what_is_given",7,["table","jar","ask","text","now"],aj)::TE9
theorem jw(A:Af K "read_what_is_given" (Ý 110) f)(a:TE9%5):SM%5:=bz (cj XI Gn ["table","jar","ask","text","now","given"] ["table","jar","ask","text","now"] aL A aK (by delta aL;fin2)) a
def jx:ä:=(aQ (bt (fB (R ė (R Ö (Y 0) (X 5)) (fC .non))) (aR (R Ö (Y 0) (X 4))) ó) (aR (é Lj (bp (R cf (Y 1) (R Ö (Y 0) (X 5))) (X 9999)))))
def jy:ß:=bM 2 jx
def T34:cg:=("end_for",1,["given","now"],jy)::T33
theorem xW(A:Af K "end_for" (Ý 95) f)(t:T33%4):T34%4:=aD (aU XI Gn ["given","now"] ["given","now"] jx A aK (by delta jx;fin2)) t
def gJ:ä:=(aQ (bt (fB (R ė (R Ö (Y 1) (X 2)) (fC .non))) (aR (R Ö (Y 0) (X 1))) ó) (aR (R Ö (Y 1) (X 2))))
def gK:ß:=bM 2 gJ
def T35:cg:=("house_for",1,["ask","given"],gK)::T34
theorem tN(A:Af K "house_for" (Ý 93) f)(t:T34%4):T35%4:=aD (aU XI Gn ["ask","given"] ["ask","given"] gJ A aK (by delta gJ;fin2)) t
def fj:ä:=(aR (R Ö (fM (qe) (Y 0) (aw (Ø "."))) (X 2)))
def fm:ß:=bM 1 fj
def T36:cg:=("behind_first_dot",1,["end"],fm)::T35
theorem ko(A:Af K "behind_first_dot" (Ý 29) f)(t:T35%4):T36%4:=aD (aU XI Gn ["end"] ["end"] fj A aK (by delta fj;fin2)) t
def dF:ä:=(aQ (cx 1 (fM (je) (Y 0) (aw (Ø ".")))) (aR (dv [("parts",1)] (λa=>Þ ((aw (é fw (aw (Y 1)))) a) yq) U (fM (Dw) (Ø ".") (aw (uq (Y 1) (eP (Y 0)) gp))))))
def dG:ß:=bM 2 dF
def T37:cg:=("ends_longest_first",1,["name"],dG)::T36
theorem jz(A:Af K "ends_longest_first" (Ý 28) f)(t:T36%4):T37%4:=aD (aU XI Gn ["name","parts"] ["name"] dF A aK (by delta dF;fin2)) t
def iu:ä:=(aQ (bt (fB (R Ų (Y 1) (Y 0))) (aR (fC (.bl L))) ó) (aR (li (R Ų (Ø ".") (Y 1)) (R Ų (R cf (Ø "*.") (ag fm 1 (aw (Y 1)))) (Y 0)))))
def j5:ß:=bM 2 iu
def T38:cg:=("is_told_open",2,["table","end"],j5)::T37
theorem nG(A:Af K "is_told_open" (Ý 30) f)(t:T37%4):T38%4:=aD (aU XI Gn ["table","end"] ["table","end"] iu A aK (by delta iu;fin2)) t
def iF:ä:=(bt (fB (R Ų (R cf (Ø "!") (Y 3)) (Y 0))) (aR (ag fm 1 (aw (Y 3)))) ó)
def iG:ä:=(bt (fB (ag j5 2 (bp (Y 0) (Y 3)))) (aR (Y 3)) ó)
def gL:ä:=(aQ (cx 2 (ag dG 1 (aw (Y 1)))) (aQ (My 3 [] (gm (Y 2)) iF) (aQ (My 3 [3] (gm (Y 2)) iG) (aR (R Ö (Y 2) (f1 HH (X 1)))))))
def cZ:ß:=bM 4 gL
def T39:cg:=("find_open_end",3,["table","name"],cZ)::T38
theorem l8(A:Af K "find_open_end" (Ý 31) f)(t:T38%4):T39%4:=aD (aU XI Gn ["table","name","ends","end"] ["table","name"] gL A aK (by delta gL iF iG;fin2)) t
def k7:ä:=(aR (R è (ag cZ 2 (bp (Y 0) (Y 1))) (Y 1)))
def gM:ß:=bM 2 k7
def T40:cg:=("is_open",4,["table","house"],gM)::T39
theorem xX(A:Af K "is_open" (Ý 88) f)(t:T39%4):T40%4:=aD (aU XI Gn ["table","house"] ["table","house"] k7 A aK (by delta k7;fin2)) t
def iH:ä:=(aQ (cx 3 (R Ö (Y 2) (X 2))) (aQ (bt (fB (R ė (Y 3) (fC .non))) (aR (fC (.bl L))) ó) (aR (li (R è (Y 3) (R Ö (Y 1) (X 1))) (ag gM 2 (bp (Y 0) (Y 3)))))))
def df:ß:=bM 4 iH
def T41:cg:=("is_exact",5,["table","ask","given"],df)::T40
theorem ve(A:Af K "is_exact" (Ý 89) f)(t:T40%4):T41%4:=aD (aU XI Gn ["table","ask","given","house"] ["table","ask","given"] iH A aK (by delta iH;fin2)) t
def jT:ä:=(aQ (bt (cw (fB (ag bY 2 (bp (Y 0) (X 8))))) (aR (fC (.bl D))) ó) (aR (é qc (aw (eU (aO (ag aS 1 (aw (R Ö (Y 0) (X 0)))) (aO (ag bP 1 (aw (R Ö (Y 0) (X 1)))) (uE (ľ (R ė (R Ö (Y 0) (X 2)) (fC .non)) (ag bi 1 (aw (R Ö (Y 0) (X 2))))) (ľ (R ė (R Ö (Y 0) (X 3)) (fC .non)) (ag cX 1 (aw (R Ö (Y 0) (X 3))))) (ag aE 1 (aw (R Ö (Y 0) (X 4)))) (ag aE 1 (aw (R Ö (Y 0) (X 5)))) (f1 (jo fD) (R Ö (Y 0) (X 6))) (ag fH 1 (aw (R Ö (Y 0) (X 7))))))))))))
def iI:ß:=bM 1 jT
def T42:cg:=("is_given",4,["thing"],iI)::T41
theorem vf(A:Af K "is_given" (Ý 71) f)(t:T41%4):T42%4:=aD (aU XI Gn ["thing"] ["thing"] jT A aK (by delta jT;fin2)) t
def gg:ä:=(bt (cw (fB (ag iI 1 (aw (Y 0))))) (eW 4 (Ø "this can't be given")) ó)
def dg:ß:=fX 1 gg
def SN:cg:=("need_given",5,["thing"],dg)::SM
theorem qI(A:Af K "need_given" (Ý 72) f)(t:T42%4)(a:SM%5):SN%5:=bz (cj XI Gn ["thing"] ["thing"] gg A aK (by delta gg;fin2)) a
def jA:ä:=(bt (cw (fB (ag cX 1 (aw (Y 0))))) (eW 2 (Ø "this is no path")) ó)
def lW:ß:=fX 1 jA
def SO:cg:=("need_path",3,["thing"],lW)::SN
theorem tP(A:Af K "need_path" (Ý 37) f)(t:T42%4)(a:SN%5):SO%5:=bz (cj XI Gn ["thing"] ["thing"] jA A aK (by delta jA;fin2)) a
def nH:ä:=(aQ (fA (aC lW 1 (aw (Y 0)))) (aQ (cx 1 (fM (QQ ad8) (Y 0) (aw (Ø "/")))) (aQ (bt (fB (R è (Y 1) (X 0))) (aR (Ø "/")) ó) (aR (uq (Y 0) gp (eP (Y 1)))))))
def k8:ß:=fX 2 nH
def SQ:cg:=("folder",4,["path"],k8)::SO
theorem Bw(A:Af K "folder" (Ý 38) f)(a:SO%5):SQ%5:=bz (cj XI Gn ["path","place"] ["path"] nH A aK (by delta nH;fin2)) a
def gO:ä:=(aQ (bt (fB (R ė (R Ö (Y 1) (X 3)) (fC .non))) (aR (aC k8 1 (aw (R Ö (Y 0) (X 2))))) ó) (aR (R Ö (Y 1) (X 3))))
def fI:ß:=fX 2 gO
def SS:cg:=("path_for",5,["ask","given"],fI)::SQ
theorem vg(A:Af K "path_for" (Ý 94) f)(a:SQ%5):SS%5:=bz (cj XI Gn ["ask","given"] ["ask","given"] gO A aK (by delta gO;fin2)) a
def iw:ä:=(aQ (cx 2 (ag cZ 2 (bp (Y 0) (Y 1)))) (aQ (cx 3 (ag dG 1 (aw (Y 1)))) (aQ (cx 4 (fML QS (Y 3) (aw (Y 2)))) (aQ (bt (fB (R è (Y 4) (X 0))) (aR (fC .non)) ó) (aR (R Ö (Y 3) (R uo (Y 4) (X 1))))))))
def dO:ß:=bM 5 iw
def T43:cg:=("find_own_end",4,["table","name"],dO)::T42
theorem nI(A:Af K "find_own_end" (Ý 32) f)(t:T42%4):T43%4:=aD (aU XI Gn ["table","name","end","ends","place"] ["table","name"] iw A aK (by delta iw;fin2)) t
def bh:ä:=(aQ (cx 2 (R Ö (Y 1) (X 1))) (aQ (cx 3 (R Ö (Y 1) (X 3))) (aQ (bt (Č (fB (R ė (Y 3) (fC .non))) (fB (R è (Y 3) (Y 2)))) (aR (fC (.bl L))) ó) (aQ (cx 4 (ag dO 2 (bp (Y 0) (Y 2)))) (aR (li (R oj (Y 4) (fC .non)) (R è (Y 4) (ag dO 2 (bp (Y 0) (Y 3))))))))))
def aX:ß:=bM 5 bh
def T44:cg:=("comes_from_near",5,["table","ask"],aX)::T43
theorem k9(A:Af K "comes_from_near" (Ý 52) f)(t:T43%4):T44%4:=aD (aU XI Gn ["table","ask","house","origin","own"] ["table","ask"] bh A aK (by delta bh;fin2)) t
def bV:ä:=(aQ (cx 3 (R Ö (Y 2) (X 0))) (aQ (bt (fB (fM (si Wn) (Y 3) (aw (Ø "safe-")))) (aR (R Ö (Y 2) (X 6))) ó) (aQ (bt (fB (fM (si Wn) (Y 3) (aw (Ø "own-")))) (aR (li (R Ö (Y 2) (X 6)) (li (ag df 3 (bS (Y 0) (Y 1) (Y 2))) (R è (R Ö (Y 2) (X 3)) (Ø "/"))))) ó) (aR (fC (.bl L))))))
def br:ß:=bM 4 bV
def T45:cg:=("keeps_its_mark",6,["table","ask","given"],br)::T44
theorem lN(A:Af K "keeps_its_mark" (Ý 90) f)(t:T44%4):T45%4:=aD (aU XI Gn ["table","ask","given","name"] ["table","ask","given"] bV A aK (by delta bV;fin2)) t
def fL:ä:=(aQ (fA (aC aT 1 (aw (Y 0)))) (aQ (fA (aC bG 1 (aw (Y 1)))) (aQ (fA (aC dg 1 (aw (Y 2)))) (aQ (cx 3 (R Ö (Y 2) (X 2))) (aQ (bt (mR (fB (R oj (Y 3) (fC .non))) (cw (fB (ag aG 2 (bp (R Ö (Y 1) (X 1)) (Y 3)))))) (aR (Ø "foreign")) ó) (aQ (bt (mR (fB (R oj (Y 3) (fC .non))) (mR (fB (R İ (Y 3) (R Ö (Y 1) (X 1)))) (fB (ag gM 2 (bp (Y 0) (Y 3)))))) (aR (Ø "open")) ó) (aQ (bt (mR (fB (R Ö (Y 2) (X 6))) (cw (fB (R Ö (Y 1) (X 0))))) (aR (Ø "unsafe")) ó) (aQ (bt (cw (fB (ag br 3 (bS (Y 0) (Y 1) (Y 2))))) (aR (Ø "marked")) ó) (aQ (bt (mR (fB (R è (R Ö (Y 2) (X 7)) (Ø "near"))) (cw (fB (ag aX 2 (bp (Y 0) (Y 1)))))) (aR (Ø "far")) ó) (aR (fC .non)))))))))))
def bB:ß:=fX 4 fL
def SU:cg:=("why_refused",7,["table","ask","given"],bB)::SS
theorem oy(A:Af K "why_refused" (Ý 91) f)(t:T45%4)(a:SS%5):SU%5:=bz (cj XI Gn ["table","ask","given","house"] ["table","ask","given"] fL A aK (by delta fL;fin2)) a
def qJ:ä:=(aQ (fA (aC aT 1 (aw (Y 0)))) (aQ (fA (aC bG 1 (aw (Y 1)))) (aQ (fA (aC dg 1 (aw (Y 2)))) (aQ (fA (aC bc 1 (aw (Y 3)))) (aQ (bt (fB (R oj (aC bB 3 (bS (Y 0) (Y 1) (Y 2))) (fC .non))) (eW 4 (Ø "this may not be given by this ask")) ó) (aR (cT (aO (R Ö (Y 2) (X 0)) (aO (R Ö (Y 2) (X 1)) (aO (ag gK 2 (bp (Y 1) (Y 2))) (aO (ag df 3 (bS (Y 0) (Y 1) (Y 2))) (uE (aC fI 2 (bp (Y 1) (Y 2))) (ag jy 2 (bp (Y 2) (Y 3))) (R Ö (Y 2) (X 6)) (R Ö (Y 2) (X 7)) (Y 3) (Y 3)))))))))))))
def ei:ß:=fX 4 qJ
def SV:cg:=("made",8,["table","ask","given","now"],ei)::SU
theorem Kc(A:Af K "made" (Ý 96) f)(t:T45%4)(a:SU%5):SV%5:=bz (cj XI Gn ["table","ask","given","now"] ["table","ask","given","now"] qJ A aK (by delta qJ;fin2)) a
def vh:ä:=(aQ (cx 2 (dt 1 [("note",1)] (gm (Y 0)) (gN 0) (Z (fB (R è (ag cU 1 (aw (Y 0))) (ag cU 1 (aw (Y 1)))))) (Y 0))) (aQ (bt (fB (R è (Y 2) (eU dP))) (aR (R dD (Y 0) (cT (aw (Y 1))))) ó) (aQ (cx 3 (R dD (R dD (l7 (Y 1) gp (eP (X 8))) (cT (aw (R Ö (R Ö (Y 2) (X 0)) (X 8))))) (l7 (Y 1) (eP (R dD (X 8) (X 1))) gp))) (aR (é gq (aw (dv [("note",1),("newer",3)] (gm (Y 0)) U (ĥ (fB (R è (ag cU 1 (aw (Y 0))) (ag cU 1 (aw (Y 1))))) (Y 2) (Y 0)))))))))
def ES:ß:=bM 4 vh
def T46:cg:=("put",2,["jar","note"],ES)::T45
theorem O3(A:Af K "put" (Ý 109) f)(t:T45%4):T46%4:=aD (aU XI Gn ["jar","note","same","newer"] ["jar","note"] vh A aK (by delta vh;fin2)) t
def iY:ä:=(aR (li (R oj (R Ö (Y 0) (X 5)) (fC .non)) (R ĩ (R Ö (Y 0) (X 5)) (Y 1))))
def bH:ß:=bM 2 iY
def T47:cg:=("has_ended",1,["note","now"],bH)::T46
theorem tQ(A:Af K "has_ended" (Ý 98) f)(t:T46%4):T47%4:=aD (aU XI Gn ["note","now"] ["note","now"] iY A aK (by delta iY;fin2)) t
def c5:ä:=(aR (é gq (aw (dv [("now",1)] (gm (Y 0)) (Z (cw (fB (ag bH 2 (bp (Y 0) (Y 1)))))) (Y 0)))))
def bE:ß:=bM 2 c5
def T48:cg:=("without_ended",2,["notes","now"],bE)::T47
theorem mf(A:Af K "without_ended" (Ý 107) f)(t:T47%4):T48%4:=aD (aU XI Gn ["notes","now"] ["notes","now"] c5 A aK (by delta c5;fin2)) t
def jC:ä:=(aQ (bt (fB (R è (Y 0) (Y 1))) (aR (fC (.bl L))) ó) (aQ (bt (cw (fB (fM (si Wn) (Y 0) (aw (Y 1))))) (aR (fC (.bl D))) ó) (aR (ľ (fM (si aav) (Y 1) (aw (Ø "/"))) (R è (R Ö (Y 0) (é fw (aw (Y 1)))) (Ø "/"))))))
def bZ:ß:=bM 2 jC
def T49:cg:=("lies_under",1,["path","top"],bZ)::T48
theorem qK(A:Af K "lies_under" (Ý 39) f)(t:T48%4):T49%4:=aD (aU XI Gn ["path","top"] ["path","top"] jC A aK (by delta jC;fin2)) t
def jE:ä:=(aQ (bt (Č (cw (fB (R Ö (Y 0) (X 6)))) (Č (fB (ag bH 2 (bp (Y 0) (Y 2)))) (fB (R İ (R Ö (Y 0) (X 0)) (R Ö (Y 1) (X 0)))))) (aR (fC (.bl D))) ó) (aQ (bt (mR (cw (fB (ag aG 2 (bp (R Ö (Y 1) (X 2)) (R Ö (Y 0) (X 2)))))) (cw (fB (ag aG 2 (bp (R Ö (Y 0) (X 2)) (R Ö (Y 1) (X 2))))))) (aR (fC (.bl D))) ó) (aR (ag bZ 2 (bp (R Ö (Y 1) (X 4)) (R Ö (Y 0) (X 4)))))))
def jF:ß:=bM 3 jE
def T50:cg:=("shadows",2,["old","note","now"],jF)::T49
theorem xY(A:Af K "shadows" (Ý 113) f)(t:T49%4):T50%4:=aD (aU XI Gn ["old","note","now"] ["old","note","now"] jE A aK (by delta jE;fin2)) t
def fJ:ä:=(aQ (cx 5 (aC bB 3 (bS (Y 0) (Y 2) (Y 3)))) (aQ (bt (fB (R oj (Y 5) (fC .non))) (aR (Y 5)) ó) (aQ (cx 6 (aC ei 4 (mS (Y 0) (Y 2) (Y 3) (Y 4)))) (aQ (bt (mR (cw (fB (R Ö (Y 2) (X 0)))) (fB (é IF (aw (dv [("now",4),("note",6)] (gm (Y 1)) U (ag jF 3 (bS (Y 0) (Y 2) (Y 1)))))))) (aR (Ø "shadowed")) ó) (aQ (bt (fB (ag bH 2 (bp (Y 6) (Y 4)))) (aR (Ø "gone")) ó) (aR (Ø "kept")))))))
def bw:ß:=fX 7 fJ
def SW:cg:=("word_of",9,["table","jar","ask","given","now"],bw)::SV
theorem xZ(A:Af K "word_of" (Ý 112) f)(t:T50%4)(a:SV%5):SW%5:=bz (cj XI Gn ["table","jar","ask","given","now","refused","note"] ["table","jar","ask","given","now"] fJ A aK (by delta fJ;fin2)) a
def dh:ä:=(aQ (cx 5 (aC bw 5 (mo (Y 0) (Y 1) (Y 2) (Y 3) (Y 4)))) (aQ (cx 6 (ag bE 2 (bp (Y 1) (Y 4)))) (aQ (bt (fB (R è (Y 5) (Ø "kept"))) (aR (ag ES 2 (bp (Y 6) (aC ei 4 (mS (Y 0) (Y 2) (Y 3) (Y 4)))))) ó) (aQ (bt (fB (R è (Y 5) (Ø "gone"))) (aQ (cx 7 (ag cU 1 (aw (aC ei 4 (mS (Y 0) (Y 2) (Y 3) (Y 4)))))) (aR (é gq (aw (dv [("ended",7)] (gm (Y 6)) (Z (fB (R İ (ag cU 1 (aw (Y 0))) (Y 1)))) (Y 0)))))) ó) (aR (Y 6))))))
def bW:ß:=fX 8 dh
def SX:cg:=("take_in",10,["table","jar","ask","given","now"],bW)::SW
theorem ya(A:Af K "take_in" (Ý 115) f)(t:T50%4)(a:SW%5):SX%5:=bz (cj XI Gn ["table","jar","ask","given","now","word","notes","ended"] ["table","jar","ask","given","now"] dh A aK (by delta dh;fin2)) a
def fq:ä:=(aQ (cx 5 (aC aj 5 (mo (Y 0) (Y 1) (Y 2) (Y 3) (Y 4)))) (aQ (bt (fB (é IF (aw (dv [("now",4)] (gm (Y 1)) U (R ļ (R Ö (Y 0) (X 9)) (Y 1)))))) (eW 6 (Ø "some note was used later than this moment")) ó) (aQ (cx 6 (aC bW 5 (mo (Y 0) (Y 1) (Y 2) (Y 5) (Y 4)))) (aQ (fA (aC ai 1 (aw (Y 6)))) (aR (Y 6))))))
def ce:ß:=fX 7 fq
def SY:cg:=("taken",11,["table","jar","ask","text","now"],ce)::SX
theorem ET(A:Af K "taken" (Ý 114) f)(a:SX%5):SY%5:=bz (cj XI Gn ["table","jar","ask","text","now","given","notes"] ["table","jar","ask","text","now"] fq A aK (by delta fq;fin2)) a
def iJ:ä:=(aQ (cx 5 (aC aj 5 (mo (Y 0) (Y 1) (Y 2) (Y 3) (Y 4)))) (aR (aC bw 5 (mo (Y 0) (Y 1) (Y 2) (Y 5) (Y 4)))))
def di:ß:=fX 6 iJ
def Kd:cg:=("verdict",10,["table","jar","ask","text","now"],di)::SY
theorem yb(A:Af K "verdict" (Ý 111) f)(a:SY%5):Kd%5:=bz (cj XI Gn ["table","jar","ask","text","now","given"] ["table","jar","ask","text","now"] iJ A aK (by delta iJ;fin2)) a
def gh:cq:=(dJ (ĳ (cH (fB (R è (Y 2) (X 0)))) (dJ (ki 6 (aJ (aC ce 5 (mo (Y 0) (Y 1) (Y 3) (Y 4) (Y 5))))) (iN (aJ (cT (bp (aC di 5 (mo (Y 0) (Y 1) (Y 3) (Y 4) (Y 5))) (Y 6)))))) qr) (dJ (ĳ (cH (fB (R è (Y 2) (X 1)))) (dJ (ĳ (cH (Č (cw (fB (f1 (jo mX) (Y 3)))) (Č (fB (f1 (jo fD) (Y 3))) (cw (fB (kB ĩ Œ (X 0) (Y 3) (X 10000))))))) (iN (aJ (cT (bp (cT (bp (Ø "refused") (X 5))) (fC .non))))) qr) (dJ (ki 6 (aJ (ag hZ 2 (bp (Y 1) (Y 3))))) (iN (aJ (cT (bp (R uo (é fw (aw (Y 1))) (é fw (aw (Y 6)))) (Y 6))))))) qr) (dJ (ki 6 (aJ (ĥ (fB (R è (Y 2) (X 2))) (aC bg 2 (bp (Y 1) (Y 3))) (aC bJ 2 (bp (Y 1) (Y 3)))))) (iN (aJ (cT (bp (ĥ (fB (R è (Y 2) (X 2))) (R uo (é fw (aw (Y 1))) (é fw (aw (Y 6)))) (é fw (aw (Y 6)))) (Y 6))))))))
def c6:cq:=(oq 9 7 8 gh (cT (bp (ag bj 1 (aw (Y 7))) (fC .non))))
def jG:đ:=mB 8 c6
def TW2:og:=("_law_next",12,6,jG)::TW1
theorem qL(A:Af K "_law_next" (Ý 137) f)(t:T50%4)(d:Kd%5)(b:G' P w K mg base TM1)(a:ť P w K mg base TW1):ť P w K mg base TW2:=qu (uT XI Gn ["_law_table_here","_law_jar_here","_law_way","_law_one","_law_other","_law_third","_law_new_here","_law_e"] ["_law_table_here","_law_jar_here","_law_way","_law_one","_law_other","_law_third"] c6 A aK (by delta c6 gh;fin2)) a
def jH:ä:=(aQ (cx 2 (eU (aO (Ø "!w.ck") (aO (Ø "*.ck") (uE (Ø "*.uk") (Ø "a.b") (Ø "b") (Ø "c.uk") (Ø "q") (Ø "uk")))))) (aR (é gq (aw (dt 2 [("_law_script",0),("_law_at",1)] (λa=>Þ ((aw (Y 2)) a) DB) (gP 0 1) (Z (fB (R è (ag ae 3 (bS (Y 2) (R cf (Y 3) (Y 0)) (X 2))) (X 0)))) (Y 1))))))
def fV:ß:=bM 3 jH
def T51:cg:=("_law_table",3,["_law_script","_law_at"],fV)::T50
theorem qM(A:Af K "_law_table" (Ý 127) f)(t:T50%4):T51%4:=aD (aU XI Gn ["_law_script","_law_at","_law_some"] ["_law_script","_law_at"] jH A aK (by delta jH;fin2)) t
def aP:ä:=(bt (fB (R oj (Y 11) (fC .non))) (cx 9 (R dD (R dD (R dD (R dD (Y 9) (Ø "; ")) (Y 10)) (Ø " ")) (é Ln (aw (Y 11))))) ó)
def gQ:ä:=(aQ (M5 [1,2,3,4] (l7 (Y 0) gp (eP (X 4)))) (aQ (M5 [5,6,7,8] (l7 (Y 0) (eP (X 4)) gp)) (aQ (cx 9 (R dD (R dD (Y 1) (Ø "=")) (Y 2))) (aQ (xE (gP 10 11) [11,10] (λa=>Þ ((bp (cT (mS (Ø "for") (Ø "under") (Ø "until") (Ø "lasts"))) (l7 (Y 0) (eP (X 2)) (eP (X 6)))) a) Lm) aP) (aR (R dD (R dD (Y 9) (ĥ (fB (Y 7)) (Ø "; safe") (Ø ""))) (ĥ (fB (R è (Y 8) (Ø "near"))) (Ø "; near") (Ø ""))))))))
def gR:ß:=bM 12 gQ
def T52:cg:=("_law_text",1,["_law_given_here"],gR)::T51
theorem tW(A:Af K "_law_text" (Ý 132) f)(t:T51%4):T52%4:=aD (aU XI Gn ["_law_given_here","_law_name_here","_law_worth","_law_house","_law_path_here","_law_until","_law_lasts","_law_safe","_law_reach","_law_text_here","_law_word","_law_thing"] ["_law_given_here"] gQ A aK (by delta gQ aP;fin2)) t
def c7:cq:=(dJ (ĳ (cH (fB (R è (Y 1) (eU dP)))) (SG (eW 8 (Ø "there is no such step"))) qr) (dJ (ki 3 (Oq (fE 1))) (dJ (qt (JC (fE 2) (bq (aJ (cT (bp (R Ö (Y 3) (X 0)) (f1 (oa 1 1) (Y 0))))) gA))) (dJ (yt 1 1 (fE 0) (aJ (R Ö (Y 3) (X 1)))) (iN (aJ (R Ö (Y 3) (X 0))))))))
def fW:đ:=mB 4 c7
def TV1:og:=("move",1,2,fW)::TV0
theorem qN(A:Am K C "Desk.move" "move" (bL (Ý 122) 10) f)(a:ī P w K mg base 1 C TV0):ī P w K mg base 1 C TV1:=fY (fZ ck ["self","source","target","step"] ["self","source","target"] c7 A aK (by delta c7;fin2)) a
def eK:cq:=(iN (eQ 1 fW 2 (fE 0) (bq (CF 1 2 (fE 0)) (bq (CF 1 3 (fE 0)) gA))))
def eM:đ:=mB 1 eK
def TV2:og:=("back",2,0,eM)::TV1
theorem qO(A:Am K C "Desk.back" "back" (bL (Ý 122) 8) f)(a:ī P w K mg base 1 C TV1):ī P w K mg base 1 C TV2:=fY (fZ ck ["self"] ["self"] eK A aK (by delta eK;fin2)) a
def c8:cq:=(dJ (qt (JC (CF 1 2 (fE 0)) (bq (aJ (cT (bp (Y 1) (f1 (oa 1 1) (Y 0))))) gA))) (dJ (yt 1 3 (fE 0) (Bm gA)) (yt 1 1 (fE 0) (aJ (Y 2)))))
def cr:đ:=mB 3 c8
def TV3:og:=("do_step",1,2,cr)::TV2
theorem mh(A:Am K C "Desk.do_step" "do_step" (bL (Ý 122) 2) f)(a:ī P w K mg base 1 C TV2):ī P w K mg base 1 C TV3:=fY (fZ ck ["self","word","notes"] ["self","word","notes"] c8 A aK (by delta c8;fin2)) a
def bK:cq:=(dJ (ki 3 (aJ (R uo (é fw (aw (f1 (oa 1 1) (Y 0)))) (é fw (aw (Y 2)))))) (dJ (qt (eQ 1 cr 2 (fE 0) (bq (aJ (Y 1)) (bq (aJ (Y 2)) gA)))) (iN (aJ (Y 3)))))
def cp:đ:=mB 4 bK
def TV4:og:=("do_and_count",2,2,cp)::TV3
theorem jI(A:Am K C "Desk.do_and_count" "do_and_count" (bL (Ý 122) 6) f)(a:ī P w K mg base 1 C TV3):ī P w K mg base 1 C TV4:=fY (fZ ck ["self","word","left","gone"] ["self","word","left"] bK A aK (by delta bK;fin2)) a
def cm:cq:=(iN (eQ 1 cp 2 (fE 0) (bq (aJ (Ø "forget")) (bq (aJ (aC bg 2 (bp (f1 (oa 1 1) (Y 0)) (Y 1)))) gA))))
def cP:đ:=mB 2 cm
def TV5:og:=("forget",8,1,cP)::TV4
theorem nJ(A:Am K C "Desk.forget" "forget" (bL (Ý 122) 5) f)(b:Kd%5)(a:ī P w K mg base 1 C TV4):ī P w K mg base 1 C TV5:=fY (fZ ck ["self","house"] ["self","house"] cm A aK (by delta cm;fin2)) a
def dj:cq:=(iN (eQ 1 fW 2 (fE 0) (bq (CF 1 3 (fE 0)) (bq (CF 1 2 (fE 0)) gA))))
def dk:đ:=mB 1 dj
def TV6:og:=("forth",2,0,dk)::TV5
theorem oz(A:Am K C "Desk.forth" "forth" (bL (Ý 122) 9) f)(a:ī P w K mg base 1 C TV5):ī P w K mg base 1 C TV6:=fY (fZ ck ["self"] ["self"] dj A aK (by delta dj;fin2)) a
def c9:cq:=(dJ (ki 4 (aJ (aC ce 5 (mo (f1 (oa 1 0) (Y 0)) (f1 (oa 1 1) (Y 0)) (Y 1) (Y 2) (Y 3))))) (dJ (ki 5 (aJ (aC di 5 (mo (f1 (oa 1 0) (Y 0)) (f1 (oa 1 1) (Y 0)) (Y 1) (Y 2) (Y 3))))) (dJ (qt (eQ 1 cr 2 (fE 0) (bq (aJ (Ø "give")) (bq (aJ (Y 4)) gA)))) (iN (aJ (Y 5))))))
def ie:đ:=mB 6 c9
def TV7:og:=("give",12,3,ie)::TV6
theorem qP(A:Am K C "Desk.give" "give" (bL (Ý 122) 3) f)(b:Kd%5)(a:ī P w K mg base 1 C TV6):ī P w K mg base 1 C TV7:=fY (fZ ck ["self","ask","text","now","notes","word"] ["self","ask","text","now"] c9 A aK (by delta c9;fin2)) a
def cD:cq:=(dJ (ki 2 (aJ (aC bJ 2 (bp (f1 (oa 1 1) (Y 0)) (Y 1))))) (dJ (qt (eQ 1 cr 2 (fE 0) (bq (aJ (Ø "merge")) (bq (aJ (Y 2)) gA)))) (iN (aJ (é fw (aw (Y 2)))))))
def fu:đ:=mB 3 cD
def TV8:og:=("merge",8,1,fu)::TV7
theorem oA(A:Am K C "Desk.merge" "merge" (bL (Ý 122) 7) f)(b:Kd%5)(a:ī P w K mg base 1 C TV7):ī P w K mg base 1 C TV8:=fY (fZ ck ["self","jar","notes"] ["self","jar"] cD A aK (by delta cD;fin2)) a
def iZ:ä:=(aQ (fA (aC aM 1 (aw (Y 0)))) (aQ (fA (aC bc 1 (aw (Y 1)))) (aR (ag bE 2 (bp (Y 0) (Y 1))))))
def ig:ß:=fX 2 iZ
def UJ:cg:=("swept",7,["jar","now"],ig)::Kd
theorem EV(A:Af K "swept" (Ý 106) f)(t:T52%4)(a:Kd%5):UJ%5:=bz (cj XI Gn ["jar","now"] ["jar","now"] iZ A aK (by delta iZ;fin2)) a
def cF:cq:=(iN (eQ 1 cp 2 (fE 0) (bq (aJ (Ø "sweep")) (bq (aJ (aC ig 2 (bp (f1 (oa 1 1) (Y 0)) (Y 1)))) gA))))
def cG:đ:=mB 2 cF
def TV9:og:=("sweep",8,1,cG)::TV8
theorem oE(A:Am K C "Desk.sweep" "sweep" (bL (Ý 122) 4) f)(b:UJ%5)(a:ī P w K mg base 1 C TV8):ī P w K mg base 1 C TV9:=fY (fZ ck ["self","now"] ["self","now"] cF A aK (by delta cF;fin2)) a
def bC:cq:=(dJ (ĳ (cH (fB (R è (Y 1) (X 0)))) (iN (eQ 1 ie 3 (fE 0) (bq (aJ (Y 2)) (bq (aJ (Y 3)) (bq (aJ (Y 4)) gA))))) qr) (dJ (ĳ (cH (fB (R Œ (Y 1) (X 3)))) (iN (uIf (fB (R è (Y 1) (X 1))) (eQ 1 cG 1 (fE 0) (bq (aJ (Y 2)) gA)) (eQ 1 cP 1 (fE 0) (bq (aJ (Y 2)) gA)))) qr) (dJ (ĳ (cH (fB (R è (Y 1) (X 3)))) (iN (eQ 1 fu 1 (fE 0) (bq (aJ (Y 2)) gA))) qr) (iN (uIf (fB (R è (Y 1) (X 4))) (eQ 1 eM 0 (fE 0) gA) (eQ 1 dk 0 (fE 0) gA))))))
def da:cq:=(oq 9 5 6 bC (ag bj 1 (aw (Y 5))))
def jJ:đ:=mB 6 da
def TW3:og:=("_law_told",13,5,jJ)::TW2
theorem qQ(A:Af K "_law_told" (Ý 135) f)(d:G' P w K mg base TM1)(b:ī P w K mg base 1 C TV9)(a:ť P w K mg base TW2):ť P w K mg base TW3:=qu (uT XI Gn ["_law_desk","_law_way","_law_one","_law_other","_law_third","_law_e"] ["_law_desk","_law_way","_law_one","_law_other","_law_third"] da A aK (by delta da bC;fin2)) a
def vi:î:=(fB (R è (ag ae 3 (bS (Y 0) (R cf (Y 7) (X 10)) (X 9))) (X 0)))
def vj:î:=(fB (R ļ (Y 8) (X 3)))
def qR:cq:=(ki 13 (aJ (ĥ (fB (kB ĩ Œ (X 0) (Y 12) (é fw (aw (Y 3))))) (R Ö (R Ö (Y 3) (é Nv (bp (Y 4) (Y 12)))) (X 0)) (cT (bp (Ø "refused") (X 6))))))
def vm:cq:=(ki 12 (aJ (ĥ (fB (R è (Y 8) (X 4))) (R uo (Y 4) (X 1)) (R cf (Y 4) (X 1)))))
def Bx:î:=(fB (R oj (Y 14) (fC .non)))
def vn:cq:=(ki 3 (Q3 (uq (Y 3) gp (eP (R cf (Y 4) (X 1)))) (eU (aw (cT (bp (R Ö (eU (mS (Ø "give") (Ø "sweep") (Ø "forget") (Ø "merge"))) (Y 8)) (Y 14)))))))
def vo:cq:=(Q0 [13,14] (nq jG 6 (bq (aJ (Y 1)) (bq (aJ (R Ö (R Ö (Y 3) (Y 4)) (X 1))) (bq (aJ (Y 8)) (bq (aJ (Y 10)) (bq (aJ (Y 11)) (bq (aJ (Y 5)) gA))))))))
def By:î:=(fB (R İ (xN 1 gf 0 (Y 2) dP) (cT (bp (Y 4) (R uo (R uo (é fw (aw (Y 3))) (X 1)) (Y 4))))))
def qS:î:=(fB (R İ (xN 1 iU 0 (Y 2) dP) (R Ö (R Ö (Y 3) (Y 4)) (X 1))))
def nK:cq:=(ĳ (cH By) (iN (aJ (fC (.bl D)))) qr)
def qT:cq:=(ĳ (uB (xO İ (nq jJ 5 (bq (fE 2) (bq (aJ (Y 8)) (bq (aJ (Y 10)) (bq (aJ (Y 11)) (bq (aJ (Y 5)) gA)))))) (Y 13))) (iN (aJ (fC (.bl D)))) qr)
def lO:cq:=(ĳ (cH vj) (dJ vm (dJ qR (ki 4 (aJ (ĥ (fB (kB ĩ Œ (X 0) (Y 12) (é fw (aw (Y 3))))) (Y 12) (Y 4)))))) (dJ vo (ĳ (cH Bx) (dJ vn (ki 4 (aJ (R cf (Y 4) (X 1))))) qr)))
def vp:cq:=(ki 11 (aJ (ĥ (fB (R ļ (ag ae 3 (bS (Y 0) (R cf (Y 7) (X 25)) (X 9))) (X 0))) (ag gR 1 (aw (ag fR 3 (bS (Y 0) (R cf (Y 7) (X 12)) (R Ö (Y 9) (X 1)))))) (Ø "n"))))
def nM:cq:=(ĳ (cH vi) (ki 10 (aJ (R Ö (eU (mo (fC .non) (f1 HH (X 1)) (X 10000) (fC (.bl L)) (cT dP))) (ag ae 3 (bS (Y 0) (R cf (Y 7) (X 11)) (X 5)))))) qr)
def vq:cq:=(ki 10 (aJ (R Ö (eU (uE (Y 9) (Y 5) (ag aY 2 (bp (Y 0) (R cf (Y 7) (X 9)))) (ag jS 3 (bS (Y 0) (R cf (Y 7) (X 30)) (X 3))) (X 0) (X 0))) (Y 8))))
def qU:cq:=(ki 9 (aJ (ag jR 2 (bp (Y 0) (R cf (Y 7) (X 2))))))
def qV:cq:=(ki 5 (aJ (R cf (Y 5) (ag ae 3 (bS (Y 0) (R cf (Y 7) (X 1)) (X 4))))))
def qW:cq:=(ki 8 (aJ (R Ö (eU (aO (X 0) (aO (X 0) (aO (X 0) (aO (X 0) (uE (X 1) (X 2) (X 3) (X 3) (X 4) (X 5))))))) (ag ae 3 (bS (Y 0) (Y 7) (X 10))))))
def qX:cq:=(ki 7 (aJ (R cf (X 20) (R lj (X 80) (Y 6)))))
def nN:cq:=(dJ qX (dJ qW (dJ qV (dJ qU (dJ vq (dJ nM (dJ vp (dJ lO (dJ qT (dJ nK (ĳ (cH qS) (iN (aJ (fC (.bl D)))) qr)))))))))))
def qY:cq:=(xQ 6 [6,7,8,9,10,11,12,13] (iU1 (aw (é Nv (bp (X 1) (é Lj (bp (X 12) (é fw (aw (Y 0))))))))) nN)
def qZ:cq:=(ki 5 (aJ (X 0)))
def q8:cq:=(ki 4 (aJ (X 0)))
def q9:cq:=(ki 3 (Bm (bq (aJ (cT (bp (Ø "") (cT dP)))) gA)))
def rf:cq:=(ki 2 (nq gE 1 (bq (aJ (Y 1)) gA)))
def rg:cq:=(ki 1 (aJ (ag fV 2 (bp (Y 0) (X 0)))))
def yc:cq:=(dJ rg (dJ rf (dJ q9 (dJ q8 (dJ qZ (dJ qY (iN (aJ (R è (dv [] (gm (cT (mS (fC .non) (eU (aw (Ø "uk"))) (cT (aw (Ø "*."))) (cT (bp (Ø "uk") (Ø "a")))))) U (Q1 (uOk (nq gE 1 (bq (fE 0) gA))))) (R QX (eU (aw (cT (bp (Ø "refused") (X 0))))) (X 4)))))))))))
def yd:ß:=QZ 15 yc
theorem O4{a:WE}(A:ł K "law" "law" (Ý 138) f a)(t:T52%4)(d:K' P w K mg base 1 C TO2)(b:ť P w K mg base TW3):ö P w K mg base Ĳ 14 f a ["_law_script"] (Ř K yd 1):=Oy ["_law_script","_law_table_here","_law_desk","_law_rows","_law_at","_law_now","_law_k","_law_here","_law_way","_law_ask_here","_law_one","_law_other","_law_there","_law_due","_law_new_here"] ["_law_script"] yc (by lk) (by lk) A (Gy (by lk)) (by delta yc vi vj qR vm Bx vn vo By qS nK qT lO vp nM vq qU qV qW qX nN qY qZ q8 q9 rf rg;fin2)
end
def af{K:d_}{x:Str}{b:WA}(f:O)(m:String:="law_notejar_k72_desks")(t:Nat:=1053)(c:Nat:=Nat.pred f)(a:nsM K x=Z (Z (.ref f)):=by lk)(l:K.lookup f=Z ⟨r_ "function",U,.func (Xr x x (iR b) (bQ b) (ao b) .none .none .none (kS m t) U (kR c) .none),#[]⟩:=by lk)(d:ZB K (kR c) x=L:=by lk)(k:WG K (.ref f)=L:=by lk):Af K x b f:=⟨a,⟨_,F0 l d k⟩,k⟩
def amf{K:d_}{x q:Str}{a:WA}(f:O)(m:String)(t c:Nat)(l:K.lookup f=Z ⟨r_ "function",U,.func (Xr x q (iR a) (bQ a) (ao a) .none .none .none (kS m t) U (kR c) .none),#[]⟩:=by lk)(d:ZB K (kR c) q=L:=by lk)(k:WG K (.ref f)=L:=by lk):∃b,ł K x q a f b:=⟨_,F0 l d k⟩
def am{K:d_}{C:O}{x q:Str}{b:WA}{f:O}(e:∃d,ł K x q b f d)(a:WR K (.ref C) x=Z (Z (.ref f)):=by lk)(i:abB K (.ref f)=L:=by lk)(k:WG K (.ref f)=L:=by lk):Am K C q x b f:=⟨⟨a,i,k⟩,e⟩
def all_mk{l:abS}{w:y_}{K:d_}{h:O_}{i:Str->B%1}{fa:O}(X:K.In h)(G:h.Ns E_ i)(d1:i "law"=Z (.ref fa)){f1 R f3 f4 f5 f6 f7 f8 f9 o3 o2 o1 o0 n9 n8 n7 n6 n5 n4 n3 n2 n1 n0 m9 m8 m6 m4 m3 m2 m1 m0 l9 l6 l5 l3 l2 l1 l0 k5 k4 k3 k2 k1 k0 j2 j1 j0 i9 i8 i3 i1 h9 h8 h7 h6 h5 h4 h3 h2 h1 h0 g0 f0 e9 e8 e7 e6 e5 e4 e3 e2 e1 e0 d9 d8 d7 d6 fl:O}(A1:Af K "_law_cell" (Ý 124) f1)(A2:Af K "_law_drawn" (Ý 125) R)(A3:Af K "_law_name" (Ý 126) f3)(A4:Af K "_law_path" (Ý 128) f4)(A5:Af K "_law_ask" (Ý 129) f5)(A6:Af K "_law_given" (Ý 131) f6)(A7:Af K "_law_jar" (Ý 130) f7)(A8:Af K "is_text_of" (Ý 12) f8)(A9:Af K "is_label" (Ý 21) f9)(y6:Af K "is_name" (Ý 22) o3)(y5:Af K "is_rule" (Ý 23) o2)(y4:Af K "is_table" (Ý 24) o1)(y3:Af K "need_table" (Ý 26) o0)(y2:Af K "_law_refused" (Ý 134) n9)(y1:Af K "_law_new" (Ý 136) n8)(y0:Af K "_law_swept" (Ý 133) n7)(x9:Af K "lies_within" (Ý 27) n6)(x8:Af K "key" (Ý 97) n5)(x7:Af K "has_no_key_twice" (Ý 103) n4)(x6:Af K "is_by_made" (Ý 102) n3)(x5:Af K "is_whole_number" (Ý 13) n2)(x4:Af K "is_moment" (Ý 47) n1)(x3:Af K "is_moment_or_none" (Ý 48) n0)(x2:Af K "is_note_name" (Ý 68) m9)(x1:Af K "is_path" (Ý 36) m8)(x0:Af K "is_reach" (Ý 70) m6)(w7:Af K "is_tuple_of" (Ý 14) m4)(w3:Af K "is_worth" (Ý 69) m3)(w2:Af K "is_note" (Ý 92) m2)(w1:Af K "is_jar" (Ý 101) m1)(w0:Af K "need_jar" (Ý 104) m0)(v9:Af K "need_name" (Ý 25) l9)(v6:Af K "forgotten" (Ý 108) l6)(v5:Af K "when_last" (Ý 120) l5)(v3:Af K "later_of" (Ý 119) l3)(v2:Af K "need_no_more_than_a_jar_has" (Ý 105) l2)(v1:Af K "place_of" (Ý 118) l1)(v0:Af K "merged" (Ý 117) l0)(u7:Af K "is_ask" (Ý 50) k5)(u6:Af K "need_ask" (Ý 51) k4)(u4:Af K "need_moment" (Ý 49) k3)(u3:Af K "is_written_moment" (Ý 73) k2)(u2:Af K "what_is_told" (Ý 74) k1)(u1:Af K "read_given" (Ý 75) k0)(s9:Af K "read_what_is_given" (Ý 110) j2)(s8:Af K "end_for" (Ý 95) j1)(s7:Af K "house_for" (Ý 93) j0)(s6:Af K "behind_first_dot" (Ý 29) i9)(s5:Af K "ends_longest_first" (Ý 28) i8)(s4:Af K "is_told_open" (Ý 30) i3)(s3:Af K "find_open_end" (Ý 31) i1)(s2:Af K "is_open" (Ý 88) h9)(s1:Af K "is_exact" (Ý 89) h8)(s0:Af K "is_given" (Ý 71) h7)(r8:Af K "need_given" (Ý 72) h6)(r7:Af K "need_path" (Ý 37) h5)(r6:Af K "folder" (Ý 38) h4)(r5:Af K "path_for" (Ý 94) h3)(r4:Af K "find_own_end" (Ý 32) h2)(r3:Af K "comes_from_near" (Ý 52) h1)(r2:Af K "keeps_its_mark" (Ý 90) h0)(r1:Af K "why_refused" (Ý 91) g0)(r0:Af K "made" (Ý 96) f0)(q7:Af K "put" (Ý 109) e9)(q6:Af K "has_ended" (Ý 98) e8)(q5:Af K "without_ended" (Ý 107) e7)(q4:Af K "lies_under" (Ý 39) e6)(q3:Af K "shadows" (Ý 113) e5)(q2:Af K "word_of" (Ý 112) e4)(q1:Af K "take_in" (Ý 115) e3)(q0:Af K "taken" (Ý 114) e2)(p7:Af K "verdict" (Ý 111) e1)(p6:Af K "_law_next" (Ý 137) e0)(p5:Af K "_law_table" (Ý 127) d9)(p4:Af K "_law_text" (Ý 132) d8)(p3:Af K "swept" (Ý 106) d7)(p2:Af K "_law_told" (Ý 135) d6){C g1 g2 g3 g4 g5 g6 g7 g8 g9 d4 d3 d2:O}(b:CK K 1 C)(G1:Am K C "Desk.notes" "notes" (bL (Ý 122) 1) g1)(G2:Am K C "Desk.steps" "steps" (bL (Ý 122) 11) g2)(G3:∃q,ł K "__init__" "Desk.__init__" (bL (Ý 122) 0) g3 q)(mk:Mk K C g3)(G4:Am K C "Desk.move" "move" (bL (Ý 122) 10) g4)(G5:Am K C "Desk.back" "back" (bL (Ý 122) 8) g5)(G6:Am K C "Desk.do_step" "do_step" (bL (Ý 122) 2) g6)(G7:Am K C "Desk.do_and_count" "do_and_count" (bL (Ý 122) 6) g7)(G8:Am K C "Desk.forget" "forget" (bL (Ý 122) 5) g8)(G9:Am K C "Desk.forth" "forth" (bL (Ý 122) 9) g9)(p1:Am K C "Desk.give" "give" (bL (Ý 122) 3) d4)(o5:Am K C "Desk.merge" "merge" (bL (Ý 122) 7) d3)(o4:Am K C "Desk.sweep" "sweep" (bL (Ý 122) 4) d2)(AL:Af K "law" (Ý 138) fl)(ma:CC.all (Sk K)=L){C0 C1 C2 C3 C4 C5 C6 C8 CJ:O}(cb:caB K [0,1,2,3,4,5,6,8] [C0,C1,C2,C3,C4,C5,C6,0,C8] CJ 9=L):∃q:WE,(∀(s:h_)(v:B),abH s q ⟨[v],[]⟩ [("_law_script",v)])/\∀f:O_,K.In f->f.Ns E_ i->ö l.prog w K i f Ĳ 14 fa q ["_law_script"] (Ř K yd 1):=by
 have e:=d1.symm.trans (Yg X G AL.a);cases e;have M:=NX X G CC ma;obtain⟨q,Fn⟩:=AL.F;refine⟨q,?_,λf _ _=>?_⟩;·obtain⟨oc,od,kV,y9,pm,an,z0,ct,y7,rfl,lk,y8⟩:=Fn.ex;exactλs v=>.of_eq rfl
 obtain⟨a,d⟩:=Ss X G cb;have y':K' l.prog w K i f 1 C TO0:=Jq;have v':ī l.prog w K i f 1 C TV0:=JM;have l':ť l.prog w K i f TW0:=JL;have t0:HA l.prog w K i f T0:=NW;have J':Ć l.prog w K i f TE0:=IN;have z':G' l.prog w K i f TM0:=IP;have x':=qw b X G M a d G1 y';have w':=qz b X G M a d G2 x';have t1:=tu b X G M a d A1 t0;have t2:=qA b X G M a d A2 t1;have t3:=tz b X G M a d A3 t2;have t4:=tE b X G M a d A4 t3;have t5:=uV b X G M a d A5 t4;have t6:=qB b X G M a d A6 t5;have t7:=uW b X G M a d A7 t6;have t8:=qC b X G M a d A8 t7;have t9:=uX b X G M a d A9 t8;have d0:=xS b X G M a d y6 t9;have c4:=xT b X G M a d y5 d0;have A:=uY b X G M a d y4 c4;have r:=qE b X G M a d y3 A J';have tj:=lJ b X G M a d G3 mk r;have m:=ny b X G M a d y2 z';have k':=tH b X G M a d y1 m l' tj;have c3:=qF b X G M a d y0 A;have c2:=ot b X G M a d x9 c3;have c1:=O2 b X G M a d x8 c2;have c0:=kn b X G M a d x7 c1;have b9:=qG b X G M a d x6 c0;have b8:=kX b X G M a d x5 b9;have b7:=tJ b X G M a d x4 b8;have b6:=jY b X G M a d x3 b7;have b5:=nA b X G M a d x2 b6;have b4:=xU b X G M a d x1 b5;have b3:=uZ b X G M a d x0 b4;have b2:=ou b X G M a d w7 b3;have b1:=u0 b X G M a d w3 b2;have b0:=xV b X G M a d w2 b1;have k:=Bt b X G M a d w1 b0;have I':=u5 b X G M a d w0 k r;have H':=tK b X G M a d v9 k I';have F':=tL b X G M a d v6 k H';have a9:=tM b X G M a d v5 k;have a8:=u8 b X G M a d v3 a9;have E':=fU b X G M a d v2 F';have z:=u9 b X G M a d v1 a8;have D':=Bu b X G M a d v0 z E';have p:=Bv b X G M a d u7 z;have C':=vb b X G M a d u6 p D';have B':=ow b X G M a d u4 p C';have a7:=jZ b X G M a d u3 p;have y:=nF b X G M a d u2 a7;have A':=qH b X G M a d u1 y B';have g':=jw b X G M a d s9 A';have a6:=xW b X G M a d s8 y;have a5:=tN b X G M a d s7 a6;have a4:=ko b X G M a d s6 a5;have a3:=jz b X G M a d s5 a4;have a2:=nG b X G M a d s4 a3;have a1:=l8 b X G M a d s3 a2;have a0:=xX b X G M a d s2 a1;have U':=ve b X G M a d s1 a0;have o:=vf b X G M a d s0 U';have f':=qI b X G M a d r8 o g';have e':=tP b X G M a d r7 o f';have d':=Bw b X G M a d r6 e';have c':=vg b X G M a d r5 d';have T':=nI b X G M a d r4 o;have S':=k9 b X G M a d r3 T';have n:=lN b X G M a d r2 S';have b':=oy b X G M a d r1 n c';have a':=Kc b X G M a d r0 n b';have R':=O3 b X G M a d q7 n;have Q':=tQ b X G M a d q6 R';have O':=mf b X G M a d q5 Q';have N':=qK b X G M a d q4 O';have j:=xY b X G M a d q3 N';have Q:=xZ b X G M a d q2 j a';have I:=ya b X G M a d q1 j Q;have H:=ET b X G M a d q0 I;have g:=yb b X G M a d p7 H;have i':=qL b X G M a d p6 j g m k';have M':=qM b X G M a d p5 j;have u:=tW b X G M a d p4 M';have u':=qN b X G M a d G4 v';have t':=qO b X G M a d G5 u';have s':=mh b X G M a d G6 t';have r':=jI b X G M a d G7 s';have q':=nJ b X G M a d G8 g r';have p':=oz b X G M a d G9 q';have o':=qP b X G M a d p1 g p';have n':=oA b X G M a d o5 g o';have E:=EV b X G M a d p3 u g;have m':=oE b X G M a d o4 E n';have h':=qQ b X G M a d p2 m m' i';exact O4 b X G M a d Fn u w' h'
end G
set_option maxHeartbeats 4000000
namespace FD
open PySem.StrLaws PySem.Builtin PySem.Builtin.Str
def J(S:Nat%0):Nat%0->(Nat%0)%0->Nat%0|p,[]=>p|p,q::r=>p++(S++J S q r)
def ž:At d p d.length b↔b+p.length<=d.length/\(d.cps.toList.drop b).take p.length=p.cps.toList:=by unfold At;rw[subAt_eq];simp
def Bz(e:p.cps.toList=b::Ç){k:Nat}(h:At d p d.length k):d.cps.toList[k]?=Z b:=by
 obtain⟨_,f⟩:=ž.mp h;rw[e]at f;have a:=congrArg (λl=>l[0]?) f;simp![List.getElem?_cons_zero]at a;have g:0<p.length:=by show 0<p.cps.size;rw[<-WX,e];simp
 rw[abh g,aaT]at a;simpa using a
def Ke(n:p.cps.toList=b::Ç){f i:Nat%0}{a k:Nat}(m:d.cps.toList.drop a=f++i)(j:b∉f)(q:a<=k)(o:k<a+f.length):¬At d p d.length k:=by
 intro h;have e:=Bz n h;have g:(d.cps.toList.drop a)[k-a]?=Z b:=by rw[aaT,show a+(k-a)=k by omega];exact e
 rw[m,N_ ()]at g;exact j (We g)
def wC{x b:Str}{c:Nat}{w:Nat%0}(A:b.cps.toList=c::w):∀(g:(Nat%0)%0)(p:Nat%0)(a:Nat)(d:Nat%0)(f:Nat),(∀q∈p::g,c∉q)->x.cps.toList.drop a=J b.cps.toList p g->a<=x.length->ChainG x b x.length a d f->(∀k,f<=k->¬At x b x.length k)->(partsFrom x b.length a d).map (λs=>s.cps.toList)=p::g
 |[],p,a,d,f,y,o,ha,u,H=>by
  have i:x.cps.toList.length=x.length:=by simp[aaJ]
  have I:∀k,a<=k->¬At x b x.length k:=λk hk h=>by
   have e:=Bz A h;have e2:(x.cps.toList.drop a)[k-a]?=Z c:=by rw[aaT,show a+(k-a)=k by omega];exact e
   rw[o]at e2;exact y p pi (We e2)
  cases d with|nil=>
   show[(strSub x a x.length).cps.toList]=[p];rw[strSub_toList,o];show[p.take (x.length-a)]=[p];have:p.length=x.length-a:=by have:=congrArg aae o;rw[Z1,i]at this;exact this.symm
   rw[ZN ()]        |cons k E=>exact absurd u.2.1 (I k u.1)
 |q::r,p,a,d,f,y,o,ha,u,H=>by
  have i:x.cps.toList.length=x.length:=by simp[aaJ]
  have j:b.cps.toList.length=b.length:=by simp[aaJ]
  have n:x.cps.toList.drop a=p++(b.cps.toList++J b.cps.toList q r):=o;have m:x.cps.toList.drop (a+p.length)=b.cps.toList++J b.cps.toList q r:=by rw[<-List.drop_drop,n,List.drop_left]
  have Q:=congrArg aae m;rw[Z1,i,Ws,j]at Q;have b':0<b.length:=by rw[<-j,A];simp
  have v:At x b x.length (a+p.length):=ž.mpr ⟨by omega,by rw[m,<-j,List.take_left]⟩;have a':∀k,a<=k->k<a+p.length->¬At x b x.length k:=λk h1 h2=>Ke A n (y p pi) h1 h2;cases d with|nil=>exact absurd v (H _ (by have:f=a:=u;omega))|cons k E=>
   obtain⟨g1,g2,g3,g4⟩:=u;have ek:k=a+p.length:=by
    rcases aa3 k (a+p.length)with h|h|h;·exact absurd g2 (a' k g1 h)
    ·exact h
    ·exact absurd v (g3 _ () h)
   subst ek;show(strSub x a (a+p.length)).cps.toList::(partsFrom x b.length (a+p.length+b.length) E).map (λs=>s.cps.toList)=p::q::r;rw[wC A r q (a+p.length+b.length) E f (λz hz=>y z (s_ _ hz)) (by rw[<-List.drop_drop,m,<-j,List.drop_left]) () g4 H,strSub_toList,n,show a+p.length-a=p.length by omega,List.take_left]
def BA(h:d.cps.toList=p.cps.toList):d=p:=by obtain⟨⟨d⟩⟩:=d;obtain⟨⟨p⟩⟩:=p;simp at h;rw[h]
def kq:∀{l m:Str%0},l.map (λs=>s.cps.toList)=m.map (λs=>s.cps.toList)->l=m|[],[],_=>rfl|a::l,b::m,h=>by simp![G_,abW]at h;rw[BA h.1,kq h.2]|[],_::_,h=>by simp at h|_::_,[],h=>by simp at h
def vt(v:p.cps.toList=b::Ç)(I:XF p=1){a:Str}{e:Str%0}(o:∀q∈a::e,b∉q.cps.toList)(k:d.cps.toList=J p.cps.toList a.cps.toList (e.map λs=>s.cps.toList)):X0 d p=a::e:=by
 have i:p.cps.toList.length=p.length:=by simp[aaJ]
 have j:d.cps.toList.length=d.length:=by simp[aaJ]
 obtain⟨f,A,y⟩:=occ_tight d p (by rw[<-i,v];simp);have g:=wC v (e.map λs=>s.cps.toList) a.cps.toList 0 _ f (by
  intro q m;rcases v_.mp m with rfl|m;·exact o a pi
  ·obtain⟨s,w,rfl⟩:=U_.mp m;exact o s (s_ _ w)) (by rw[aaW];exact k) (Wm _) A y;have H:1<=XF d:=by unfold XF;split;omega;split<;>omega
 unfold X0;split
 · rename_i u;rw[adG,decide_eq_true_eq,decide_eq_true_eq]at u;rcases u with h|h;·cases e with|nil=>rw[BA (d:=d) (p:=a) k]|cons q r=>have:=congrArg aae k;rw[j]at this;simp![G_,J,Ws,i]at this;omega
   ·omega
 · split;·rename_i z;have E:occurrences d p 0 d.length (d.length+1)=[]:=List.isEmpty_iff.mp z;rw[E]at g;have n:[(strSub d 0 d.length).cps.toList]=a.cps.toList::(e.map λs=>s.cps.toList):=g;rw[sub_whole]at n;exact kq (l:=[d]) (m:=a::e) n
   ·rw[partsBetween_eq];exact kq (by rw[g];rfl)
open L2
def wD{d:Û}{e:Ev}{g:Type}(i:g->N)(f:g->N):∀{l:g%0},(∀a∈l,d (e.set 0 (Z (i a)))=f a%3)->zr U d e (l.map i)=Z (l.map f)|[],_=>rfl|a::l,h=>by have j:=wD (d:=d) (e:=e) i f (l:=l) λb k=>h b (s_ _ k);rw[G_,G_];unfold zr;dsimp!;rw[h a pi,j]
def tX{e:î}{g:Û}{d:Ev}{i:Type}(j:i->N)(p:i->Bool)(f:i->N):∀{l:i%0},(∀a∈l,e (d.set 0 (Z (j a)))=p a%3/\g (d.set 0 (Z (j a)))=f a%3)->zr (Z e) g d (l.map j)=Z ((l.filter p).map f)|[],_=>rfl|a::l,h=>by have k:=tX (e:=e) (g:=g) (d:=d) j p f (l:=l) λb m=>h b (s_ _ m);obtain⟨o,n⟩:=h a pi;rw[G_];unfold zr;dsimp!;rw[o,k];cases q:p a with|true=>dsimp!;rw[n,Yw q];rfl|false=>dsimp!;rw[XA (by rw[q];decide)]
def wE{d:Û}{e:Ev}{i:Type}(g:i->N)(f:i->N):∀{l:i%0},(∀a∈l,d (e.set 0 (Z (g a)))=f a%3)->lA (gN 0) U d e (l.map g)=Z (l.map f)|[],_=>rfl|a::l,h=>by have j:=wE (d:=d) (e:=e) g f (l:=l) λb k=>h b (s_ _ k);rw[G_,G_];unfold lA;show(match d (e.set 0 (Z (g a)))with|some (.ok y)=>_|_=>_)=_;rw[h a pi,j]
def tY{e:î}{g:Û}{d:Ev}{j:Type}(i:j->N)(p:j->Bool)(f:j->N):∀{l:j%0},(∀a∈l,e (d.set 0 (Z (i a)))=p a%3/\g (d.set 0 (Z (i a)))=f a%3)->lA (gN 0) (Z e) g d (l.map i)=Z ((l.filter p).map f)|[],_=>rfl|a::l,h=>by have k:=tY (e:=e) (g:=g) (d:=d) i p f (l:=l) λb m=>h b (s_ _ m);obtain⟨o,n⟩:=h a pi;rw[G_];unfold lA;show(match e (d.set 0 (Z (i a)))with|some (.ok L)=>_|some (.ok D)=>_|_=>_)=_;rw[o,k];cases q:p a with|true=>dsimp!;rw[n,Yw q];rfl|false=>dsimp!;rw[XA (by rw[q];decide)]
def lc{d:(Str×Nat)%0}(b f:θ->N){l:θ%0}(g:ο ζ=l.map b%3)(e:l.length<=100000)(h:∀a∈l,A ((Cz d ζ).set 0 (Z (b a)))=f a%3):dv d ο U A ζ=.lst (l.map f)%3:=by unfold dv;rw[g];show(match zr U A (Cz d ζ) (l.map b)with|some i=>_|none=>_)=_;rw[wD b f h];dsimp!;rw[if_pos ⟨by simpa using e,by simpa using e⟩]
def jK{d:(Str×Nat)%0}(b:θ->N)(p:θ->Bool)(f:θ->N){l:θ%0}(e:ο ζ=l.map b%3)(g:l.length<=100000)(h:∀a∈l,Ν ((Cz d ζ).set 0 (Z (b a)))=p a%3/\A ((Cz d ζ).set 0 (Z (b a)))=f a%3):dv d ο (Z Ν) A ζ=.lst ((l.filter p).map f)%3:=by unfold dv;rw[e];show(match zr (Z Ν) A (Cz d ζ) (l.map b)with|some i=>_|none=>_)=_;rw[tX b p f h];dsimp!;have:=Xp p l;rw[if_pos ⟨by simp;omega,by simpa using g⟩]
def tZ{d:(Str×Nat)%0}(b f:θ->N){l:θ%0}(g:ο ζ=l.map b%3)(e:l.length<=100000)(h:∀a∈l,A ((jj 1 d ζ).set 0 (Z (b a)))=f a%3):dt 1 d ο (gN 0) U A ζ=.lst (l.map f)%3:=by unfold dt;rw[g];show(match lA (gN 0) U A (jj 1 d ζ) (l.map b)with|some i=>_|none=>_)=_;rw[wE b f h];dsimp!;rw[if_pos ⟨by simpa using e,by simpa using e⟩]
def ye{d:(Str×Nat)%0}(b:θ->N)(p:θ->Bool)(f:θ->N){l:θ%0}(e:ο ζ=l.map b%3)(g:l.length<=100000)(h:∀a∈l,Ν ((jj 1 d ζ).set 0 (Z (b a)))=p a%3/\A ((jj 1 d ζ).set 0 (Z (b a)))=f a%3):dt 1 d ο (gN 0) (Z Ν) A ζ=.lst ((l.filter p).map f)%3:=by unfold dt;rw[e];show(match lA (gN 0) (Z Ν) A (jj 1 d ζ) (l.map b)with|some i=>_|none=>_)=_;rw[tY b p f h];dsimp!;have:=Xp p l;rw[if_pos ⟨by simp;omega,by simpa using g⟩]
def Kf(h:-(2^62)<=m/\m<2^62/\-(2^62)<=Ε/\Ε<2^62):Cy [.int m,.int Ε]=rng m (Ε-m).toNat%3:=by rw[Cy,if_pos h]
def Kg(h:-(2^62)<=m/\m<2^62):yq [.int m]=rng 0 m.toNat%3:=by rw[yq,if_pos h]
def Kh(h:b<=1000):-(2^62)<=(1:Int)/\(1:Int)<2^62/\-(2^62)<=(b:Int)/\(b:Int)<2^62:=by omega
def O5(h:b<=1000):Cy [.int 1,.int (b:Int)]=rng 1 ((b:Int)-1).toNat%3:=Kf (Kh h)
def O6(h:b<=1000):yq [.int (b:Int)]=rng 0 b%3:=by rw[Kg ()];rfl
def nO{b:Type}(p:b->Bool):∀l:b%0,kJ (l.map λa=>N.bl (p a))=Z (l.map p)|[]=>rfl|a::l=>by show(match kJ (l.map λa=>N.bl (p a))with|some bs=>Z (p a::bs)|none=>U)=_;rw[nO p l];rfl
mutual
def Ŵ:N->Bool|.exn _=>D|.obj _ _=>D|.tup ds=>Ň ds|.lst ds=>Ň ds|_=>L
def Ň:N%0->Bool|[]=>L|d::ds=>Ŵ d&&Ň ds
end
mutual
theorem wF:∀d:N,Ŵ d=L->WY (gV d) (gV d)=L
 |.non,_=>by simp[gV,WY]|.bl b,_=>by simp[gV,WY]|.int b,_=>by simp[gV,WY]|.str b,_=>by simp[gV,WY]|.tup ds,h=>by simp![gV,WY];exact Ĩ ds (by simpa[Ŵ]using h)|.lst ds,h=>by simp![gV,WY];exact Ĩ ds (by simpa[Ŵ]using h)|.scr a,_=>by simp![gV,WY];induction a with|nil=>simp[XN]|cons n a f=>simp[XN,WY];exact f rfl
 |.exn _,h=>by simp[Ŵ]at h|.obj _ _,h=>by simp[Ŵ]at h
theorem Ĩ:∀ds:N%0,Ň ds=L->XN (ý ds) (ý ds)=L
 |[],_=>by simp[ý,XN]|d::ds,h=>by
  have e:Ŵ d=L/\Ň ds=L:=by simpa[Ň]using h
  simp![ý,XN,m_];exact⟨wF d e.1,Ĩ ds e.2⟩end
def lf(a b:Str):ū (.str a) (.str b)=Z (seq a b):=rfl
def wG(a:Str):ū (.str a) .non=Z D:=rfl
def ua(a b:Int):ū (.int a) (.int b)=Z (a==b):=rfl
def EW:∀d:N,ū d d=Z L\/ū d d=U|.non=>.inl rfl|.bl b=>.inl (by cases b<;>rfl)|.int i=>.inl (congrArg Z ∅)|.str x=>.inl (congrArg Z (by unfold seq;simp))|.tup _=>.inr rfl|.lst _=>.inr rfl|.scr _=>.inr rfl|.exn _=>.inr rfl|.obj _ _=>.inr rfl
def BB(b:okP i=L)(a:Ŵ i=L):İ i i=.bl D%3:=by
 unfold İ;rcases EW i with e|e<;>rw[e];·rfl
 ·show(if(okP i&&okP i)=L then Z (Rs.ok (N.bl (!WY (gV i) (gV i))))else U)=_;rw[b,wF i a];rfl
structure Ě(k:Nat)(d:N):Prop where
 c:Wi (gV d)=L
 dp:(gV d).depth<=k
 p:Ŵ d=L
def Ki{k:Nat}:∀{ds:N%0},(∀d∈ds,Ě k d)->X3 (ý ds)=L/\abT (ý ds)<=k/\Ň ds=L|[],_=>by simp[ý,X3,abT,Ň]|d::ds,h=>by obtain⟨f,i,e⟩:=Ki (ds:=ds) λg b=>h g (s_ _ b);have a:=h d pi;simp![ý,X3,abT,Ň,m_];exact⟨⟨a.c,f⟩,by have:=a.dp;omega,a.p,e⟩
def pF(h:∀d∈E,Ě b d):Ě (b+1) (.tup E):=by obtain⟨f,e,a⟩:=Ki h;exact⟨by simpa[gV,Wi]using f,by simp[gV,ZD];exact e,by simpa[Ŵ]using a⟩
def BC(h:∀d∈E,Ě b d):Ě (b+1) (.lst E):=by obtain⟨f,e,a⟩:=Ki h;exact⟨by simpa[gV,Wi]using f,by simp[gV,ZD];exact e,by simpa[Ŵ]using a⟩
def Ě.okP(h:Ě b i)(a:b<=64):okP i=L:=by unfold FD.okP SeqAt.shaped;rw[h.c];have:=h.dp;simp;omega
def Ě.le(h:Ě b i)(a:b<=j):Ě j i:=⟨h.c,Wa h.dp a,h.p⟩
def jg(h:Wi (.str d)=L):Ě 0 (.str d):=⟨h,by simp[gV,ZD],rfl⟩
def lX:Ě 0 (.int m):=⟨rfl,by simp[gV,ZD],rfl⟩
def O7:Ě 0 (.bl δ):=⟨rfl,by simp[gV,ZD],rfl⟩
def O8:Ě 0 .non:=⟨rfl,by simp[gV,ZD],rfl⟩
end FD
namespace G
open L2 FD
def mi(h:Χ (E.map Z++u_ (b-E.length) U)=Z (.rt i)):fX b Χ E=i%3:=by unfold fX;rw[h]
def CG(h:Χ (E.map Z++u_ (b-E.length) U)=j%9):fX b Χ E=j%9:=by unfold fX;rw[h]
def cE(F:ß){n:Nat}{g:ë}{b:Ev}{a:N%0}{r:Rs N%1}(h:g b=a%3)(d:a.length=n)(e:F a=r):aC F n g b=r:=by unfold aC;rw[h,<-e];exact if_pos d
def Vx(h:A ζ=b%9):fA A ζ=b%9:=by unfold fA;rw[h];rfl
def EY{a:ä}(h:Χ ζ=b%9):aQ Χ a ζ=b%9:=by unfold aQ;rw[h];rfl
def O9{g:ä}(h:Ν ζ=L%3)(a:Χ ζ=b%9):bt Ν Χ g ζ=b%9:=by rw[xR h,a]
def Kj(a:Int%0)(s:a.length<=63)(k:Int):∃c,dU [.scr a,.int k]=.int c%3:=by cases a with|nil=>exact⟨7*k,by lk⟩|cons n r=>
 have v:0<(n::r).length:=by simp
 have b:(0:Int)<((n::r).length:Int):=by omega
 have p:((n::r).length:Int)<1073741824:=by omega
 have o:0<=k%((n::r).length:Int):=X2 _ ();have u:k%((n::r).length:Int)<((n::r).length:Int):=Xi _ b;have m:(k%((n::r).length:Int)).toNat<(n::r).length:=by omega
 refine⟨(n::r)[(k%((n::r).length:Int)).toNat]+6553*(k/((n::r).length:Int)),?_⟩;have f:ċ (n::r) (k%((n::r).length:Int))=Z (n::r)[(k%((n::r).length:Int)).toNat]:=by unfold ċ;rw[if_pos o,I_ m]
 have g:kx (.int k) (.int ((n::r).length:Int))=.int (k%((n::r).length:Int))%3:=by show(if 0<((n::r).length:Int)then _ else _)=_;rw[if_pos b]
 have j:kG (.int k) (.int ((n::r).length:Int))=.int (k/((n::r).length:Int))%3:=by show(if 0<((n::r).length:Int)/\((n::r).length:Int)<1073741824 then _ else _)=_;rw[if_pos ⟨b,p⟩]
 have h:Ö (.scr (n::r)) (.int (k%((n::r).length:Int)))=.int (n::r)[(k%((n::r).length:Int)).toNat]%3:=by show(match ċ (n::r) (k%((n::r).length:Int))with|some d=>_|none=>_)=_;rw[f]
 show(match gB [Z (.scr (n::r)),Z (.int k)]with|some (.nx _)=>_|some (.rt d)=>_|_=>_)=_;have e:gB [Z (.scr (n::r)),Z (.int k)]=cV (Þ (Þ (kx (.int k) (.int ((n::r).length:Int))) λi=>Ö (.scr (n::r)) i) λx=>Þ (Þ (kG (.int k) (.int ((n::r).length:Int))) λq=>lj (.int 6553) q) λy=>cf x y) λd=>Z (.rt d):=by lk
 rw[e,g,j];show(match cV (Þ (Ö (.scr (n::r)) (.int (k%((n::r).length:Int)))) λx=>_) _ with|some (.nx _)=>_|some (.rt d)=>_|_=>_)=_;rw[h];lk
def dr1(c k:Int):Int:=(c%2147483563*69069+104723*(k+1))%2147483563
def dr2(c:Int):Int:=(c*c+c/3)%2147483399
def dr3(c m:Int):Int:=(c*c+c/7)%2147483647/11%m
def pG(h:(-18446744073709551616<m/\m<18446744073709551616)\/(-18446744073709551616<Ε/\Ε<18446744073709551616)):lj (.int m) (.int Ε)=.int (m*Ε)%3:=by show(if _ then _ else _)=_;rw[if_pos h]
def ub(h:0<Ε):kx (.int m) (.int Ε)=.int (m%Ε)%3:=by show(if _ then _ else _)=_;rw[if_pos h]
def aV(a:Int%0)(j:a.length<=63)(k m:Int)(g:0<m):∃d:Int,0<=d/\d<m/\ae [.scr a,.int k,.int m]=.int d%3:=by
 obtain⟨c,n⟩:=Kj a j k;refine⟨dr3 (dr2 (dr1 c k)) m,X2 _ (),Xi _ g,?_⟩;have v:0<=dr1 c k/\dr1 c k<2147483563:=⟨X2 _ (),Xi _ ()⟩;have u:0<=dr2 (dr1 c k)/\dr2 (dr1 c k)<2147483399:=⟨X2 _ (),Xi _ ()⟩;have w:0<=c%2147483563/\c%2147483563<2147483563:=⟨X2 _ (),Xi _ ()⟩;show bM 4 ez [.scr a,.int k,.int m]=_;have i:(ag dU 2 (bp (Y 0) (Y 1))) [Z (.scr a),Z (.int k),Z (.int m),U]=.int c%3:=by show(match dU [.scr a,.int k]with|some (.ok d)=>(d%3:Rs N%1)|_=>U)=_;rw[n]
 have q:(cx 3 (R kx (R cf (R lj (R kx (ag dU 2 (bp (Y 0) (Y 1))) (X 2147483563)) (X 69069)) (R lj (X 104723) (R cf (Y 1) (X 1)))) (X 2147483563))) [Z (.scr a),Z (.int k),Z (.int m),U]=Z (.nx [Z (.scr a),Z (.int k),Z (.int m),Z (.int (dr1 c k))]):=by show cV (Þ (Þ (Þ (Þ ((ag dU 2 (bp (Y 0) (Y 1))) [Z (.scr a),Z (.int k),Z (.int m),U]) λx=>kx x (.int 2147483563)) λx=>lj x (.int 69069)) λx=>Þ (lj (.int 104723) (.int (k+1))) λy=>cf x y) λx=>kx x (.int 2147483563)) (λd=>Z (.nx [Z (.scr a),Z (.int k),Z (.int m),Z d]))=_;rw[i];show cV (Þ (Þ (Þ (kx (.int c) (.int 2147483563)) λx=>lj x (.int 69069)) λx=>Þ (lj (.int 104723) (.int (k+1))) λy=>cf x y) λx=>kx x (.int 2147483563)) _=_;rw[ub (),pG (m:=104723) (.inl ())];show cV (Þ (Þ (lj (.int (c%2147483563)) (.int 69069)) λx=>cf x (.int (104723*(k+1)))) λx=>kx x (.int 2147483563)) _=_;rw[pG (.inl ())];show cV (kx (.int (c%2147483563*69069+104723*(k+1))) (.int 2147483563)) _=_;rw[ub ()];rfl
 generalize s:dr1 c k=f at*;have p:(cx 3 (R kx (R cf (R lj (Y 3) (Y 3)) (R kG (Y 3) (X 3))) (X 2147483399))) [Z (.scr a),Z (.int k),Z (.int m),Z (.int f)]=Z (.nx [Z (.scr a),Z (.int k),Z (.int m),Z (.int (dr2 f))]):=by show cV (Þ (Þ (lj (.int f) (.int f)) λx=>cf x (.int (f/3))) λx=>kx x (.int 2147483399)) (λd=>Z (.nx [Z (.scr a),Z (.int k),Z (.int m),Z d]))=_;rw[pG (.inl ())];show cV (kx (.int (f*f+f/3)) (.int 2147483399)) _=_;rw[ub ()];rfl
 generalize r:dr2 f=b at*;have o:(aR (R kx (R kG (R kx (R cf (R lj (Y 3) (Y 3)) (R kG (Y 3) (X 7))) (X 2147483647)) (X 11)) (Y 2))) [Z (.scr a),Z (.int k),Z (.int m),Z (.int b)]=Z (.rt (.int (dr3 b m))):=by show cV (Þ (Þ (Þ (Þ (lj (.int b) (.int b)) λx=>cf x (.int (b/7))) λx=>kx x (.int 2147483647)) λx=>kG x (.int 11)) λx=>kx x (.int m)) (λd=>Z (.rt d))=_;rw[pG (.inl ())];show cV (Þ (Þ (kx (.int (b*b+b/7)) (.int 2147483647)) λx=>kG x (.int 11)) λx=>kx x (.int m)) _=_;rw[ub ()];show cV (kx (.int ((b*b+b/7)%2147483647/11)) (.int m)) _=_;rw[ub g];rfl
 show(match ez [Z (.scr a),Z (.int k),Z (.int m),U]with|some (.nx _)=>_|some (.rt d)=>_|_=>_)=_;have e:ez [Z (.scr a),Z (.int k),Z (.int m),U]=Z (.rt (.int (dr3 b m))):=by show sq ((cx 3 _) _) (λh=>sq ((cx 3 _) h) _)=_;rw[q];show sq ((cx 3 _) [Z (.scr a),Z (.int k),Z (.int m),Z (.int f)]) _=_;rw[p];exact o
 rw[e]
def ħ:Str%0:=[b_ "a.b",b_ "b",b_ "x.a.b",b_ "y.x.a.b",b_ "c.uk",b_ "uk",b_ "d.c.uk",b_ "e.d.c.uk",b_ "w.ck",b_ "v.w.ck",b_ "ck",b_ "g-1.a.b",b_ "7.b",b_ "p.q"]
def ò:N%0:=[.str "!w.ck",.str "*.ck",.str "*.uk",.str "a.b",.str "b",.str "c.uk",.str "q",.str "uk"]
def lg:N%0->(N%0)%0|[]=>[[]]|x::r=>(lg r).map (x::·)++lg r
def okO(o:Rs N%1):Rs N%1:=match o with|some (.ok d)=>d%3|_=>U
def ii(b:0<=m)(d:m<E.length):∃x∈E,Ö (.lst E) (.int m)=x%3:=by
 have a:m.toNat<E.length:=by omega
 refine⟨E[m.toNat],Z2 a,?_⟩;show(match ċ E m with|some m=>_|none=>_)=_;unfold ċ;rw[if_pos b,I_ a]
def drL(o:Rs N%1)(l:Str%0):Rs N%1:=match cV (Þ (match o with|some (.ok d)=>(d%3:Rs N%1)|_=>U) λi=>Ö (.lst (l.map N.str)) i) λd=>Z (.rt d)with|some (.nx _)=>.non%3|some (.rt d)=>d%3|_=>U
def GB{o:Rs N%1}(g:0<=m)(f:m<H.length)(d:o=.int m%3):∃p∈H,drL o H=.str p%3:=by obtain⟨x,a,e⟩:=ii (E:=H.map N.str) g (by rw[S_];exact f);obtain⟨p,b,rfl⟩:=U_.1 a;subst d;refine⟨p,b,?_⟩;unfold drL Þ;dsimp!;rw[e];rfl
def nP(a:Int%0)(b:a.length<=63)(k:Int):∃p∈ħ,aY [.scr a,.int k]=.str p%3:=by obtain⟨d,g,f,e⟩:=aV a b k 14 ();rw[show aY [.scr a,.int k]=drL (ae [.scr a,.int k,.int 14]) ħ by lk];exact GB g f e
def Kk:î:=fB (R è (ag ae 3 (bS (Y 2) (R cf (Y 3) (Y 0)) (X 2))) (X 0))
def GC(a:Int%0)(g:a.length<=63)(z:Int):∀(l:N%0)(k:Nat),∃t∈lg l,lA (gP 0 1) (Z Kk) (Y 1) [U,U,Z (.scr a),Z (.int z)] (lB k l)=Z t
 |[],k=>⟨[],by simp[lg],rfl⟩|x::r,k=>by
  obtain⟨t,f,e⟩:=GC a g z r (k+1);obtain⟨d,o,n,j⟩:=aV a g (z+k) 2 ();have b:Kk [Z (.int k),Z x,Z (.scr a),Z (.int z)]=Þ (Þ (okO (ae [.scr a,.int (z+k),.int 2])) λx=>è x (.int 0)) ą:=by lk
  have i:lA (gP 0 1) (Z Kk) (Y 1) [U,U,Z (.scr a),Z (.int z)] (lB k (x::r))=(match Kk [Z (.int k),Z x,Z (.scr a),Z (.int z)]with|some (.ok L)=>(match lA (gP 0 1) (Z Kk) (Y 1) [U,U,Z (.scr a),Z (.int z)] (lB (k+1) r)with|some h=>Z (x::h)|none=>U)|some (.ok D)=>lA (gP 0 1) (Z Kk) (Y 1) [U,U,Z (.scr a),Z (.int z)] (lB (k+1) r)|_=>U):=by lk
  rw[i,b,j,e];have m:d=0\/d=1:=by omega
  rcases m with rfl|rfl;·exact⟨x::t,by simp[lg,f],by lk⟩
  ·exact⟨t,by simp[lg,f],by lk⟩
def rh:∀{l t:N%0},t∈lg l->t.length<=l.length
 |[],t,h=>by simp[lg]at h;simp[h]|x::r,t,h=>by
  simp![lg,V8,U_]at h;rcases h with⟨u,a,rfl⟩|h;·have:=rh a;simp;omega
  ·have:=rh h;simp;omega
def EZ(a:Int%0)(i:a.length<=63):∃t∈lg ò,fV [.scr a,.int 0]=.tup t%3:=by
 obtain⟨t,g,e⟩:=GC a i 0 ò 0;refine⟨t,g,?_⟩;have f:t.length<=100000:=by have:=rh g;have:ò.length=8:=rfl;omega
 have h:fV [.scr a,.int 0]=(match cV (Þ (Þ (match lA (gP 0 1) (Z Kk) (Y 1) [U,U,Z (.scr a),Z (.int 0)] (lB 0 ò)with|some b=>if b.length<=100000/\(lB 0 ò).length<=100000 then(.lst b%3:Rs N%1)else U|none=>U) λx=>Þ (Z (.ok [])) λb=>(x::b)%3) gq) λd=>Z (.rt d)with|some (.nx _)=>.non%3|some (.rt d)=>d%3|_=>U):=by lk
 rw[h,e];dsimp!;rw[if_pos ⟨f,by decide⟩];rfl
def ø:Str%0:=[b_ "/",b_ "/x",b_ "/x/",b_ "/x/y",b_ "/xy",b_ "/x/y/z.q",b_ "//",b_ "/-_.9",b_ "/x/y/"]
def vv(a:Int%0)(b:a.length<=63)(k:Int):∃p∈ø,cB [.scr a,.int k]=.str p%3:=by obtain⟨d,g,f,e⟩:=aV a b k 9 ();rw[show cB [.scr a,.int k]=drL (ae [.scr a,.int k,.int 9]) ø by lk];exact GB g f e
def vx(F:ß){f g k:Û}{e:Ev}{a b c d:N}(h:f e=a%3)(m:g e=b%3)(i:k e=c%3)(j:F [a,b,c]=d%3):ag F 3 (bS f g k) e=d%3:=qg (ac h (ac m (ac i aq))) rfl j
def Fa(a:Int%0)(b:a.length<=63)(z:Int):∃s h p O,h∈ħ/\p∈ø/\(O=N.non\/∃o∈ħ,O=.str o)/\jR [.scr a,.int z]=.tup [.bl s,.str h,.str p,O]%3:=by
 obtain⟨f,H,E,m⟩:=aV a b (z+2) 3 ();obtain⟨o,q,d⟩:=nP a b (z+3);obtain⟨w,A,y,n⟩:=aV a b z 2 ();obtain⟨h,u,j⟩:=nP a b (z+1);obtain⟨p,r,i⟩:=vv a b (z+4);have g:∃O,(O=N.non\/∃o∈ħ,O=.str o)/\Ö (.lst [.non,.str o,.str o]) (.int f)=O%3:=by
  have v:f=0\/f=1\/f=2:=by omega
  rcases v with rfl|rfl|rfl;·exact⟨.non,.inl rfl,rfl⟩
  ·exact⟨.str o,.inr ⟨o,q,rfl⟩,rfl⟩
  ·exact⟨.str o,.inr ⟨o,q,rfl⟩,rfl⟩
 obtain⟨O,g,k⟩:=g;refine⟨(w==0),h,p,O,u,r,g,iz ?_⟩;show iB [Z (.scr a),Z (.int z),U]=_;unfold iB;have e:R Ö (eU (bS (fC .non) (ag aY 2 (bp (Y 0) (R cf (Y 1) (X 3)))) (ag aY 2 (bp (Y 0) (R cf (Y 1) (X 3)))))) (ag ae 3 (bS (Y 0) (R cf (Y 1) (X 2)) (X 3))) [Z (.scr a),Z (.int z),U]=O%3:=by rw[ba (ka (ac rfl (ac (gS aY rfl rfl d) (ac (gS aY rfl rfl d) aq))) (by show 3<=100000;decide)) (vx ae rfl rfl rfl m)];exact k
 rw[ax (a:=[Z (.scr a),Z (.int z),Z O]) (ci e rfl)];refine eV (io (ac ?_ (ac (gS aY rfl rfl j) (ac (gS cB rfl rfl i) (ac rfl aq)))) (by show 4<=100000;decide));rw[ba (vx ae rfl rfl rfl n) rfl];rfl
abbrev bo(k:Bool):Rs N%1:=.bl k%3
def En:Str%0:=ħ++[b_ "q"]
def i5(h:seq d p=L):d=p:=by unfold seq at h;obtain⟨⟨a⟩⟩:=d;obtain⟨⟨b⟩⟩:=p;simp at h;rw[h]
def dH{l:θ%0}{p:θ->Bool}(n:Nat)(b:(l.take n).all p=L)(a:(l.drop n).all p=L):l.all p=L:=by rw[<-List.take_append_drop n l,List.all_append,b,a];rfl
def SZ(t:N%0)(n:Str):Bool:=match cZ [.tup t,.str n],dO [.tup t,.str n]with|some (.ok (.str _)),.non%3=>L|some (.ok (.str _)),.str z%3=>Wi (.str z)|_,_=>D
def jm(t:N%0):Bool:=En.all λn=>SZ t n
def dq:Nat->(N%0)%0|0=>lg ò|k+1=>(dq k).drop 16
def Vy:((dq 0).take 16).all jm=L:=by lk
def Vz:((dq 1).take 16).all jm=L:=by lk
def VA:((dq 2).take 16).all jm=L:=by lk
def VB:((dq 3).take 16).all jm=L:=by lk
def VC:((dq 4).take 16).all jm=L:=by lk
def VD:((dq 5).take 16).all jm=L:=by lk
def VE:((dq 6).take 16).all jm=L:=by lk
def VF:((dq 7).take 16).all jm=L:=by lk
def VG:((dq 8).take 16).all jm=L:=by lk
def VH:((dq 9).take 16).all jm=L:=by lk
def S3:((dq 10).take 16).all jm=L:=by lk
def S5:((dq 11).take 16).all jm=L:=by lk
def S6:((dq 12).take 16).all jm=L:=by lk
def S7:((dq 13).take 16).all jm=L:=by lk
def S8:((dq 14).take 16).all jm=L:=by lk
def S9:((dq 15).take 16).all jm=L:=by lk
def Pa:(lg ò).all jm=L:=(dH (l:=dq 0) 16 Vy (dH (l:=dq 1) 16 Vz (dH (l:=dq 2) 16 VA (dH (l:=dq 3) 16 VB (dH (l:=dq 4) 16 VC (dH (l:=dq 5) 16 VD (dH (l:=dq 6) 16 VE (dH (l:=dq 7) 16 VF (dH (l:=dq 8) 16 VG (dH (l:=dq 9) 16 VH (dH (l:=dq 10) 16 S3 (dH (l:=dq 11) 16 S5 (dH (l:=dq 12) 16 S6 (dH (l:=dq 13) 16 S7 (dH (l:=dq 14) 16 S8 (dH (l:=dq 15) 16 S9 (show(dq 16).all jm=L by lk)))))))))))))))))
def Kl(d:E∈lg ò){n:Str}(e:n∈En):∃m o,cZ [.tup E,.str n]=.str m%3/\(o=N.non\/∃z,o=.str z)/\dO [.tup E,.str n]=o%3:=by
 have h:=bb (show(En.all λn=>SZ E n)=L from bb Pa d) e;unfold SZ at h;split at h;·rename_i m b a;exact⟨m,_,b,.inl rfl,a⟩
 ·rename_i m z b a;exact⟨m,_,b,.inr ⟨z,rfl⟩,a⟩
 ·cases h
def ő:Rs N%1->Bool|some (.ok (.bl L))=>L|_=>D
def nQ{o:Rs N%1}(h:ő o=L):o=.bl L%3:=by
 unfold ő at h;split at h;·rfl
 ·cases h
def okB:Rs N%1->Bool|some (.ok (.bl _))=>L|_=>D
def GD{o:Rs N%1}(h:okB o=L):∃k,o=bo k:=by
 unfold okB at h;split at h;·exact⟨_,rfl⟩
 ·cases h
def okF:Rs N%1->Bool|some (.ok (.bl D))=>L|_=>D
def BD:((lg ò).all λt=>ő (bU [.tup t]))=L:=by lk
def iK(a:E∈lg ò):bU [.tup E]=bo L:=nQ (bb (p:=λE=>ő (bU [.tup E])) BD a)
def ĺ:Str%0:=[b_ "n",b_ "safe-a",b_ "own-b",b_ "N_2",b_ "m-1",b_ "safe-",b_ "own"]
def Ņ:Str%0:=[b_ "5",b_ "",b_ "a!b~",b_ "x/y?z",b_ "123456789012",b_ "1"]
def Pb:(ĺ.all λn=>ő (aS [.str n]))=L:=by lk
def Pc:(ĺ.all λn=>!(Wn n (b_ "safe-")&&Wn n (b_ "own-")))=L:=by lk
def Pd:(Ņ.all λn=>ő (bP [.str n]))=L:=by lk
def Pe:(En.all λn=>ő (bi [.str n]))=L:=by lk
def Pf:(ø.all λn=>ő (cX [.str n]))=L:=by lk
def Pg:(En.all λp=>En.all λq=>okB (aG [.str p,.str q]))=L:=by lk
def Ta(p:Str):Bool:=match k8 [.str p]with|some (.ok (.str f))=>ø.any (λq=>seq q f)|_=>D
def Ph:(ø.all Ta)=L:=by lk
def UK(h:d∈ĺ):aS [.str d]=bo L:=nQ (bb (p:=λd=>ő (aS [.str d])) Pb h)
def VI(h:d∈ĺ):Wn d (b_ "safe-")=D\/Wn d (b_ "own-")=D:=by have:=bb (p:=λd=>!(Wn d (b_ "safe-")&&Wn d (b_ "own-"))) Pc h;simpa using this
def UL(h:d∈Ņ):bP [.str d]=bo L:=nQ (bb (p:=λd=>ő (bP [.str d])) Pd h)
def Pi(h:d∈En):bi [.str d]=bo L:=nQ (bb (p:=λd=>ő (bi [.str d])) Pe h)
def Tc(h:d∈ø):cX [.str d]=bo L:=nQ (bb (p:=λd=>ő (cX [.str d])) Pf h)
def UM(h:d∈En)(a:p∈En):∃k,aG [.str d,.str p]=bo k:=GD (bb (p:=λp=>okB (aG [.str d,.str p])) (bb (p:=λd=>En.all λp=>okB (aG [.str d,.str p])) Pg h) a)
def VJ(h:d∈ø):∃f∈ø,k8 [.str d]=.str f%3:=by
 have q:=bb (p:=Ta) Ph h;unfold Ta at q;split at q;·rename_i f b;obtain⟨y,a,g⟩:=Yx.mp q;have e:=i5 g;subst e;exact⟨y,a,b⟩
 ·cases q
def Pj(h:bU [i]=bo L):aT [i]=.non%3:=by simp[aT,fX,eY,bt,cV,Þ,cw,fB,ą,ag,aO,dP,Y,h]
def Q4(h:eZ [i]=bo L):bG [i]=.non%3:=by simp[bG,fX,gI,bt,cV,Þ,cw,fB,ą,ag,aO,dP,Y,h]
def UN(h:iI [i]=bo L):dg [i]=.non%3:=by simp[dg,fX,gg,bt,cV,Þ,cw,fB,ą,ag,aO,dP,Y,h]
def Km(h:aZ [i]=bo L):bc [i]=.non%3:=by simp[bc,fX,dL,bt,cV,Þ,cw,fB,ą,ag,aO,dP,Y,h]
def VM(h:eZ [i]=bo D):bG [i]=3%9:=by simp[bG,fX,gI,bt,cV,Þ,cw,fB,ą,ag,aO,dP,Y,fC,eW,h]
def VN(h:aZ [i]=bo D):bc [i]=6%9:=by simp[bc,fX,dL,bt,cV,Þ,cw,fB,ą,ag,aO,dP,Y,fC,eW,h]
def rj(b:0<=m)(a:m<=9999):aZ [.int m]=bo L:=by
 have e:aW [.int m,.int 0,.int 9999]=bo L:=by simp[aW,bM,bf,aQ,sq,bt,aR,cV,Þ,Č,cw,fB,ą,Y,f1,R,li,jo,fD,mX,ĩ,b,a]
 simp[aZ,bM,fG,aR,cV,Þ,ag,aO,dP,Y,fC,e]
def Mo(u:N):Prop:=u=.non\/∃i:Int,0<=i/\i<=9999/\u=.int i
def BE(h:Mo i):aE [i]=bo L:=by
 rcases h with rfl|⟨a,d,b,rfl⟩;·simp[aE,bM,bu,aR,cV,Þ,ą,Y,fC,R,ľ,ė]
 ·simp[aE,bM,bu,aR,cV,Þ,ą,ag,aO,dP,Y,fC,R,ľ,ė,rj d b]
structure Ak(h p:Str)(O:N):Prop where
 h:h∈En
 p:p∈ø
 o:O=.non\/∃o∈ħ,O=.str o
def me(q:d∈ħ):d∈En:=P_ _ q
abbrev Ĉ(s:Bool)(h p:Str)(O:N):N:=.tup [.bl s,.str h,.str p,O]
def yf(a:Ak d p i):eZ [Ĉ δ d p i]=bo L:=by
 have f:bY [.tup [.bl δ,.str d,.str p,i],.int 4]=bo L:=by lk
 have e:=Pi (a.h);have b:=Tc a.p;rcases a.o with rfl|⟨o,g,rfl⟩;·simp[eZ,bM,k6,aQ,sq,bt,aR,cV,Þ,cw,fB,ą,ag,aO,dP,Y,fC,f1,R,Ö,ċ,ľ,eU,é,ė,jo,fD,f,e,b,qc,kJ]
 ·have h:=Pi (me g);simp[eZ,bM,k6,aQ,sq,bt,aR,cV,Þ,cw,fB,ą,ag,aO,dP,Y,fC,f1,R,Ö,ċ,ľ,eU,é,ė,jo,fD,f,e,b,h,qc,kJ]
def Pk(d:E∈lg ò){h p:Str}{O:N}(a:Ak h p O):∃k,∀s,aX [.tup E,Ĉ s h p O]=bo k:=by
 rcases a.o with rfl|⟨o,i,rfl⟩;·exact⟨L,λs=>by simp[aX,bM,bh,aQ,sq,bt,aR,cx,cV,Þ,Č,fB,ą,Y,fC,R,Ö,ċ,ė]⟩
 ·obtain⟨v,r,_,m,b⟩:=Kl d (a.h);obtain⟨u,n,_,j,e⟩:=Kl d (me i);cases q:seq o h with|true=>exact⟨L,λs=>by simp[aX,bM,bh,aQ,sq,bt,aR,cx,cV,Þ,Č,fB,ą,Y,fC,R,Ö,ċ,ė,è,lf,wG,q]⟩|false=>
 rcases m with rfl|⟨g,rfl⟩;·exact⟨D,λs=>by simp[aX,bM,bh,aQ,sq,bt,aR,cx,cV,Þ,Č,fB,ą,ag,aO,dP,Y,fC,R,Ö,ċ,li,ė,oj,è,lf,wG,q,b]⟩
 · rcases j with rfl|⟨f,rfl⟩;·exact⟨D,λs=>by simp[aX,bM,bh,aQ,sq,bt,aR,cx,cV,Þ,Č,fB,ą,ag,aO,dP,Y,fC,R,Ö,ċ,li,ė,oj,è,lf,wG,q,b,e]⟩
   ·exact⟨seq g f,λs=>by simp[aX,bM,bh,aQ,sq,bt,aR,cx,cV,Þ,Č,fB,ą,ag,aO,dP,Y,fC,R,Ö,ċ,li,ė,oj,è,lf,wG,q,b,e]⟩
structure Gv(nm w:Str)(H P u l:N)(S:Bool)(R:Str):Prop where
 nm:nm∈ĺ
 w:w∈Ņ
 hh:H=.non\/∃n∈En,H=.str n
 pp:P=.non\/∃p∈ø,P=.str p
 u:u=.non\/∃i:Int,0<=i/\i<60/\u=.int i
 l:l=.non\/∃i:Int,0<=i/\i<30/\l=.int i
 r:R=b_ "any"\/R=b_ "near"
abbrev Đ(a w:Str)(H P u l:N)(S:Bool)(R:Str):N:=.tup [.str a,.str w,H,P,u,l,.bl S,.str R]
def Lq:Rs N%1->Bool|some (.ok (.str z))=>En.any λq=>seq q z|_=>D
def BF{o:Rs N%1}(h:Lq o=L):∃n∈En,o=.str n%3:=by
 unfold Lq at h;split at h;·rename_i z;obtain⟨y,a,b⟩:=Yx.mp h;have e:=i5 b;subst e;exact⟨y,a,rfl⟩
 ·cases h
def Fb:Û:=(R Ö (fM (je) (Y 2) (aw (Ø "."))) (f1 HH (X 1)))
def Fc:Û:=(ĥ (fB (R Ų (Ø ".") (Y 2))) (uq (Y 2) (eP (R cf (fM Nm (Y 2) (aw (Ø "."))) (X 1))) gp) (Y 2))
def Fd:(ħ.all λh=>Lq (Fb [U,U,Z (.str h)]))=L:=by lk
def Fe:(ħ.all λh=>Lq (Fc [U,U,Z (.str h)]))=L:=by lk
def Pl(q:d∈ħ){a b:N%1}{r:Ev}:∃n∈En,Fb (a::b::Z (.str d)::r)=.str n%3:=BF (bb (p:=λd=>Lq (Fb [U,U,Z (.str d)])) Fd q)
def Pm(q:d∈ħ){a b:N%1}{r:Ev}:∃n∈En,Fc (a::b::Z (.str d)::r)=.str n%3:=BF (bb (p:=λd=>Lq (Fc [U,U,Z (.str d)])) Fe q)
def Ff(d:Int%0)(e:d.length<=63)(z:Int){h:Str}(r:h∈ħ):∃f w H P u l S a,Gv f w H P u l S a/\fR [.scr d,.int z,.str h]=Đ f w H P u l S a%3:=by
 obtain⟨d0,a0,b0,e0⟩:=aV d e z 7 ();obtain⟨d1,a1,b1,e1⟩:=aV d e (z+1) 5 ();obtain⟨d2,a2,b2,e2⟩:=aV d e (z+2) 6 ();obtain⟨d4,a4,b4,e4⟩:=aV d e (z+4) 3 ();obtain⟨d6,a6,b6,e6⟩:=aV d e (z+6) 3 ();obtain⟨d7,a7,b7,e7⟩:=aV d e (z+7) 60 ();obtain⟨d8,a8,b8,e8⟩:=aV d e (z+8) 3 ();obtain⟨d9,a9,b9,e9⟩:=aV d e (z+9) 30 ();obtain⟨b',g',f',a'⟩:=aV d e (z+10) 2 ();obtain⟨e',d',c',Q⟩:=aV d e (z+11) 2 ();obtain⟨n3,E,e3⟩:=nP d e (z+3);obtain⟨p5,y,e5⟩:=vv d e (z+5);obtain⟨q,m0,i0⟩:=ii (E:=[.str "n",.str "safe-a",.str "own-b",.str "N_2",.str "m-1",.str "safe-",.str "n"]) a0 b0;obtain⟨p,m1,i1⟩:=ii (E:=[.str "5",.str "",.str "a!b~",.str "x/y?z",.str "123456789012"]) a1 b1;obtain⟨b,hL,eL⟩:=Pl r (a:=Z (.scr d)) (b:=Z (.int z)) (r:=[Z q,Z p,U,U,U,U,U,U]);obtain⟨TL,hT,eT⟩:=Pm r (a:=Z (.scr d)) (b:=Z (.int z)) (r:=[Z q,Z p,U,U,U,U,U,U]);obtain⟨o,m2,i2⟩:=ii (E:=[.non,.non,.str h,.str b,.str n3,.str TL]) a2 b2;obtain⟨m,m4,i4⟩:=ii (E:=[.non,.str "/",.str p5]) a4 b4;obtain⟨k,m6,i6⟩:=ii (E:=[.non,.non,.int d7]) a6 b6;obtain⟨j,m8,i8⟩:=ii (E:=[.non,.non,.int d9]) a8 b8;obtain⟨s,g,v⟩:=ii (E:=[.str "any",.str "near"]) d' c';have g0:∃f∈ĺ,q=.str f:=by simp![v_,M_,or_false]at m0;rcases m0 with rfl|rfl|rfl|rfl|rfl|rfl|rfl<;>exact⟨_,by simp[ĺ],rfl⟩
 have g1:∃f∈Ņ,p=.str f:=by simp![v_,M_,or_false]at m1;rcases m1 with rfl|rfl|rfl|rfl|rfl<;>exact⟨_,by simp[Ņ],rfl⟩
 have g2:o=.non\/∃n∈En,o=.str n:=by
  simp![v_,M_,or_false]at m2;rcases m2 with rfl|rfl|rfl|rfl|rfl|rfl;·exact .inl rfl
  ·exact .inl rfl
  ·exact .inr ⟨_,me r,rfl⟩
  ·exact .inr ⟨_,hL,rfl⟩
  ·exact .inr ⟨_,me E,rfl⟩
  ·exact .inr ⟨_,hT,rfl⟩
 have g4:m=.non\/∃n∈ø,m=.str n:=by
  simp![v_,M_,or_false]at m4;rcases m4 with rfl|rfl|rfl;·exact .inl rfl
  ·exact .inr ⟨_,by simp[ø],rfl⟩
  ·exact .inr ⟨_,y,rfl⟩
 have g6:k=.non\/∃i:Int,0<=i/\i<60/\k=.int i:=by
  simp![v_,M_,or_false]at m6;rcases m6 with rfl|rfl|rfl;·exact .inl rfl
  ·exact .inl rfl
  ·exact .inr ⟨_,a7,b7,rfl⟩
 have g8:j=.non\/∃i:Int,0<=i/\i<30/\j=.int i:=by
  simp![v_,M_,or_false]at m8;rcases m8 with rfl|rfl|rfl;·exact .inl rfl
  ·exact .inl rfl
  ·exact .inr ⟨_,a9,b9,rfl⟩
 have I:∃a,(a=b_ "any"\/a=b_ "near")/\s=.str a:=by
  simp![v_,M_,or_false]at g;rcases g with rfl|rfl;·exact⟨_,.inl rfl,rfl⟩
  ·exact⟨_,.inr rfl,rfl⟩
 obtain⟨f,A,rfl⟩:=g0;obtain⟨w,hw,rfl⟩:=g1;obtain⟨a,hR,rfl⟩:=I;refine⟨f,w,o,m,k,j,b'==0,a,⟨A,hw,g2,g4,g6,g8,hR⟩,?_⟩;have eB:gZ=(aQ (cx 3 (R Ö (eU (aO (Ø "n") (uE (Ø "safe-a") (Ø "own-b") (Ø "N_2") (Ø "m-1") (Ø "safe-") (Ø "n")))) (ag ae 3 (bS (Y 0) (Y 1) (X 7))))) (aQ (cx 4 (R Ö (eU (mo (Ø "5") (Ø "") (Ø "a!b~") (Ø "x/y?z") (Ø "123456789012"))) (ag ae 3 (bS (Y 0) (R cf (Y 1) (X 1)) (X 5))))) (zV 5 (mo (fC .non) (fC .non) (Y 2) Fb (ag aY 2 (bp (Y 0) (R cf (Y 1) (X 3))))) (gk (DS Fc) (gk (gW 6 (R Ö (eU (bS (fC .non) (Ø "/") (ag cB 2 (bp (Y 0) (R cf (Y 1) (X 5)))))) (ag ae 3 (bS (Y 0) (R cf (Y 1) (X 4)) (X 3))))) (gk (gW 7 (R Ö (eU (bS (fC .non) (fC .non) (ag ae 3 (bS (Y 0) (R cf (Y 1) (X 7)) (X 60))))) (ag ae 3 (bS (Y 0) (R cf (Y 1) (X 6)) (X 3))))) (gk (gW 8 (R Ö (eU (bS (fC .non) (fC .non) (ag ae 3 (bS (Y 0) (R cf (Y 1) (X 9)) (X 30))))) (ag ae 3 (bS (Y 0) (R cf (Y 1) (X 8)) (X 3))))) (gk (gW 9 (R Ö (eU (bp (Ø "any") (Ø "near"))) (ag ae 3 (bS (Y 0) (R cf (Y 1) (X 11)) (X 2))))) (gk (gW 10 (R è (ag ae 3 (bS (Y 0) (R cf (Y 1) (X 10)) (X 2))) (X 0))) (zT 5 (cT (aO (Y 3) (aO (Y 4) (uE (R Ö (Y 5) (ag ae 3 (bS (Y 0) (R cf (Y 1) (X 2)) (X 6)))) (Y 6) (Y 7) (Y 8) (Y 10) (Y 9))))))))))))))):=rfl;unfold fR bM;rw[eB];simp[aQ,sq,cx,cV,Þ,ag,aO,dP,Y,fC,R,cT,eU,zV,gk,DS,gW,zT,xB,cf,e0,e1,e2,e3,e4,e5,e6,e7,e8,e9,a',Q,i0,i1,i2,i4,i6,i8,v,eL,eT,è,lf,ua]
def rm(h:d=b_ "any"\/d=b_ "near"):fH [.str d]=bo L/\∃r,è (.str d) (.str "near")=bo (!r):=by
 rcases h with rfl|rfl;·exact⟨by lk,L,by lk⟩
 ·exact⟨by lk,D,by lk⟩
variable{Κ:N}{μ:Str}
def Gv.mu(g:Gv d p i v η Κ δ μ):Mo η:=by
 rcases g.u with h|⟨a,e,f,b⟩;·exact .inl h
 ·exact .inr ⟨a,e,by omega,b⟩
def Gv.ml(g:Gv d p i v η Κ δ μ):Mo Κ:=by
 rcases g.l with h|⟨a,e,f,b⟩;·exact .inl h
 ·exact .inr ⟨a,e,by omega,b⟩
def rn{b:î}(a:Ν ζ=δ%3)(d:b ζ=È%3):mR Ν b ζ=(δ&&È)%3:=by
 cases δ;·exact zI a
 ·rw[zF a,d];rfl
def yg(a:Ν ζ=δ%3):aQ (bt Ν (aR (fC i)) ó) Χ ζ=if δ=L then Z (.rt i)else Χ ζ:=by
 cases δ;·rw[ax (cA a)];rfl
 ·exact mT (by rw[xR a];rfl)
def Kn(e:E.map Z++u_ (b-E.length) U=ζ)(h:Χ ζ=Z (.rt i)):fX b Χ E=i%3:=by unfold fX;rw[e,h]
def BG(F:ß){f:Û}{b:Ev}{a d:N}(h:f b=a%3)(e:F [a]=d%3):aC F 1 (aw f) b=d%3:=cE F (ac h aq) rfl e
def Ko(e:E.map Z++u_ (b-E.length) U=ζ)(h:Χ ζ=Z (.rt i)):bM b Χ E=i%3:=by unfold bM;rw[e,h]
def Pn(h:A ζ=i%3):aR A ζ=Z (.rt i):=by unfold aR;rw[h];rfl
def Fg(x:Str){k:Bool}(o:aS [.str x]=bo k)(g:Gv d p i v η Κ δ μ):iI [Đ x p i v η Κ δ μ]=bo k:=by
 have q:bY [Đ x p i v η Κ δ μ,.int 8]=bo L:=by lk
 have m:=UL g.w;have j:=BE g.mu;have h:=BE g.ml;have f:=(rm g.r).1;have e:ľ (R ė (R Ö (Y 0) (X 2)) (fC .non)) (ag bi 1 (aw (R Ö (Y 0) (X 2)))) [Z (Đ x p i v η Κ δ μ)]=bo L:=by
  rcases g.hh with rfl|⟨n,a,rfl⟩;·exact M8 rfl
  ·exact(M7 rfl).trans (fP bi rfl (Pi a))
 have b:ľ (R ė (R Ö (Y 0) (X 3)) (fC .non)) (ag cX 1 (aw (R Ö (Y 0) (X 3)))) [Z (Đ x p i v η Κ δ μ)]=bo L:=by
  rcases g.pp with rfl|⟨n,a,rfl⟩;·exact M8 rfl
  ·exact(M7 rfl).trans (fP cX rfl (Tc a))
 refine Ko (ζ:=[Z (Đ x p i v η Κ δ μ)]) rfl ?_;unfold jT;refine(yg (δ:=D) (lC (bd (gS bY (b:=.int 8) rfl rfl q)))).trans ?_;refine Pn ((bR (ac (ka (ac (fP aS rfl o) (ac (fP bP rfl m) (ac e (ac b (ac (fP aE rfl j) (ac (fP aE rfl h) (ac (i:=.bl L) rfl (ac (fP fH rfl f) aq)))))))) (by show 8<=100000;decide)) aq)).trans ?_);cases k<;>rfl
def BH(g:Gv d p i v η Κ δ μ):iI [Đ d p i v η Κ δ μ]=bo L:=Fg d (UK g.nm) g
def ź(f b a d e:Bool):N:=if f then .str "foreign"else if b then .str "open"else if a then .str "unsafe"else if d then .str "marked"else if e then .str "far"else .non
def š{h b:Str}{O:N}(z:E∈lg ò)(a:Ak h b O)(g:Gv d p i v η Κ δ μ){f e m j r:Bool}{s:Bool}(I:br [.tup E,Ĉ s h b O,Đ d p i v η Κ δ μ]=bo m)(H:aX [.tup E,Ĉ s h b O]=bo j)(A:è (.str μ) (.str "near")=bo (!r))(o:(i=.non/\f=D/\e=D)\/∃n q k,i=.str n/\aG [.str h,.str n]=bo (!f)/\İ (.str n) (.str h)=bo q/\gM [.tup E,.str n]=bo k/\e=(q&&k)):bB [.tup E,Ĉ s h b O,Đ d p i v η Κ δ μ]=ź f e (δ&&!s) (!m) (!r&&!j)%3:=by
 have e1:=Pj (iK z);have Q:=UN (BH g);have e2:=Q4 (yf (δ:=s) a);refine Kn (ζ:=[Z (.tup E),Z (Ĉ s h b O),Z (Đ d p i v η Κ δ μ),U]) rfl ?_;unfold fL;rw[ax (mv (BG aT (a:=.tup E) rfl e1)),ax (mv (BG bG (a:=Ĉ s h b O) rfl e2)),ax (mv (BG dg (a:=Đ d p i v η Κ δ μ) rfl Q)),ax (ci (i:=i) (a:=[Z (.tup E),Z (Ĉ s h b O),Z (Đ d p i v η Κ δ μ),Z i]) rfl rfl)];refine(yg (δ:=f) ?_).trans ?_
 · rcases o with⟨rfl,rfl,rfl⟩|⟨n,q,k,rfl,y,w,u,rfl⟩;·exact zI (bd rfl)
   ·rw[zF (bd rfl)];exact(lC (bd (gS aG rfl rfl y))).trans (by rw[abN])
 unfold ź;cases f;rotate_left;·rfl
 refine(yg (δ:=e) ?_).trans ?_
 · rcases o with⟨rfl,_,rfl⟩|⟨n,q,k,rfl,y,w,u,rfl⟩;·exact zI (bd rfl)
   ·rw[zF (bd rfl)];exact rn (bd ((ba rfl rfl).trans w)) (bd (gS gM rfl rfl u))
 cases e;rotate_left;·rfl
 refine(yg (δ:=δ&&!s) (rn (bd rfl) (lC (bd rfl)))).trans ?_;cases δ&&!s;rotate_left;·rfl
 refine(yg (lC (bd (vx br rfl rfl rfl I)))).trans ?_;cases !m;rotate_left;·rfl
 refine(yg (rn (bd ((ba rfl rfl).trans A)) (lC (bd (gS aX rfl rfl H))))).trans ?_;cases !r&&!j<;>rfl
def mark(b a S e d:Bool):Bool:=(b&&!S)||(a&&!(S&&(e&&d)))
def BI{h a:Str}{O:N}{f:Bool}{s:Bool}(g:d∈ĺ)(m:è v (.str "/")=bo È)(k:df [.tup E,Ĉ s h a O,Đ d p i v η Κ δ μ]=bo f):br [.tup E,Ĉ s h a O,Đ d p i v η Κ δ μ]=bo (!mark (Wn d (b_ "safe-")) (Wn d (b_ "own-")) δ f È):=by have j:=VI g;cases e:Wn d (b_ "safe-")with
 |true=>
 rw[e]at j;have b:Wn d (b_ "own-")=D:=by simpa using j
 rw[b];cases δ<;>simp[br,bM,bV,aQ,sq,bt,aR,cx,cV,Þ,fB,ą,aO,dP,Y,fC,R,Ö,ċ,fM,si,e,mark]|false=>cases b:Wn d (b_ "own-")with|true=>cases δ<;>cases f<;>cases È<;>simp[br,bM,bV,aQ,sq,bt,aR,cx,cV,Þ,fB,ą,ag,aO,dP,Y,fC,R,Ö,ċ,li,fM,si,e,b,k,m,mark]|false=>simp[br,bM,bV,aQ,sq,bt,aR,cx,cV,Þ,fB,ą,aO,dP,Y,fC,R,Ö,ċ,fM,si,e,b,mark]
structure Wt(t:N%0)(h p:Str)(O:N)(nm w:Str)(H P u l:N)(S:Bool)(R:Str)(s:Bool)(house path:Str)(ex:Bool)(wd:N):Prop where
 hs:house∈En
 ph:path∈ø
 win:wd=.non\/∃x∈["foreign","open","unsafe","marked","far"],wd=.str (b_ x)why:bB [.tup t,Ĉ s h p O,Đ nm w H P u l S R]=Z (.ok wd)hf:gK [Ĉ s h p O,Đ nm w H P u l S R]=Z (.ok (.str house))hl:(H=.non/\house=h)\/H=.str house
 ix:df [.tup t,Ĉ s h p O,Đ nm w H P u l S R]=bo ex
 pf:fI [Ĉ s h p O,Đ nm w H P u l S R]=Z (.ok (.str path))un:wd=.non->s=D->S=D
def BJ(f b a d e:Bool):ź f b a d e=.non\/∃x∈["foreign","open","unsafe","marked","far"],ź f b a d e=.str (b_ x):=by cases f<;>cases b<;>cases a<;>cases d<;>cases e<;>first|exact .inl rfl|exact .inr ⟨"foreign",by simp,rfl⟩|exact .inr ⟨"open",by simp,rfl⟩|exact .inr ⟨"unsafe",by simp,rfl⟩|exact .inr ⟨"marked",by simp,rfl⟩|exact .inr ⟨"far",by simp,rfl⟩
def BK{a d S s:Bool}(h:ź δ È (S&&!s) a d=.non)(b:s=D):S=D:=by
 subst b;cases S;·rfl
 ·cases δ<;>cases È<;>cases h
def Td{h b:Str}{O:N}(H:E∈lg ò)(a:Ak h b O)(g:Gv d p i v η Κ δ μ)(s:Bool):∃k e ex wd,Wt E h b O d p i v η Κ δ μ s k e ex wd:=by
 obtain⟨nr,hN⟩:=Pk H a;obtain⟨_,r,r2⟩:=rm g.r;have I:∃pe,è v (.str "/")=bo pe:=by
  rcases g.pp with rfl|⟨q,_,rfl⟩;·exact⟨D,rfl⟩
  ·exact⟨_,rfl⟩
 obtain⟨pe,I⟩:=I;have j:∃e∈ø,fI [Ĉ s h b O,Đ d p i v η Κ δ μ]=.str e%3:=by
  rcases g.pp with rfl|⟨q,hq,rfl⟩;·obtain⟨f,hf,k2⟩:=VJ a.p;exact⟨f,hf,by simp[fI,fX,gO,aQ,sq,bt,aR,cV,Þ,fB,ą,aC,aO,dP,Y,fC,R,Ö,ċ,ė,k2]⟩
  ·exact⟨q,hq,by simp[fI,fX,gO,aQ,sq,bt,aR,cV,Þ,fB,ą,Y,fC,R,Ö,ċ,ė]⟩
 obtain⟨e,y,z⟩:=j;rcases g.hh with rfl|⟨n,Q,rfl⟩
 · have w:df [.tup E,Ĉ s h b O,Đ d p .non v η Κ δ μ]=bo L:=by simp[df,bM,iH,aQ,sq,bt,aR,cx,cV,Þ,fB,ą,Y,fC,R,Ö,ċ,ė]
   have u:=š (f:=D) (e:=D) H a g (BI g.nm I w) (hN s) r2 (.inl ⟨rfl,rfl,rfl⟩);rw[abN]at u;exact⟨h,e,L,_,a.h,y,BJ _ _ _ _ _,u,by simp[gK,bM,gJ,aQ,sq,bt,aR,cV,Þ,fB,ą,Y,fC,R,Ö,ċ,ė],.inl ⟨rfl,rfl⟩,w,z,BK⟩
 · obtain⟨m,o,hm,_,_⟩:=Kl H Q;obtain⟨wi,a'⟩:=UM (a.h) Q;have A:gM [.tup E,.str n]=bo (seq m n):=by simp[gM,bM,k7,aR,cV,Þ,ag,aO,dP,Y,R,hm,è,lf,ua]
   have w:df [.tup E,Ĉ s h b O,Đ d p (.str n) v η Κ δ μ]=bo (seq n h&&seq m n):=by simp[df,bM,iH,aQ,sq,bt,aR,cx,cV,Þ,fB,ą,ag,aO,dP,Y,fC,R,Ö,ċ,li,ė,A,è,lf,ua];cases seq n h<;>simp[aQ]
   have u:=š (f:=!wi) (e:=!seq n h&&seq m n) H a g (BI g.nm I w) (hN s) r2 (.inr ⟨n,!seq n h,seq m n,rfl,by rw[a',abN],by simp[İ,lf,ua],A,rfl⟩);rw[abN]at u;exact⟨n,e,_,_,Q,y,BJ _ _ _ _ _,u,by simp[gK,bM,gJ,aQ,sq,bt,aR,cV,Þ,fB,ą,Y,fC,R,Ö,ċ,ė],.inr rfl,w,z,BK⟩
def i7(a b:Str):(a++b).length=a.length+b.length:=aa7
def rq(a b c:Str):a++b++c=a++(b++c):=by show Str.mk (a.cps++b.cps++c.cps)=Str.mk (a.cps++(b.cps++c.cps));rw[acN]
def Po(a:Str):a++b_ ""=a:=by show Str.mk (a.cps++#[])=a;rw[Array.append_empty]
def step(t:Str)(o:Str%1):Str:=match o with|none=>t|some y=>t++b_ "; "++y
def lh(t:Str)(o:Str%1)(B:Nat)(h:∀y,o=Z y->y.length<=B):(step t o).length<=t.length+2+B:=by cases o with|none=>show t.length<=_;omega|some y=>
 have:=h y rfl;show(t++b_ "; "++y).length<=_;rw[i7,i7];have e:(b_ "; ").length=2:=by decide
 omega
def nR(a:Str):∀(l:Str%0)(x:Str),YU a (x::l)=l.foldl (λt y=>t++a++y) x|[],x=>rfl|y::l,x=>nR a l (x++a++y)
def jU(t:Str)(o:Str%1)(l:Str%0):(o.toList++l).foldl (λt y=>t++b_ "; "++y) t=l.foldl (λt y=>t++b_ "; "++y) (step t o):=by cases o<;>rfl
def eS:Str%1->N|none=>.non|some x=>.str x
def eO:Int%1->N|none=>.non|some x=>.int x
def is(i:Int):Str:=b_ (toString i)
def GE(b:0<=m)(a:m<=9999):(is m).length<=10001:=by have:=PyProof.Rows.len_str_of_int m;unfold is;omega
def Te(b:0<=m)(a:m<=9999):R7 [.int m]=.str (is m)%3:=by
 show(if m.natAbs.log2<1920 then _ else U)=_;rw[if_pos];·rfl
 · have e:m.natAbs<2^1920:=R_ (show m.natAbs<2^14 by omega) (Nat.pow_le_pow_right #v[] #v[]);by_cases z:m.natAbs=0;·rw[z];decide
   ·exact(Nat.log2_lt z).mpr e
structure Vv(nm w:Str)(h p:Str%1)(u l:Int%1)(R:Str):Prop where nm:nm.length<=50w:w.length<=50h:∀x,h=Z x->x.length<=50p:∀x,p=Z x->x.length<=50u:∀i,u=Z i->0<=i/\i<=9999l:∀i,l=Z i->0<=i/\i<=9999
abbrev gv(a w:Str)(h p:Str%1)(u l:Int%1)(S:Bool)(R:Str):N:=.tup [.str a,.str w,eS h,eS p,eO u,eO l,.bl S,.str R]
def oS(a:String)(h:Str%1):Str%1:=h.map λx=>b_ a++x
def oI(a:String)(h:Int%1):Str%1:=h.map λx=>b_ a++is x
def oB(x:String)(b:Bool):Str%1:=if b then Z (b_ x)else U
def ď(a w:Str):Str:=a++b_ "="++w
def lP(R:Str):Bool:=seq R (b_ "near")
def T(a w:Str)(h p:Str%1)(u l:Int%1)(S:Bool)(R:Str):Str:=step (step (step (step (step (step (ď a w) (oS "for " h)) (oS "under " p)) (oI "until " u)) (oI "lasts " l)) (oB "safe" S)) (oB "near" (lP R))
def Tf(h:d.length+p.length<=100000):cf (.str d) (.str p)=.str (d++p)%3:=by show(if d.length+p.length<=100000 then _ else U)=_;rw[if_pos h]
def lY(h:d.length+p.length<=100000):dD (.str d) (.str p)=.str (d++p)%3:=Tf h
def pH(o:Str%1):o.toList.length<=1:=by cases o<;>simp
variable{Υ:Str%1}
def UO{a:String}(e:(b_ a).length<=10)(d:∀x,Υ=Z x->x.length<=50):∀y,oS a Υ=Z y->y.length<=60:=by intro y b;cases Υ with|none=>cases b|some x=>cases b;rw[i7];have:=d x rfl;omega
def UP{a:String}(e:(b_ a).length<=10)(d:∀x,Η=Z x->0<=x/\x<=9999):∀y,oI a Η=Z y->y.length<=10020:=by intro y b;cases Η with|none=>cases b|some x=>cases b;rw[i7];have:=GE (d x rfl).1 (d x rfl).2;omega
def VO{x:String}(b:(b_ x).length<=10):∀y,oB x δ=Z y->y.length<=60:=by intro y a;cases δ with|false=>cases a|true=>cases a;omega
def Pp(h:A ζ=i%3):aR A ζ=Z (.rt i):=by unfold aR;rw[h];rfl
def EL(d w:Str)(h p:Str%1)(u l:Int%1)(S:Bool)(R:Str)(t:Str)(a b:N%1):Ev:=[Z (gv d w h p u l S R),Z (.str d),Z (.str w),Z (eS h),Z (eS p),Z (eO u),Z (eO l),Z (.bl S),Z (.str R),Z (.str t),a,b]
def uc{e:Str%1}{t f:Str}{a b:N%1}:jX (gP 10 11) [11,10] aP (.tup [.str f,.non]::E) (EL d p Υ e Η Ρ δ μ t a b)=jX (gP 10 11) [11,10] aP E (EL d p Υ e Η Ρ δ μ t (Z (.str f)) (Z .non)):=rfl
def pI{e:Str%1}{t f y:Str}{a b:N%1}(j:oj i .non=bo L)(h:Ln [i]=.str y%3)(m:t.length+2+f.length+1+y.length<=100000):jX (gP 10 11) [11,10] aP (.tup [.str f,i]::E) (EL d p Υ e Η Ρ δ μ t a b)=jX (gP 10 11) [11,10] aP E (EL d p Υ e Η Ρ δ μ (t++b_ "; "++f++b_ " "++y) (Z (.str f)) (Z i)):=by
 have n:(b_ "; ").length=2:=by decide
 have q:(b_ " ").length=1:=by decide
 have k:aP (EL d p Υ e Η Ρ δ μ t (Z (.str f)) (Z i))=Z (.nx (EL d p Υ e Η Ρ δ μ (t++b_ "; "++f++b_ " "++y) (Z (.str f)) (Z i))):=by
  have c:fB (R oj (Y 11) (fC .non)) (EL d p Υ e Η Ρ δ μ t (Z (.str f)) (Z i))=L%3:=bd j;have z:R dD (R dD (R dD (R dD (Y 9) (Ø "; ")) (Y 10)) (Ø " ")) (é Ln (aw (Y 11))) (EL d p Υ e Η Ρ δ μ t (Z (.str f)) (Z i))=.str (t++b_ "; "++f++b_ " "++y)%3:=by refine(ba ((ba ((ba ((ba (i:=.str t) (v:=.str "; ") rfl rfl).trans (lY ())) (v:=.str f) rfl).trans (lY (by rw[i7];omega))) (v:=.str " ") rfl).trans (lY (by rw[i7,i7];omega))) ((bR (ac (i:=i) rfl aq)).trans h)).trans ?_;exact lY (by rw[i7,i7,i7];omega)
  unfold aP bt;rw[c];exact ci z rfl
 show(match aP (EL d p Υ e Η Ρ δ μ t (Z (.str f)) (Z i))with|some (.nx g)=>jX (gP 10 11) [11,10] aP E g|o=>o)=_;rw[k]
def GF(t b a y:Str)(d:b++b_ " "=a):t++b_ "; "++b++b_ " "++y=t++b_ "; "++(a++y):=by rw[rq (t++b_ "; ") b,d,rq (t++b_ "; ") a]
def Pq{e:Str%1}{t g f:Str}{o:Str%1}{a b:N%1}(h:g++b_ " "=f)(i:∀x,o=Z x->x.length<=50)(n:t.length<=80000)(m:g.length<=10):∃k j,jX (gP 10 11) [11,10] aP (.tup [.str g,eS o]::E) (EL d p Υ e Η Ρ δ μ t a b)=jX (gP 10 11) [11,10] aP E (EL d p Υ e Η Ρ δ μ (step t (o.map λx=>f++x)) k j):=by cases o with|none=>exact⟨_,_,uc⟩|some x=>have:=i x rfl;refine⟨Z (.str g),Z (.str x),(pI (i:=.str x) (y:=x) rfl rfl ()).trans ?_⟩;rw[GF t g f x h];rfl
def Pr{f:Str%1}{t h g:Str}{o:Int%1}{a b:N%1}(j:h++b_ " "=g)(i:∀x,o=Z x->0<=x/\x<=9999)(q:t.length<=80000)(n:h.length<=10):∃m k,jX (gP 10 11) [11,10] aP (.tup [.str h,eO o]::E) (EL d p Υ f Η Ρ δ μ t a b)=jX (gP 10 11) [11,10] aP E (EL d p Υ f Η Ρ δ μ (step t (o.map λx=>g++is x)) m k):=by cases o with|none=>exact⟨_,_,uc⟩|some x=>have:=i x rfl;have:=GE this.1 this.2;have e:Ln [.int x]=.str (is x)%3:=Te (i x rfl).1 (i x rfl).2;refine⟨Z (.str h),Z (.int x),(pI (i:=.int x) (y:=is x) rfl e ()).trans ?_⟩;rw[GF t h g (is x) j];rfl
def Kp{a:Str%1}(v:Vv d p Υ a Η Ρ μ):gR [gv d p Υ a Η Ρ δ μ]=.str (T d p Υ a Η Ρ δ μ)%3:=by
 have l1:=v.nm;have l2:=v.w;have Q:(b_ "=").length=1:=by decide
 have b0:(ď d p).length<=200:=by unfold ď;rw[i7,i7];omega
 have b1:=lh (ď d p) (oS "for " Υ) 60 (UO #v[] v.h);have b2:=lh (step (ď d p) (oS "for " Υ)) (oS "under " a) 60 (UO #v[] v.p);have b3:=lh (step (step (ď d p) (oS "for " Υ)) (oS "under " a)) (oI "until " Η) 10020 (UP #v[] v.u);have b4:=lh (step (step (step (ď d p) (oS "for " Υ)) (oS "under " a)) (oI "until " Η)) (oI "lasts " Ρ) 10020 (UP #v[] v.l);obtain⟨H,z,u⟩:=Pq (d:=d) (p:=p) (Υ:=Υ) (e:=a) (Η:=Η) (Ρ:=Ρ) (δ:=δ) (μ:=μ) (t:=ď d p) (g:=b_ "for") (f:=b_ "for ") (o:=Υ) (a:=U) (b:=U) (E:=[.tup [.str "under",eS a],.tup [.str "until",eO Η],.tup [.str "lasts",eO Ρ]]) (by lk) v.h () #v[];obtain⟨E,y,s⟩:=Pq (d:=d) (p:=p) (Υ:=Υ) (e:=a) (Η:=Η) (Ρ:=Ρ) (δ:=δ) (μ:=μ) (t:=step (ď d p) (oS "for " Υ)) (g:=b_ "under") (f:=b_ "under ") (o:=a) (a:=H) (b:=z) (E:=[.tup [.str "until",eO Η],.tup [.str "lasts",eO Ρ]]) (by lk) v.p () #v[];obtain⟨A,w,r⟩:=Pr (d:=d) (p:=p) (Υ:=Υ) (f:=a) (Η:=Η) (Ρ:=Ρ) (δ:=δ) (μ:=μ) (t:=step (step (ď d p) (oS "for " Υ)) (oS "under " a)) (h:=b_ "until") (g:=b_ "until ") (o:=Η) (a:=E) (b:=y) (E:=[.tup [.str "lasts",eO Ρ]]) (by lk) v.u () #v[];obtain⟨a4,c4,q⟩:=Pr (d:=d) (p:=p) (Υ:=Υ) (f:=a) (Η:=Η) (Ρ:=Ρ) (δ:=δ) (μ:=μ) (t:=step (step (step (ď d p) (oS "for " Υ)) (oS "under " a)) (oI "until " Η)) (h:=b_ "lasts") (g:=b_ "lasts ") (o:=Ρ) (a:=A) (b:=w) (E:=[]) (by lk) v.l () #v[];let b:Str:=step (step (step (step (ď d p) (oS "for " Υ)) (oS "under " a)) (oI "until " Η)) (oI "lasts " Ρ);have I:b.length<=90000:=by show(step (step (step (step (ď d p) (oS "for " Υ)) (oS "under " a)) (oI "until " Η)) (oI "lasts " Ρ)).length<=_;omega
 have e:jX (gP 10 11) [11,10] aP [.tup [.str "for",eS Υ],.tup [.str "under",eS a],.tup [.str "until",eO Η],.tup [.str "lasts",eO Ρ]] (EL d p Υ a Η Ρ δ μ (ď d p) U U)=Z (.nx (EL d p Υ a Η Ρ δ μ b U U)):=u.trans (s.trans (r.trans (q.trans rfl)));have f:(λh=>Þ ((bp (cT (mS (Ø "for") (Ø "under") (Ø "until") (Ø "lasts"))) (l7 (Y 0) (eP (X 2)) (eP (X 6)))) h) Lm) (EL d p Υ a Η Ρ δ μ (ď d p) U U)=Z (.ok [.tup [.str "for",eS Υ],.tup [.str "under",eS a],.tup [.str "until",eO Η],.tup [.str "lasts",eO Ρ]]):=by lk
 have m:R dD (R dD (Y 1) (Ø "=")) (Y 2) [Z (gv d p Υ a Η Ρ δ μ),Z (.str d),Z (.str p),Z (eS Υ),Z (eS a),Z (eO Η),Z (eO Ρ),Z (.bl δ),Z (.str μ),U,U,U]=.str (ď d p)%3:=(ba ((ba (i:=.str d) (v:=.str "=") rfl rfl).trans (lY ())) (v:=.str p) rfl).trans (lY (by rw[i7];omega));have f1:ĥ (fB (Y 7)) (Ø "; safe") (Ø "") (EL d p Υ a Η Ρ δ μ b U U)=(.str (if δ then b_ "; safe"else b_ ""))%3:=by cases δ<;>rfl
 have o:b++(if δ then b_ "; safe"else b_ "")=step b (oB "safe" δ):=by
  cases δ;·exact Po b
  ·show b++b_ "; safe"=b++b_ "; "++b_ "safe";rw[rq];rfl
 have b5:=lh b (oB "safe" δ) 60 (VO #v[]);have k:R dD (Y 9) (ĥ (fB (Y 7)) (Ø "; safe") (Ø "")) (EL d p Υ a Η Ρ δ μ b U U)=.str (step b (oB "safe" δ))%3:=by
  rw[<-o];refine(ba (i:=.str b) rfl f1).trans (lY ?_);have:(if δ then b_ "; safe"else b_ "").length<=10:=by cases δ<;>decide
  omega
 have i:ĥ (fB (R è (Y 8) (Ø "near"))) (Ø "; near") (Ø "") (EL d p Υ a Η Ρ δ μ b U U)=(.str (if lP μ then b_ "; near"else b_ ""))%3:=by have c:fB (R è (Y 8) (Ø "near")) (EL d p Υ a Η Ρ δ μ b U U)=lP μ%3:=rfl;unfold ĥ;rw[c];cases lP μ<;>rfl
 have n:∀t:Str,t++(if lP μ then b_ "; near"else b_ "")=step t (oB "near" (lP μ)):=by
  intro t;cases lP μ;·exact Po t
  ·show t++b_ "; near"=t++b_ "; "++b_ "near";rw[rq];rfl
 have j:(R dD (R dD (Y 9) (ĥ (fB (Y 7)) (Ø "; safe") (Ø ""))) (ĥ (fB (R è (Y 8) (Ø "near"))) (Ø "; near") (Ø ""))) (EL d p Υ a Η Ρ δ μ b U U)=.str (T d p Υ a Η Ρ δ μ)%3:=by
  refine(ba k i).trans ((lY ?_).trans ?_)
  · have:(if lP μ then b_ "; near"else b_ "").length<=10:=by cases lP μ<;>decide
    omega
  ·rw[n];rfl
 refine iz ?_;show gQ [Z (gv d p Υ a Η Ρ δ μ),U,U,U,U,U,U,U,U,U,U,U]=_;unfold gQ;rw[ax (show M5 [1,2,3,4] (l7 (Y 0) gp (eP (X 4))) [Z (gv d p Υ a Η Ρ δ μ),U,U,U,U,U,U,U,U,U,U,U]=Z (.nx [Z (gv d p Υ a Η Ρ δ μ),Z (.str d),Z (.str p),Z (eS Υ),Z (eS a),U,U,U,U,U,U,U])by lk)];rw[ax (show M5 [5,6,7,8] (l7 (Y 0) (eP (X 4)) gp) [Z (gv d p Υ a Η Ρ δ μ),Z (.str d),Z (.str p),Z (eS Υ),Z (eS a),U,U,U,U,U,U,U]=Z (.nx [Z (gv d p Υ a Η Ρ δ μ),Z (.str d),Z (.str p),Z (eS Υ),Z (eS a),Z (eO Η),Z (eO Ρ),Z (.bl δ),Z (.str μ),U,U,U])by lk)];rw[ax (ci (a:=EL d p Υ a Η Ρ δ μ (ď d p) U U) m rfl)];have g:xE (gP 10 11) [11,10] (λh=>Þ ((bp (cT (mS (Ø "for") (Ø "under") (Ø "until") (Ø "lasts"))) (l7 (Y 0) (eP (X 2)) (eP (X 6)))) h) Lm) aP (EL d p Υ a Η Ρ δ μ (ď d p) U U)=Z (.nx (EL d p Υ a Η Ρ δ μ b U U)):=by unfold xE;rw[f];exact e
 rw[ax g];exact Pp j
def rA(p:Str):(Nat×N)%1:=match bO [.str p]with|some (.ok (.tup [.int k,d]))=>Z (k.toNat,d)|_=>U
def eT:(Nat×N)%1->N|none=>.non|some (k,d)=>.tup [.int k,d]
def okT(p:Str):Bool:=match bO [.str p]with|some (.ok .non)=>L|some (.ok (.tup [.int k,_]))=>o_ (2<=k)&&o_ (k<8)|_=>D
def Kq(h:okT d=L):bO [.str d]=eT (rA d)%3/\∀k a,rA d=Z (k,a)->2<=k/\k<8:=by
 unfold okT at h;unfold rA;split at h;·rename_i e;rw[e];exact⟨rfl,λk a z=>by cases z⟩
 · rename_i k a e;rw[e];rw[m_,decide_eq_true_eq,decide_eq_true_eq]at h;refine⟨?_,λb f z=>?_⟩;·show _=Z (Rs.ok (N.tup [.int (k.toNat:Int),a]));rw[Int.toNat_of_nonneg ()]
   ·cases z;omega
 ·cases h
def ſ:Str:=b_ " "
def rw:Str:=b_ "  "
def iL(b p a:Str):Bool:=seq (Xy (b++p++a) ſ) p&&!((b++p++a).cps.toList.contains 59)
def Ĥ:Str:=b_ ""
def okS(p:Str):Bool:=iL Ĥ p Ĥ&&(iL ſ p Ĥ&&(iL rw p rw&&(iL Ĥ p rw&&(iL rw p Ĥ&&o_ (p.length<=200)))))
def UQ(p:Str):Bool:=okT p&&okS p
def VP:Str%0:=[b_ "x=y",b_ "until",b_ "for A",b_ "under b",b_ "lasts 99999",b_ "SAFE",b_ "",b_ "safe near",b_ "until  7"]
def Ps:Str%0:=[b_ "until 17",b_ "under /q",b_ "lasts 4",b_ "for q.r"]
def ud(n:Nat):Int%0:=(uk n).map λi:Nat=>(i:Int)
def ų:Str%0:=En.map (λh=>b_ "for "++h)++(ø.map (λh=>b_ "under "++h)++((ud 60).map (λi=>b_ "until "++is i)++((ud 30).map (λi=>b_ "lasts "++is i)++([b_ "safe",b_ "near"]++(VP++Ps)))))
def Kr:ų.all UQ=L:=by lk
def tS(p:Str)(k:Nat)(s:Str):Bool:=match rA p with|some (j,.str z)=>j==k&&seq z s|_=>D
def tI(p:Str)(k:Nat)(i:Int):Bool:=match rA p with|some (j,.int z)=>j==k&&z==i|_=>D
def Pu(h:tS d b p=L):rA d=Z (b,.str p):=by
 unfold tS at h;generalize rA d=o at h⊢;rcases o with _|⟨j,a⟩;·cases h
 ·cases a with|str z=>have e:(j==b&&seq z p)=L:=h;rw[m_]at e;rw[i5 e.2,Z4 e.1]|_=>cases h
def Pv(h:tI d b m=L):rA d=Z (b,.int m):=by
 unfold tI at h;generalize rA d=o at h⊢;rcases o with _|⟨j,a⟩;·cases h
 ·cases a with|int z=>have e:(j==b&&z==m)=L:=h;rw[m_]at e;rw[Z4 e.2,Z4 e.1]|_=>cases h
def Pw:(En.all λh=>tS (b_ "for "++h) 2 h)=L:=by lk
def Px:(ø.all λh=>tS (b_ "under "++h) 3 h)=L:=by lk
def Py:((ud 60).all λi=>tI (b_ "until "++is i) 4 i)=L:=by lk
def Pz:((ud 30).all λi=>tI (b_ "lasts "++is i) 5 i)=L:=by lk
def Tg(q:d∈En):rA (b_ "for "++d)=Z (2,.str d):=Pu (bb (p:=λd=>tS (b_ "for "++d) 2 d) Pw q)
def Th(q:d∈ø):rA (b_ "under "++d)=Z (3,.str d):=Pu (bb (p:=λd=>tS (b_ "under "++d) 3 d) Px q)
def Ti(q:m∈ud 60):rA (b_ "until "++is m)=Z (4,.int m):=Pv (bb (p:=λm=>tI (b_ "until "++is m) 4 m) Py q)
def Tj(q:m∈ud 30):rA (b_ "lasts "++is m)=Z (5,.int m):=Pv (bb (p:=λm=>tI (b_ "lasts "++is m) 5 m) Pz q)
def PB:rA (b_ "safe")=Z (6,.bl L):=by lk
def PC:rA (b_ "near")=Z (7,.str "near"):=by lk
def put(a:N%0)(p:Str):N%0:=match rA p with|none=>a|some (k,d)=>a.set k d
def Ks(a:N%0)(p:Str):(put a p).length=a.length:=by unfold put;split<;>simp
def ue:∀l:Str%0,ç (l.map N.str)=L|[]=>rfl|x::l=>by show(ģ (.str x)&&ç (l.map N.str))=L;rw[ue l];rfl
def ER(x:Str)(d e:N)(a b:N%1):Ev:=[Z (.str x),Z d,Z e,U,a,b]
def Kt{b:N%1}(h:okT p=L)(r:E.length=8):∃q,bA (ER d i v (Z (.str p)) b) E=Z (.nx (ER d i v (Z (.str p)) q) (put E p)):=by
 obtain⟨e,m⟩:=Kq h;refine⟨Z (eT (rA p)),?_⟩;have n:gW 5 (ag bO 1 (aw (Y 4))) (ER d i v (Z (.str p)) b) E=Z (.nx (ER d i v (Z (.str p)) (Z (eT (rA p)))) E):=by unfold gW;rw[fP bO (f:=Y 4) (b:=ER d i v (Z (.str p)) b) (a:=.str p) rfl e];rfl
 unfold bA;show(match gW 5 (ag bO 1 (aw (Y 4))) (ER d i v (Z (.str p)) b) E with|some (.nx f g)=>(oIf (fB (R oj (Y 5) (fC .non))) (we (R Ö (Y 5) (X 0)) (R Ö (Y 5) (X 1))) Li) f g|o=>o)=_;rw[n];unfold put;match j:rA p with|none=>rfl|some (k,a)=>have:=m k a j;show(if 0<=(k:Int)/\(k:Int)<E.length then Z (Fo.nx (ER d i v (Z (.str p)) (Z (.tup [.int k,a]))) (E.set (k:Int).toNat a))else U)=_;rw[if_pos ⟨by omega,by omega⟩];rfl
def BL{x:Str}{d g:N}:∀(f:Str%0)(ds:N%0)(a b:N%1),(∀p∈f,okT p=L)->ds.length=8->om 4 [4,5] bA (f.map N.str) (ER x d g a b) ds=Z (.nx (ER x d g U U) (f.foldl put ds))|[],ds,a,b,_,_=>rfl|p::f,ds,a,b,h,k=>by obtain⟨n,e⟩:=Kt (d:=x) (i:=d) (v:=g) (b:=U) (E:=ds) (h p pi) k;show(match bA (ER x d g (Z (.str p)) U) ds with|some (.nx i j)=>om 4 [4,5] bA (f.map N.str) i j|o=>o)=_;rw[e];exact BL f (put ds p) (Z (.str p)) n (λq m=>h q (s_ _ m)) (by rw[Ks];exact k)
def Ku(d w:Str):Bool:=okS (ď d w)&&(match qe (ď d w) [.str "="]with|some (.ok (.tup [.str a,.str b,.str c]))=>seq a d&&(seq b (b_ "=")&&seq c w)|_=>D)&&(ő (aS [.str d])&&ő (bP [.str w]))
def wH:(ĺ.all λn=>Ņ.all λw=>Ku n w)=L:=by lk
def Ũ(a w:Str):N%0:=[.str a,.str w,.non,.non,.non,.non,.bl D,.str "any"]
def Kw{i:Str%0}(hx:d.length<=100000)(v:p∈ĺ)(hw:μ∈Ņ)(y:X0 d (b_ ";")=H)(hq:H.length<=100)(ht:H.map (λq=>Xy q ſ)=ď p μ::i)(hl:∀q∈H,q.length<=1000)(hp:∀g∈i,okT g=L):aI [.str d]=.tup (i.foldl put (Ũ p μ))%3:=by
 have r:=bb (p:=λμ=>Ku p μ) (bb (p:=λn=>Ņ.all λμ=>Ku n μ) wH v) hw;unfold Ku at r;simp![m_]at r;obtain⟨⟨_,k⟩,h3,h4⟩:=r;have e3:=nQ h3;have e4:=nQ h4;have e2:qe (ď p μ) [.str "="]=.tup [.str p,.str "=",.str μ]%3:=by
  split at k;·rename_i a b c e;simp![m_]at k;rw[e,i5 k.1,i5 k.2.1,i5 k.2.2]
  ·cases k
 have v1:dt 1 [] (gm (fM (je) (Y 0) (aw (Ø ";")))) (gN 0) U (fM (mV) (Y 0) (aw (Ø " "))) [Z (.str d),U,U,U,U,U]=.lst ((ď p μ::i).map N.str)%3:=by
  have m:gm (fM (je) (Y 0) (aw (Ø ";"))) [Z (.str d),U,U,U,U,U]=H.map N.str%3:=by
   have z:fM (je) (Y 0) (aw (Ø ";")) [Z (.str d),U,U,U,U,U]=.lst (H.map N.str)%3:=by show je d [.str ";"]=_;show(if(b_ ";").length≠0/\d.length<=100000/\(X0 d (b_ ";")).length<=100000 then _ else U)=_;rw[if_pos ⟨by decide,hx,by rw[y];omega⟩,y]
   unfold gm;rw[z];rfl
  have e:=tZ (d:=[]) (A:=fM (mV) (Y 0) (aw (Ø " "))) N.str (λq=>N.str (Xy q ſ)) m () λq u=>by show mV q [.str " "]=_;show(if q.length<=100000 then _ else U)=_;rw[if_pos (by have:=hl q u;omega)];rfl
  rw[e,<-ht,W7];rfl
 let f:N:=.lst ((ď p μ::i).map N.str);let T3:N:=.tup [.str p,.str "=",.str μ];have Q:fM (qe) (R Ö (Y 1) (X 0)) (aw (Ø "=")) [Z (.str d),Z f,U,U,U,U]=T3%3:=e2;have c1:(Č (fB (R è (R Ö (Y 2) (X 1)) (Ø ""))) (Č (cw (fB (ag aS 1 (aw (R Ö (Y 2) (X 0)))))) (cw (fB (ag bP 1 (aw (R Ö (Y 2) (X 2)))))))) (ER d f T3 U U)=D%3:=by
  have E:ag aS 1 (aw (R Ö (Y 2) (X 0))) (ER d f T3 U U)=bo L:=fP aS rfl e3;have A:ag bP 1 (aw (R Ö (Y 2) (X 2))) (ER d f T3 U U)=bo L:=fP bP rfl e4;have I:fB (R è (R Ö (Y 2) (X 1)) (Ø "")) (ER d f T3 U U)=D%3:=by lk
  unfold Č;rw[I];show(Č (cw (fB (ag aS 1 (aw (R Ö (Y 2) (X 0)))))) (cw (fB (ag bP 1 (aw (R Ö (Y 2) (X 2))))))) (ER d f T3 U U)=_;unfold Č cw;rw[bd E,bd A];rfl
 have j:gm (uq (Y 1) (eP (X 1)) gp) (ER d f T3 U U)=i.map N.str%3:=by
  have z:uq (Y 1) (eP (X 1)) gp (ER d f T3 U U)=.lst (i.map N.str)%3:=by show Z (Rs.ok (N.lst (zx ((ď p μ::i).map N.str) (Z 1) U)))=_;congr 3;show(((ď p μ::i).map N.str).drop (min 1 ((ď p μ::i).map N.str).length)).take (((ď p μ::i).map N.str).length-min 1 ((ď p μ::i).map N.str).length)=_;rw[abU ∅];rw[G_,List.drop_succ_cons,aaW,ZN ∅]
  unfold gm;rw[z];rfl
 have o:zW 4 [4,5] (gm (uq (Y 1) (eP (X 1)) gp)) bA (ER d f T3 U U) (Ũ p μ)=Z (.nx (ER d f T3 U U) (i.foldl put (Ũ p μ))):=by unfold zW;rw[j];show(if ç (i.map N.str)=L then _ else U)=_;rw[if_pos (ue i)];exact BL i (Ũ p μ) U U hp rfl
 refine mi ?_;show fg [Z (.str d),U,U,U,U,U]=_;unfold fg;rw[ax (cA (show cw (fB (f1 (jo sh) (Y 0))) [Z (.str d),U,U,U,U,U]=D%3 from rfl))];rw[ax (ci (a:=[Z (.str d),Z f,U,U,U,U]) v1 rfl)];rw[ax (ci (a:=ER d f T3 U U) Q rfl)];rw[ax (cA c1)];unfold zV;rw[show(aO (R Ö (Y 2) (X 0)) (aO (R Ö (Y 2) (X 2)) (uE (fC .non) (fC .non) (fC .non) (fC .non) (fC (.bl D)) (Ø "any")))) (ER d f T3 U U)=Ũ p μ%3 from rfl];show(match(gk (zW 4 [4,5] (gm (uq (Y 1) (eP (X 1)) gp)) bA) (zT 3 (é gq (aw (Y 3))))) (ER d f T3 U U) (Ũ p μ)with            |some (.nx s w)=>Z (Fl.nx (s.set 3 (Z (.lst w))))|some (.rt h)=>Z (.rt h)|none=>U)=_;unfold gk;rw[o];rfl
def jL(a b:Str):(a++b).cps.toList=a.cps.toList++b.cps.toList:=Array.toList_append
def oF(b a:Str):Str->Str->Str%0->Str%0|pre,x,[]=>[pre++x++Ĥ]|pre,x,y::l=>(pre++x++b)::oF b a a y l
def wI(b a:Str):∀(l:Str%0)(pre x:Str),∃q r,oF b a pre x l=q::r|[],_,_=>⟨_,_,rfl⟩|_::_,_,_=>⟨_,_,rfl⟩
def JS:Str%0->Nat%0|[]=>[]|q::r=>J [59] q.cps.toList (r.map λs=>s.cps.toList)
def BM(a x y:Str)(l:Str%0):YU a (x::y::l)=x++a++YU a (y::l):=by show acZ a (x::y::l)=x++a++acZ a (y::l);rw[ab1,ab1];rfl
def PD{d b a:Str}(g:d.cps.toList=b.cps.toList++59::a.cps.toList):∀(l:Str%0)(pre x:Str),pre.cps.toList++(YU d (x::l)).cps.toList=JS (oF b a pre x l)|[],pre,x=>by show pre.cps.toList++x.cps.toList=(pre++x++Ĥ).cps.toList;rw[jL,jL];show _=_++[];simp|y::l,pre,x=>by have f:=PD g l a y;obtain⟨q,r,e⟩:=wI b a l a y;rw[BM,jL,jL,g];show _=JS ((pre++x++b)::oF b a a y l);rw[e]at f⊢;show _=(pre++x++b).cps.toList++([59]++J [59] q.cps.toList (r.map λs=>s.cps.toList));rw[show J [59] q.cps.toList (r.map λs=>s.cps.toList)=JS (q::r)from rfl,<-f,jL,jL];simp
def Ū(b a p:Str):Bool:=iL Ĥ p b&&(iL Ĥ p Ĥ&&(iL a p b&&iL a p Ĥ))
def nU(h:iL d p μ=L):Xy (d++p++μ) ſ=p/\59∉(d++p++μ).cps.toList:=by unfold iL at h;rw[m_]at h;exact⟨i5 h.1,by simpa using h.2⟩
def BN{b a:Str}:∀(l:Str%0)(pre x:Str),(iL pre x b=L/\iL pre x Ĥ=L)->(∀p∈l,Ū b a p=L)->(oF b a pre x l).map (λq=>Xy q ſ)=x::l/\∀q∈oF b a pre x l,59∉q.cps.toList
 |[],pre,x,f,_=>by obtain⟨h,g⟩:=nU f.2;exact⟨by show[Xy (pre++x++Ĥ) ſ]=[x];rw[h],λq d=>by rw[V5.mp d];exact g⟩|y::l,pre,x,f,i=>by
  obtain⟨h,g⟩:=nU f.1;have e:=i y pi;unfold Ū at e;simp![m_]at e;obtain⟨m,k⟩:=BN l a y ⟨e.2.2.1,e.2.2.2⟩ λp j=>i p (s_ _ j);refine⟨by show Xy (pre++x++b) ſ::(oF b a a y l).map _=_;rw[h,m],λq d=>?_⟩;rcases v_.mp d with rfl|d;·exact g
  ·exact k q d
def wJ{d a:Str}(i:d.length<=2)(g:a.length<=2):∀(l:Str%0)(pre x:Str),pre.length<=2->x.length<=200->(∀p∈l,p.length<=200)->(oF d a pre x l).length=l.length+1/\∀q∈oF d a pre x l,q.length<=300
 |[],pre,x,e,h,_=>⟨rfl,λq b=>by
  rw[V5.mp b,i7,i7];have:Ĥ.length=0:=by decide
  omega⟩|y::l,pre,x,e,h,f=>by
  obtain⟨k,j⟩:=wJ i g l a y g (f y pi) λp e=>f p (s_ _ e);refine⟨by show(oF d a a y l).length+1=_;rw[k];rfl,λq b=>?_⟩;rcases v_.mp b with rfl|b;·rw[i7,i7];omega
  ·exact j q b
def wK(a:Str)(d:a.length<=10):∀(l:Str%0)(x:Str),(∀p∈l,p.length<=200)->(l.foldl (λt y=>t++a++y) x).length<=x.length+l.length*210|[],x,_=>by simp|y::l,x,h=>by have b:=wK a d l (x++a++y) λp e=>h p (s_ _ e);have f:=h y pi;rw[i7,i7]at b;show(l.foldl _ (x++a++y)).length<=_;rw[Wb];omega
def nV{b w:Str}(E:d.cps.toList=p.cps.toList++59::μ.cps.toList)(h:d.length<=10)(h1:p.length<=2)(h2:μ.length<=2)(j:b∈ĺ)(A:w∈Ņ)(f:Ū p μ (ď b w)=L)(k:(ď b w).length<=200)(Q:∀a∈H,Ū p μ a=L)(o:∀a∈H,a.length<=200)(hn:H.length<=50)(I:∀a∈H,okT a=L):aI [.str (YU d (ď b w::H))]=.tup (H.foldl put (Ũ b w))%3:=by
 obtain⟨q,r,e⟩:=wI p μ H Ĥ (ď b w);unfold Ū at f;simp![m_]at f;obtain⟨v,u⟩:=BN (b:=p) (a:=μ) H Ĥ (ď b w) ⟨f.1,f.2.1⟩ Q;obtain⟨n,m⟩:=wJ h1 h2 H Ĥ (ď b w) #v[] k o;have g:=PD E H Ĥ (ď b w);rw[e]at g v u n m;have y:(YU d (ď b w::H)).cps.toList=J (b_ ";").cps.toList q.cps.toList (r.map λs=>s.cps.toList):=by
  have z:Ĥ.cps.toList=[]:=by lk
  rw[z]at g;exact g
 refine Kw (H:=q::r) ?_ j A (vt (b:=59) (Ç:=[]) (by lk) (by lk) u y) (by rw[n];omega) v (λs i=>by have:=m s i;omega) I;rw[nR];have:=wK d h H (ď b w) o;omega
structure Gw(nm w:Str)(h p:Str%1)(u l:Int%1)(S:Bool)(R:Str):Prop where
 nm:nm∈ĺ
 w:w∈Ņ
 h:∀x,h=Z x->x∈En
 p:∀x,p=Z x->x∈ø
 u:∀i,u=Z i->0<=i/\i<60l:∀i,l=Z i->0<=i/\i<30r:R=b_ "any"\/R=b_ "near"
def Tk(g:Gv d p i v η Κ δ μ):∃h a k m,Gw d p h a k m δ μ/\Đ d p i v η Κ δ μ=gv d p h a k m δ μ:=by
 have z:∃h,i=eS h/\∀x,h=Z x->x∈En:=by
  rcases g.hh with rfl|⟨n,b,rfl⟩;·exact⟨U,rfl,λx e=>by cases e⟩
  ·exact⟨Z n,rfl,λx e=>by cases e;exact b⟩
 have y:∃h,v=eS h/\∀x,h=Z x->x∈ø:=by
  rcases g.pp with rfl|⟨n,b,rfl⟩;·exact⟨U,rfl,λx e=>by cases e⟩
  ·exact⟨Z n,rfl,λx e=>by cases e;exact b⟩
 have w:∃h,η=eO h/\∀x,h=Z x->0<=x/\x<60:=by
  rcases g.u with rfl|⟨n,j,f,rfl⟩;·exact⟨U,rfl,λx e=>by cases e⟩
  ·exact⟨Z n,rfl,λx e=>by cases e;exact⟨j,f⟩⟩
 have u:∃h,Κ=eO h/\∀x,h=Z x->0<=x/\x<30:=by
  rcases g.l with rfl|⟨n,j,f,rfl⟩;·exact⟨U,rfl,λx e=>by cases e⟩
  ·exact⟨Z n,rfl,λx e=>by cases e;exact⟨j,f⟩⟩
 obtain⟨h,rfl,s⟩:=z;obtain⟨a,rfl,r⟩:=y;obtain⟨η,rfl,q⟩:=w;obtain⟨Κ,rfl,o⟩:=u;exact⟨h,a,η,Κ,⟨g.nm,g.w,s,r,q,o,g.r⟩,rfl⟩
def rB:(ĺ.all λx=>o_ (x.length<=50))=L/\(Ņ.all λx=>o_ (x.length<=50))=L/\(En.all λx=>o_ (x.length<=50))=L/\(ø.all λx=>o_ (x.length<=50))=L:=⟨by lk,by lk,by lk,by lk⟩
def BO:(ĺ.all λx=>Wi (.str x))=L/\(Ņ.all λx=>Wi (.str x))=L/\(En.all λx=>Wi (.str x))=L/\(ø.all λx=>Wi (.str x))=L:=⟨by lk,by lk,by lk,by lk⟩
def Tl{a:Str%1}(g:Gw d p Υ a Η Ρ δ μ):Vv d p Υ a Η Ρ μ:=⟨by simpa using bb (p:=λx:Str=>o_ (x.length<=50)) rB.1 g.nm,by simpa using bb (p:=λx:Str=>o_ (x.length<=50)) rB.2.1 g.w,λx e=>by simpa using bb (p:=λx:Str=>o_ (x.length<=50)) rB.2.2.1 (g.h x e),λx e=>by simpa using bb (p:=λx:Str=>o_ (x.length<=50)) rB.2.2.2 (g.p x e),λi e=>by have:=g.u i e;omega,λi e=>by have:=g.l i e;omega⟩
def To(o:Int%1):Ě 0 (eO o):=by cases o;exact O8;exact lX
def PL(h p:Str%1)(u l:Int%1)(S:Bool)(R:Str):Str%0:=(oS "for " h).toList++((oS "under " p).toList++((oI "until " u).toList++((oI "lasts " l).toList++((oB "safe" S).toList++((oB "near" (lP R)).toList++[])))))
def PF{a:Str%1}:YU (b_ "; ") (ď d p::PL Υ a Η Ρ δ μ)=T d p Υ a Η Ρ δ μ:=by rw[nR];unfold PL;rw[jU,jU,jU,jU,jU,jU];rfl
def mC(d:0<=m)(a:m<b):m∈ud b:=by unfold ud;exact U_.mpr ⟨m.toNat,Wf.mpr (),by omega⟩
def PH{a:Str%1}(g:Gw d p Υ a Η Ρ δ μ):∀x∈PL Υ a Η Ρ δ μ,x∈ų:=by
 intro x b;simp![PL,V8,Option.mem_toList,M_,or_false]at b;unfold ų;rcases b with e|e|e|e|e|e;·refine P_ _ ?_;cases Υ with|none=>cases e|some y=>cases e;exact U_.mpr ⟨y,g.h y rfl,rfl⟩
 ·refine on _ (P_ _ ?_);cases a with|none=>cases e|some y=>cases e;exact U_.mpr ⟨y,g.p y rfl,rfl⟩
 ·refine on _ (on _ (P_ _ ?_));cases Η with|none=>cases e|some y=>cases e;exact U_.mpr ⟨y,mC (g.u y rfl).1 (g.u y rfl).2,rfl⟩
 ·refine on _ (on _ (on _ (P_ _ ?_)));cases Ρ with|none=>cases e|some y=>cases e;exact U_.mpr ⟨y,mC (g.l y rfl).1 (g.l y rfl).2,rfl⟩
 · refine on _ (on _ (on _ (on _ (P_ _ ?_))));unfold oB at e;split at e;·cases e;simp
   ·cases e
 · refine on _ (on _ (on _ (on _ (P_ _ ?_))));unfold oB at e;split at e;·cases e;simp
   ·cases e
structure Ptk(x:Str):Prop where
 t:okT x=L
 q1:Ū Ĥ ſ x=L
 q2:Ū Ĥ Ĥ x=L
 q3:Ū rw rw x=L
 l:x.length<=200n:59∉x.cps.toList
def PJ(h:okS d=L):Ū Ĥ ſ d=L/\Ū Ĥ Ĥ d=L/\Ū rw rw d=L/\d.length<=200/\59∉d.cps.toList:=by unfold okS at h;simp![m_,decide_eq_true_eq]at h;obtain⟨a,b,j,i,g,f⟩:=h;unfold Ū;simp![m_];refine⟨⟨a,a,b,b⟩,⟨a,a,a,a⟩,⟨i,a,j,g⟩,f,?_⟩;have:=(nU a).2;rw[jL,jL]at this;intro e;exact this (P_ _ (on _ e))
def W'(a:d∈ų):Ptk d:=by have h:=bb Kr a;unfold UQ at h;rw[m_]at h;obtain⟨i,g,f,e,b⟩:=PJ h.2;exact⟨h.1,i,g,f,e,b⟩
def Kx(b:d∈ĺ)(e:p∈Ņ):okS (ď d p)=L:=by have a:=bb (p:=λp=>Ku d p) (bb (p:=λn=>Ņ.all λp=>Ku n p) wH b) e;unfold Ku at a;simp![m_]at a;exact a.1.1
def Ky(e:d∈ĺ)(f:p∈Ņ)(b:∀x∈H,x∈ų)(g:H.length<=50):aI [.str (YU (b_ "; ") (ď d p::H))]=.tup (H.foldl put (Ũ d p))%3/\aI [.str (YU (b_ ";") (ď d p::H))]=.tup (H.foldl put (Ũ d p))%3/\aI [.str (YU (b_ "  ;  ") (ď d p::H))]=.tup (H.foldl put (Ũ d p))%3:=by obtain⟨f1,R,i,h,j⟩:=PJ (Kx e f);exact⟨nV (p:=Ĥ) (μ:=ſ) (by lk) #v[] #v[] #v[] e f f1 h (λx a=>(W' (b x a)).q1) (λx a=>(W' (b x a)).l) g λx a=>(W' (b x a)).t,nV (p:=Ĥ) (μ:=Ĥ) (by lk) #v[] #v[] #v[] e f R h (λx a=>(W' (b x a)).q2) (λx a=>(W' (b x a)).l) g λx a=>(W' (b x a)).t,nV (p:=rw) (μ:=rw) (by lk) #v[] #v[] #v[] e f i h (λx a=>(W' (b x a)).q3) (λx a=>(W' (b x a)).l) g λx a=>(W' (b x a)).t⟩
def PK{p:Str%1}:(PL Υ p Η Ρ δ d).length<=6:=by have f1:=pH (oS "for " Υ);have a:=pH (oS "under " p);have g:=pH (oI "until " Η);have f:=pH (oI "lasts " Ρ);have e:=pH (oB "safe" δ);have b:=pH (oB "near" (lP d));simp[PL];omega
def gs(o:Str%1)(c:N):N:=match o with|none=>c|some x=>.str x
def gi(o:Int%1)(c:N):N:=match o with|none=>c|some x=>.int x
def gb(o:Bool)(c d:N):N:=if o then d else c
def VR(j:∀x,Υ=Z x->x∈En)(h:Str%0)(a b c d e f g i:N):((oS "for " Υ).toList++h).foldl put [a,b,c,d,e,f,g,i]=h.foldl put [a,b,gs Υ c,d,e,f,g,i]:=by cases Υ with|none=>rfl|some x=>show h.foldl put (put _ (b_ "for "++x))=_;unfold put;rw[Tg (j x rfl)];rfl
def VS(j:∀x,Υ=Z x->x∈ø)(h:Str%0)(a b c d e f g i:N):((oS "under " Υ).toList++h).foldl put [a,b,c,d,e,f,g,i]=h.foldl put [a,b,c,gs Υ d,e,f,g,i]:=by cases Υ with|none=>rfl|some x=>show h.foldl put (put _ (b_ "under "++x))=_;unfold put;rw[Th (j x rfl)];rfl
def VT(j:∀x,Η=Z x->0<=x/\x<60)(h:Str%0)(a b c d e f g i:N):((oI "until " Η).toList++h).foldl put [a,b,c,d,e,f,g,i]=h.foldl put [a,b,c,d,gi Η e,f,g,i]:=by cases Η with|none=>rfl|some x=>show h.foldl put (put _ (b_ "until "++is x))=_;unfold put;rw[Ti (mC (j x rfl).1 (j x rfl).2)];rfl
def VU(j:∀x,Η=Z x->0<=x/\x<30)(h:Str%0)(a b c d e f g i:N):((oI "lasts " Η).toList++h).foldl put [a,b,c,d,e,f,g,i]=h.foldl put [a,b,c,d,e,gi Η f,g,i]:=by cases Η with|none=>rfl|some x=>show h.foldl put (put _ (b_ "lasts "++is x))=_;unfold put;rw[Tj (mC (j x rfl).1 (j x rfl).2)];rfl
def VV(h:Str%0)(a b c d e f g i:N):((oB "safe" δ).toList++h).foldl put [a,b,c,d,e,f,g,i]=h.foldl put [a,b,c,d,e,f,gb δ g (.bl L),i]:=by cases δ with|false=>rfl|true=>show h.foldl put (put _ (b_ "safe"))=_;unfold put;rw[PB];rfl
def VW(k:Bool)(h:Str%0)(a b c d e f g i:N):((oB "near" k).toList++h).foldl put [a,b,c,d,e,f,g,i]=h.foldl put [a,b,c,d,e,f,g,gb k i (.str "near")]:=by cases k with|false=>rfl|true=>show h.foldl put (put _ (b_ "near"))=_;unfold put;rw[PC];rfl
def PM{h:Str%1}(g:Gw d p Υ h Η Ρ δ μ)(a b c j e f k i:N):(PL Υ h Η Ρ δ μ).foldl put [a,b,c,j,e,f,k,i]=[a,b,gs Υ c,gs h j,gi Η e,gi Ρ f,gb δ k (.bl L),gb (lP μ) i (.str "near")]:=by unfold PL;rw[VR g.h,VS g.p,VT g.u,VU g.l,VV,VW];rfl
def PN{a:Str%1}(g:Gw d p Υ a Η Ρ δ μ):gb (lP μ) (.str "any") (.str "near")=.str μ:=by rcases g.r with e|e<;>rw[e]<;>rfl
def GG(o:Str%1):gs o .non=eS o:=by cases o<;>rfl
def GH(o:Int%1):gi o .non=eO o:=by cases o<;>rfl
def VX(S:Bool):gb S (.bl D) (.bl L)=.bl S:=by cases S<;>rfl
def Tp{a:Str%1}(g:Gw d p Υ a Η Ρ δ μ):N.tup ((PL Υ a Η Ρ δ μ).foldl put (Ũ d p))=gv d p Υ a Η Ρ δ μ:=by unfold Ũ;rw[PM g,PN g,GG,GG,GH,GH,VX]
def PP(i:Int):aE [.int i]=bo (o_ (0<=i)&&o_ (i<=9999)):=by
 have e:aW [.int i,.int 0,.int 9999]=bo (o_ (0<=i)&&o_ (i<=9999)):=by
  by_cases a:0<=i;·simp[aW,bM,bf,aQ,sq,bt,aR,cV,Þ,Č,cw,fB,ą,Y,f1,R,li,jo,fD,mX,ĩ,a]
  ·simp[aW,bM,bf,aQ,sq,bt,aR,cV,Þ,Č,cw,fB,ą,Y,f1,R,li,jo,fD,mX,ĩ,a]
 have b:aZ [.int i]=bo (o_ (0<=i)&&o_ (i<=9999)):=by simp[aZ,bM,fG,aR,cV,Þ,ag,aO,dP,Y,fC,e]
 simp[aE,bM,bu,aR,cV,Þ,ą,ag,aO,dP,Y,fC,R,ľ,ė,b]
def PQ{a:Str%1}(g:Gw d p Υ a Η Ρ δ μ):aI [.str (T d p Υ a Η Ρ δ μ)]=gv d p Υ a Η Ρ δ μ%3:=by have:=(Ky (d:=d) (p:=p) g.nm g.w (PH g) (Wa PK ())).1;rw[PF,Tp g]at this;exact this
abbrev ntn(f w a:Str)(g:Bool)(d:Str)(e:N)(S:Bool)(R:Str)(b:Int):N:=.tup [.str f,.str w,.str a,.bl g,.str d,e,.bl S,.str R,.int b,.int b]
def Fh(h:Ě b i)(a:b<=64):İ i i=.bl D%3:=BB (h.okP a) h.p
def GI(u l:N)(a:Int):N:=match l with|.int i=>.int (if 9999<a+i then 9999 else a+i)|_=>u
def lZ{now:Int}(g:Gv d p i v η Κ δ μ):jy [Đ d p i v η Κ δ μ,.int now]=GI η Κ now%3:=by
 rcases g.l with rfl|⟨a,i0,b,rfl⟩;·simp[jy,bM,jx,aQ,sq,bt,aR,cV,Þ,fB,ą,Y,fC,R,Ö,ċ,ė,GI]
 ·simp[jy,bM,jx,aQ,sq,bt,aR,cV,Þ,fB,ą,aO,dP,Y,fC,R,Ö,ċ,é,ė,cf,Lj,GI]
def PR(g:Gv d p i v η Κ δ μ)(b:0<=m):Mo (GI η Κ m):=by
 rcases g.l with rfl|⟨a,i0,e,rfl⟩;·exact g.mu
 ·refine .inr ⟨_,?_,?_,rfl⟩<;>split<;>omega
def GJ{h b:Str}{O:N}{e f:Str}{j:Bool}(w:E∈lg ò)(a:Ak h b O)(g:Gv d p i v η Κ δ μ)(o:0<=m)(n:m<=9999)(W:Wt E h b O d p i v η Κ δ μ È e f j .non):ei [.tup E,Ĉ È h b O,Đ d p i v η Κ δ μ,.int m]=ntn d p e j f (GI η Κ m) δ μ m%3:=by have H:=Pj (iK w);have A:=Q4 (yf (δ:=È) a);have z:=UN (BH g);have y:=Km (rj o n);have k:=W.why;have u:=W.hf;have s:=W.ix;have r:=W.pf;have q:=lZ (now:=m) g;simp[ei,fX,qJ,aQ,sq,bt,aR,fA,cV,Þ,fB,ą,ag,aC,aO,dP,Y,fC,R,Ö,ċ,cT,oj,H,A,z,y,k,u,s,r,q]
namespace J
def GK{b:î}(d:Ν ζ=δ%3)(a:b ζ=È%3):Č Ν b ζ=(δ||È)%3:=by
 unfold Č;rw[d];cases δ;·exact a
 ·rfl
def PP(i:Int):aZ [.int i]=bo (o_ (0<=i)&&o_ (i<=9999)):=by
 have e:aW [.int i,.int 0,.int 9999]=bo (o_ (0<=i)&&o_ (i<=9999)):=by
  by_cases a:0<=i;·simp[aW,bM,bf,aQ,sq,bt,aR,cV,Þ,Č,cw,fB,ą,Y,f1,R,li,jo,fD,mX,ĩ,a]
  ·simp[aW,bM,bf,aQ,sq,bt,aR,cV,Þ,Č,cw,fB,ą,Y,f1,R,li,jo,fD,mX,ĩ,a]
 simp[aZ,bM,fG,aR,cV,Þ,ag,aO,dP,Y,fC,e]
def rj(b:0<=m)(a:m<=9999):aZ [.int m]=bo L:=by rw[PP];simp[b,a]
def rm(h:d=b_ "any"\/d=b_ "near"):fH [.str d]=bo L/\∃r,è (.str d) (.str "any")=bo r/\è (.str d) (.str "near")=bo (!r):=by
 rcases h with rfl|rfl;·exact⟨by lk,L,by lk,by lk⟩
 ·exact⟨by lk,D,by lk,by lk⟩
structure al where
 nm:Str
 w:Str
 house:Str
 ex:Bool
 path:Str
 ends:Int%1
 S:Bool
 R:Str
 md:Int
 us:Int
deriving DecidableEq
def à(n:al):N:=.tup [.str n.nm,.str n.w,.str n.house,.bl n.ex,.str n.path,eO n.ends,.bl n.S,.str n.R,.int n.md,.int n.us]
def ek(n:al):N:=.tup [.str n.nm,.str n.house,.str n.path]
def key(n:al):Str%0:=[n.nm,n.house,n.path]
structure ñ(n:al):Prop where
 nm:n.nm∈ĺ
 w:n.w∈Ņ
 house:n.house∈En
 path:n.path∈ø
 R:n.R=b_ "any"\/n.R=b_ "near"ends:∀i,n.ends=Z i->0<=i/\i<=9999mk0:0<=n.md
 mu:n.md<=n.us
 us:n.us<=200
variable{τ:al}
def Tq(g:ñ τ):Mo (eO τ.ends):=by cases h:τ.ends with|none=>exact .inl rfl|some i=>exact .inr ⟨i,(g.ends i h).1,by have:=(g.ends i h).2;omega,rfl⟩
def PU(g:ñ τ):gF [à τ]=bo L:=by
 have a:bY [à τ,.int 10]=bo L:=by lk
 have e:=rj g.mk0 (by have:=g.mu;have:=g.us;omega);have d:=rj (Int.le_trans g.mk0 g.mu) (by have:=g.us;omega);have b:aE [eO τ.ends]=bo L:=BE (Tq g);unfold à at a⊢;simp[gF,bM,kY,aQ,sq,bt,aR,cV,Þ,Č,cw,fB,ą,ag,aO,dP,Y,fC,f1,R,Ö,ċ,eU,é,jo,fD,a,e,d,UK g.nm,UL g.w,Pi g.house,Tc g.path,b,(rm g.R).1,qc,kJ,ĩ,g.mu]
def Ċ:Str%0:=ĺ++(Ņ++(En++(ø++[b_ "any",b_ "near"])))
def BO:(Ċ.all λx=>Wi (.str x))=L:=by lk
def uf(h:d∈Ċ):Wi (.str d)=L:=bb (p:=λd=>Wi (.str d)) BO h
def ñ.sR(g:ñ τ):τ.R∈Ċ:=by unfold Ċ;rcases g.R with h|h<;>rw[h]<;>simp
def BP(g:ñ τ):Ě 1 (à τ):=by
 refine pF (b:=0) λd a=>?_;simp![v_,M_,or_false]at a;rcases a with rfl|rfl|rfl|rfl|rfl|rfl|rfl|rfl|rfl|rfl;·exact jg (uf (by simp[Ċ,g.nm]))
 ·exact jg (uf (by simp[Ċ,g.w]))
 ·exact jg (uf (by simp[Ċ,g.house]))
 ·exact O7
 ·exact jg (uf (by simp[Ċ,g.path]))
 ·exact To _
 ·exact O7
 ·exact jg (uf g.sR)
 ·exact lX
 ·exact lX
def PV(g:ñ τ):Ě 1 (ek τ):=by
 refine pF (b:=0) λd a=>?_;simp![v_,M_,or_false]at a;rcases a with rfl|rfl|rfl;·exact jg (uf (by simp[Ċ,g.nm]))
 ·exact jg (uf (by simp[Ċ,g.house]))
 ·exact jg (uf (by simp[Ċ,g.path]))
def PX(a b:al):WY (gV (ek a)) (gV (ek b))=o_ (key a=key b):=by rw[Xf];simp[ek,key,gV,ý,WY,XN]
def Kz{b:al}(h:ñ τ)(g:ñ b):è (ek τ) (ek b)=bo (o_ (key τ=key b))/\İ (ek τ) (ek b)=bo (!o_ (key τ=key b)):=by
 have e:=(PV h).okP ();have d:=(PV g).okP ();have a:=PX τ b;have f:ū (ek τ) (ek b)=U:=rfl;constructor;·unfold è;rw[f,e,d,a];rfl
 ·unfold İ;rw[f,e,d,a];rfl
def Ē(n:al)(a:Int):Bool:=match n.ends with|none=>D|some i=>o_ (i<=a)
def ej(a:al%0):N:=.tup (a.map à)
structure Ś(js:al%0):Prop where
 g:∀n∈js,ñ n
 s:∀i(h:i+1<js.length),js[i].md<=js[i+1].md
 k:(js.map key).Nodup
 l:js.length<=20
def GL{a:Type}{o:Rs θ%1}{k:θ->Rs a%1}(h:o=Ó%3):Þ o k=k Ó:=by rw[h];rfl
def vy:∀(n:Nat)(lo:Int),rng lo n=(uk n).map λi:Nat=>N.int (lo+(i:Int))
 |0,lo=>rfl|n+1,lo=>by
  rw[abL];show N.int lo::rng (lo+1) n=_;rw[vy n (lo+1)];simp![G_,W7];congr 1;·simp
  ·congr 1;funext i;simp![Z8];congr 1;omega
def BQ{f g:kK}{a:Ev}{b:N%0}(h:f ζ E=Z (.nx a b)):gk f g ζ E=g a b:=by unfold gk;rw[h]
def KB(h:ζ[b]?=Z (Z (.lst E))):gm (Y b) ζ=E%3:=by unfold gm Y;rw[h];rfl
variable{k:al%0}
def j6(h:ζ[b]?=Z (Z (ej k))):gm (Y b) ζ=k.map à%3:=by unfold gm Y;rw[h];rfl
def KC(b:∀o∈k,ñ o):Ě 2 (.lst (k.map à)):=BC λd e=>by obtain⟨x,a,rfl⟩:=U_.mp e;exact BP (b x a)
def PY(b:∀o∈k,ñ o):Ě 2 (ej k):=pF λd e=>by obtain⟨x,a,rfl⟩:=U_.mp e;exact BP (b x a)
def nil_eq(b:∀o∈k,ñ o):è (.lst (k.map à)) (.lst [])=bo k.isEmpty:=by cases k with|nil=>lk|cons o rest=>
 have i2:=(KC b).okP ();have a:okP (.lst [])=L:=by lk
 unfold è;rw[show ū (.lst ((o::rest).map à)) (.lst [])=U from rfl,i2,a];simp[gV,ý,WY,XN]
def ug:∀l:Int%0,ç (l.map N.int)=L|[]=>rfl|i::l=>by show(ģ (.int i)&&ç (l.map N.int))=L;rw[ug l];rfl
def BR(a b:Int):dD (.int a) (.int b)=.int (a+b)%3:=rfl
structure JI(B:Nat)(js:al%0)(now:Int):Prop where
 g:∀n∈js,ñ n
 s:js.Pairwise λa b=>a.md<=b.md
 k:(js.map key).Nodup
 l:js.length<=B
 n0:0<=now
 n1:now<=3*B
 m:∀n∈js,n.md<=now
 u:∀n∈js,n.us<=now+4
def JI.keep(J:JI b k m)(e:0<=Ε)(d:Ε<4):JI (b+1) k (m+Ε):=⟨J.g,J.s,J.k,by have:=J.l;omega,by have:=J.n0;omega,by have:=J.n1;omega,λn a=>by have:=J.m n a;omega,λn a=>by have:=J.u n a;omega⟩
def JI.add(J:JI b k m)(v:0<=Ε)(u:Ε<4)(g:ñ τ)(q:τ.us<=m+Ε+4)(p:τ.md=m+Ε)(s:k.filter (λo=>o_ (key o=key τ))=[]):JI (b+1) (k++[τ]) (m+Ε):=by
 have r:∀o∈k,key o≠key τ:=λo j e=>by have:o∈k.filter (λo=>o_ (key o=key τ)):=Wp.mpr ⟨j,by simp[e]⟩;rw[s]at this;cases this
 refine⟨λx f=>?_,?_,?_,by have:=J.l;simp;omega,by have:=J.n0;omega,by have:=J.n1;omega,λx f=>?_,λx f=>?_⟩
 · rcases V8.mp f with h|h;·exact J.g x h
   ·rw[V5.mp h];exact g
 ·refine acg.mpr ⟨J.s,Zt ..,λa n d i=>?_⟩;rw[V5.mp i,p];have:=J.m a n;omega
 ·rw[WU];refine X6.mpr ⟨J.k,by simp,λa n d i e=>?_⟩;obtain⟨o,j,rfl⟩:=U_.mp n;simp![G_,ZP,V5]at i;exact r o j (e.trans i)
 · rcases V8.mp f with h|h;·have:=J.m x h;omega
   ·rw[V5.mp h,p];omega
 · rcases V8.mp f with h|h;·have:=J.u x h;omega
   ·rw[V5.mp h];exact q
def JI.jar(J:JI b k m)(a:b<=20):Ś k:=⟨J.g,λi h=>XZ.mp J.s i (i+1) () h (),J.k,by have:=J.l;omega⟩
def jb(b:Int%0)(z m a:Int):Ev:=[Z (.scr b),Z (.int z),Z (.int m),U,Z (.int a),U,U,U,U,U,U,U,U,U,U,U]
def cJ:î:=(fB (R è (dv [("_law_note",15)] (gm (Y 3)) (Z (fB (R è (cT (bS (R Ö (Y 0) (X 0)) (R Ö (Y 0) (X 2)) (R Ö (Y 0) (X 4)))) (cT (bS (R Ö (Y 1) (X 0)) (R Ö (Y 1) (X 2)) (R Ö (Y 1) (X 4))))))) (Y 0)) (eU dP)))
def Tr(d:∀o∈k,ñ o)(g:ñ τ)(i:k.length<=20)(f:ζ[3]?=Z (Z (.lst (k.map à))))(b:ζ[15]?=Z (Z (à τ))):cJ ζ=Z (.ok (k.filter (λo=>o_ (key o=key τ))).isEmpty):=by
 have e:Cz [("_law_note",15)] ζ=[U,Z (à τ)]:=by simp[Cz,b]
 have h:=jK (d:=[("_law_note",15)]) (ο:=gm (Y 3)) (Ν:=(fB (R è (cT (bS (R Ö (Y 0) (X 0)) (R Ö (Y 0) (X 2)) (R Ö (Y 0) (X 4)))) (cT (bS (R Ö (Y 1) (X 0)) (R Ö (Y 1) (X 2)) (R Ö (Y 1) (X 4))))))) (A:=Y 0) (ζ:=ζ) à (λo=>o_ (key o=key τ)) à (KB f) () λo a=>⟨by rw[e];exact bd ((ba (i:=ek o) (v:=ek τ) rfl rfl).trans (Kz (d o a) g).1),by rw[e];rfl⟩;exact bd ((ba h rfl).trans (nil_eq λo a=>d o (Wp.mp a).1))
def BS(e:Int%0)(g:e.length<=63)(z m d k:Int){B:Nat}{p:al%0}(J:JI B p d)(hB:B<=10):∃u v q,bN ((jb e z m d).set 5 (Z (.int k))) (p.map à)=Z (.nx u (v.map à))/\fgt [5,6,7,8,9,10,11,12,13,14,15] u=jb e z m q/\JI (B+1) v q:=by
 obtain⟨b,hh⟩:∃b,b=z+1+14*k:=⟨_,rfl⟩;obtain⟨f,a0,b0,e0⟩:=aV e g b 4 ();obtain⟨d1,a1,b1,e1⟩:=aV e g (b+1) 4 ();obtain⟨d2,a2,b2,e2⟩:=aV e g (b+2) 3 ();obtain⟨I,a4,b4,e4⟩:=aV e g (b+4) 2 ();obtain⟨d6,a6,b6,e6⟩:=aV e g (b+6) 2 ();obtain⟨d7,a7,b7,e7⟩:=aV e g (b+7) 60 ();obtain⟨d8,a8,b8,e8⟩:=aV e g (b+8) 2 ();obtain⟨d9,a9,b9,e9⟩:=aV e g (b+9) 3 ();obtain⟨h,e',d',c'⟩:=aV e g (b+10) 5 ();obtain⟨n3,b',e3⟩:=nP e g (b+3);obtain⟨p5,Q,e5⟩:=vv e g (b+5);obtain⟨x1,m1,i1⟩:=ii (E:=[.str "n",.str "m-1",.str "safe-a",.str "N_2"]) a1 b1;obtain⟨x2,m2,i2⟩:=ii (E:=[.str "5",.str "",.str "a!b~"]) a2 b2;obtain⟨x6,m6,i6⟩:=ii (E:=[.non,.int d7]) a6 b6;obtain⟨x9,m9,i9⟩:=ii (E:=[.str "any",.str "any",.str "near"]) a9 b9;have g1:∃s∈ĺ,x1=.str s:=by simp![v_,M_,or_false]at m1;rcases m1 with rfl|rfl|rfl|rfl<;>exact⟨_,by simp[ĺ],rfl⟩
 have g2:∃s∈Ņ,x2=.str s:=by simp![v_,M_,or_false]at m2;rcases m2 with rfl|rfl|rfl<;>exact⟨_,by simp[Ņ],rfl⟩
 have g6:∃o:Int%1,(∀i,o=Z i->0<=i/\i<=9999)/\x6=eO o:=by
  simp![v_,M_,or_false]at m6;rcases m6 with rfl|rfl;·exact⟨U,by simp,rfl⟩
  ·exact⟨Z d7,λi hi=>by cases hi;omega,rfl⟩
 have g9:∃a,(a=b_ "any"\/a=b_ "near")/\x9=.str a:=by
  simp![v_,M_,or_false]at m9;rcases m9 with rfl|rfl|rfl;·exact⟨_,.inl rfl,rfl⟩
  ·exact⟨_,.inl rfl,rfl⟩
  ·exact⟨_,.inr rfl,rfl⟩
 obtain⟨s,a',rfl⟩:=g1;obtain⟨w,hw,rfl⟩:=g2;obtain⟨o,ho,rfl⟩:=g6;obtain⟨a,hR,rfl⟩:=g9;let n:al:=⟨s,w,n3,I==0,p5,o,d8==0,a,d+f,d+f+h⟩;have q0:=J.n0;have q1:=J.n1;have gn:ñ n:=⟨a',hw,me b',Q,hR,ho,by show 0<=d+f;omega,by show d+f<=d+f+h;omega,by show d+f+h<=200;omega⟩;let j:Ev:=[Z (.scr e),Z (.int z),Z (.int m),U,Z (.int (d+f)),Z (.int k),Z (.int b),Z (.str s),Z (.str w),Z (eO o),Z (.bl (I==0)),Z (.tup [.str s,.str w,.str n3,.bl (I==0),.str p5]),Z (.str a),Z (.bl (d8==0)),Z (.int (d+f+h)),Z (à n)];have E:=Tr (ζ:=j.set 3 (Z (.lst (p.map à)))) J.g gn (by have:=J.l;omega) rfl rfl;have A:lj (.int 14) (.int k)=.int (14*k)%3:=pG (.inl ());have y:bN ((jb e z m d).set 5 (Z (.int k))) (p.map à)=Il 3 cJ (DS (Y 15)) Li j (p.map à):=by have eB:bN=(gk (gW 6 (R dD (R dD (Y 1) (X 1)) (R lj (X 14) (Y 5)))) (gk (gW 4 (R dD (Y 4) (ag ae 3 (bS (Y 0) (Y 6) (X 4))))) (gk (gW 7 (R Ö (eU (mS (Ø "n") (Ø "m-1") (Ø "safe-a") (Ø "N_2"))) (ag ae 3 (bS (Y 0) (R dD (Y 6) (X 1)) (X 4))))) (gk (gW 8 (R Ö (eU (bS (Ø "5") (Ø "") (Ø "a!b~"))) (ag ae 3 (bS (Y 0) (R dD (Y 6) (X 2)) (X 3))))) (gk (gW 9 (R Ö (eU (bp (fC .non) (ag ae 3 (bS (Y 0) (R dD (Y 6) (X 7)) (X 60))))) (ag ae 3 (bS (Y 0) (R dD (Y 6) (X 6)) (X 2))))) (gk (gW 10 (R è (ag ae 3 (bS (Y 0) (R dD (Y 6) (X 4)) (X 2))) (X 0))) (gk (gW 11 (cT (mo (Y 7) (Y 8) (ag aY 2 (bp (Y 0) (R dD (Y 6) (X 3)))) (Y 10) (ag cB 2 (bp (Y 0) (R dD (Y 6) (X 5))))))) (gk (gW 12 (R Ö (eU (bS (Ø "any") (Ø "any") (Ø "near"))) (ag ae 3 (bS (Y 0) (R dD (Y 6) (X 9)) (X 3))))) (gk (gW 13 (R è (ag ae 3 (bS (Y 0) (R dD (Y 6) (X 8)) (X 2))) (X 0))) (gk (gW 14 (R dD (Y 4) (ag ae 3 (bS (Y 0) (R dD (Y 6) (X 10)) (X 5))))) (gk (gW 15 (R dD (Y 11) (cT (mo (Y 9) (Y 13) (Y 12) (Y 4) (Y 14))))) (Il 3 cJ (DS (Y 15)) Li)))))))))))):=rfl;rw[eB];subst hh;simp[jb,gk,gW,xB,Þ,ag,aO,dP,Y,fC,R,cT,eU,BR,A,e0,e1,e2,e3,e4,e5,e6,e7,e8,e9,c',i1,i2,i6,i9,è,lf,ua,j,à,n];simp[dD]
 rw[y];cases H:(p.filter (λo=>o_ (key o=key n)))with|nil=>rw[H]at E;refine⟨j,p++[n],d+f,?_,rfl,J.add a0 b0 gn (by show d+f+h<=d+f+4;omega) rfl H⟩;unfold Il;rw[E];show(if(p.map à).length<100000 then _ else _)=_;rw[if_pos (by have:=J.l;simp;omega)];show Z (Fo.nx _ (p.map à++[à n]))=_;simp|cons c r=>rw[H]at E;refine⟨j,p,d+f,?_,rfl,J.keep a0 b0⟩;unfold Il;rw[E];rfl
def wL(n:Int%0)(u:n.length<=63)(z m:Int):∀(f:Int%0)(j:Ev)(b:Int)(B:Nat)(i:al%0),B+f.length<=10->fgt [5,6,7,8,9,10,11,12,13,14,15] j=jb n z m b->JI B i b->∃d a,om 5 [5,6,7,8,9,10,11,12,13,14,15] bN (f.map N.int) j (i.map à)=Z (.nx (jb n z m a) (d.map à))/\JI (B+f.length) d a|[],j,b,B,i,_,h,J=>⟨i,b,by show Z (Fo.nx _ _)=_;rw[h],J⟩|k::f,j,b,B,i,v,h,J=>by simp![Wb]at v;obtain⟨g,d,a,e,q,A⟩:=BS n u z m b k J ();obtain⟨s,p,w,y⟩:=wL n u z m f g a (B+1) d () q A;refine⟨s,p,?_,by rw[Wb,show B+(f.length+1)=B+1+f.length by omega];exact y⟩;show(match bN ((fgt _ j).set 5 (Z (.int k))) (i.map à)with|some (.nx g r)=>om 5 _ bN (f.map N.int) g r|o=>o)=_;rw[h,e];exact w
def PZ(a:Int%0)(u:a.length<=63)(z:Int)(m:Nat)(A:m<=8):∃b f,jS [.scr a,.int z,.int m]=ej b%3/\Ś b/\b.length<=m/\JI m b f:=by
 obtain⟨d,H,E,w⟩:=aV a u z (m+1) ();obtain⟨c,rfl⟩:∃c:Nat,d=(c:Int):=⟨d.toNat,by omega⟩;have v:yq [.int (c:Int)]=((uk c).map λi:Nat=>(i:Int)).map N.int%3:=by rw[O6 (),vy];simp
 obtain⟨b,f,e,J⟩:=wL a u z m ((uk c).map λi:Nat=>(i:Int)) (jb a z m 0) 0 0 [] (by simp;omega) rfl ⟨by simp,aa6,by simp,by simp,by omega,by omega,by simp,by simp⟩;have p:((uk c).map λi:Nat=>(i:Int)).length=c:=by simp
 rw[p]at J;have I:=J.l;refine⟨b,f,?_,J.jar (),by omega,⟨J.g,J.s,J.k,by omega,J.n0,by have:=J.n1;omega,J.m,J.u⟩⟩;refine iz (i:=ej b) ?_;show zV 3 dP _ [Z (.scr a),Z (.int z),Z (.int m),U,U,U,U,U,U,U,U,U,U,U,U,U]=_;have k:(λj=>Þ ((aw (ag ae 3 (bS (Y 0) (Y 1) (R dD (Y 2) (X 1))))) j) yq) (jb a z m 0)=((uk c).map λi:Nat=>(i:Int)).map N.int%3:=by
  have h:(aw (ag ae 3 (bS (Y 0) (Y 1) (R dD (Y 2) (X 1))))) (jb a z m 0)=Z (.ok [.int (c:Int)]):=by simp[Þ,aO,dP,ag,fC,Y,R,jb,BR,w]
  exact(GL (k:=yq) h).trans v
 have q:zW 5 [5,6,7,8,9,10,11,12,13,14,15] (λj=>Þ ((aw (ag ae 3 (bS (Y 0) (Y 1) (R dD (Y 2) (X 1))))) j) yq) bN (jb a z m 0) []=Z (.nx (jb a z m f) (b.map à)):=by unfold zW;rw[k];show(if ç (((uk c).map λi:Nat=>(i:Int)).map N.int)=L then _ else U)=_;rw[if_pos (ug _)];exact e
 have y:b.length<=100000:=by omega
 have n:zT 3 (é gq (aw (Y 3))) (jb a z m f) (b.map à)=Z (.rt (ej b)):=by unfold zT;rw[bR (ac (i:=.lst (b.map à)) rfl aq)];rfl
 have g:(gk (gW 4 (X 0)) (gk (zW 5 [5,6,7,8,9,10,11,12,13,14,15] (λj=>Þ ((aw (ag ae 3 (bS (Y 0) (Y 1) (R dD (Y 2) (X 1))))) j) yq) bN) (zT 3 (é gq (aw (Y 3)))))) [Z (.scr a),Z (.int z),Z (.int m),U,U,U,U,U,U,U,U,U,U,U,U,U] []=Z (.rt (ej b)):=by rw[BQ (show gW 4 (X 0) [Z (.scr a),Z (.int z),Z (.int m),U,U,U,U,U,U,U,U,U,U,U,U,U] []=Z (.nx (jb a z m 0) [])from rfl)];rw[BQ q];exact n
 unfold zV;show(if([]:N%0).length<=100000 then _ else U)=_;rw[if_pos ∅];exact(congrArg (λo=>match o with|some (Fo.nx r s)=>Z (Fl.nx (List.set r 3 (Z (N.lst s))))|some (Fo.rt d)=>Z (Fl.rt d)|none=>U) g).trans rfl
def jf(n:al):cU [à n]=ek n%3:=by simp[cU,bM,EQ,aR,cV,Þ,aO,dP,Y,fC,R,Ö,ċ,cT,à,ek]
def uh:∀a:al%0,mY (a.map ek)=Z (a.map key)|[]=>rfl|n::a=>by show(match du [.str n.nm,.str n.house,.str n.path],mY (a.map ek)with|some k,Z b=>Z (k::b)|_,_=>U)=_;rw[uh a];rfl
def Fj(J:Ś k):cR [ej k]=bo L:=by
 have f:=J.l;have d:dt 1 [] (gm (Y 0)) (gN 0) U (ag cU 1 (aw (Y 0))) [Z (ej k),U]=.lst (k.map ek)%3:=tZ à ek (j6 rfl) () λn e=>fP cU rfl (jf n);have b:mZ [.lst (k.map ek)]=.int (k.length:Int)%3:=by show(match mY (k.map ek)with|some a=>if a.Nodup/\a.length<=20 then(.int (a.length:Nat)%3:Rs N%1)else U|none=>U)=_;rw[uh];dsimp!;rw[if_pos ⟨J.k,by simp;omega⟩,S_]
 refine iz ?_;show bX [Z (ej k),U]=_;unfold bX;rw[ax (ci (a:=[Z (ej k),Z (.lst (k.map ek))]) d rfl)];refine eV ((ba ((bR (ac (i:=.lst (k.map ek)) rfl aq)).trans b) (v:=.int k.length) (by show Z (Rs.ok (N.int ((k.map ek).length:Int)))=_;rw[S_])).trans ?_);show Z (Rs.ok (N.bl ((k.length:Int)==(k.length:Int))))=_;simp
def all_map(p:θ->Bool)(l:θ%0):qc [.lst (l.map λa=>N.bl (p a))]=bo (l.all p):=by unfold qc;dsimp!;rw[nO p l];dsimp!;rw[List.all_map];rfl
def wM(l:θ%0):qc [.lst (l.map λ_=>N.bl L)]=bo L:=by rw[all_map (λ_=>L) l];simp
def P6(h:b<k.length):Ö (ej k) (.int b)=à k[b]%3:=by show(match ċ (k.map à) (b:Int)with|some d=>_|none=>_)=_;unfold ċ;rw[if_pos ()];simp[h]
def P7(n:al):Ö (à n) (.int 8)=.int n.md%3:=rfl
def P8(a:al%0)(d:a.length<=20):(λb=>Þ ((bp (X 1) (é fw (aw (Y 0)))) b) Cy) [Z (ej a)]=((uk (a.length-1)).map λi:Nat=>N.int (1+(i:Int)))%3:=by
 have h:(bp (X 1) (é fw (aw (Y 0)))) [Z (ej a)]=Z (.ok [.int 1,.int a.length]):=by simp[Þ,aO,dP,é,fC,Y,ej,fw]
 refine(GL (k:=Cy) h).trans ?_;rw[O5 (),vy,show((a.length:Int)-1).toNat=a.length-1 by omega]
def UR:Û:=(R ĩ (R Ö (R Ö (Y 1) (R uo (Y 0) (X 1))) (X 8)) (R Ö (R Ö (Y 1) (Y 0)) (X 8)))
def KG(J:Ś k){i:Nat}(a:i+1<k.length):UR [Z (.int (1+(i:Int))),Z (ej k)]=.bl L%3:=by
 have b:=J.s i a;have f:R Ö (Y 1) (R uo (Y 0) (X 1)) [Z (.int (1+(i:Int))),Z (ej k)]=à k[i]%3:=by have q:=P6 (k:=k) (b:=i) ();rw[show(i:Int)=1+(i:Int)-1 by omega]at q;exact q
 have e:R Ö (Y 1) (Y 0) [Z (.int (1+(i:Int))),Z (ej k)]=à k[i+1]%3:=by have q:=P6 (k:=k) (b:=i+1) a;rw[show((i+1:Nat):Int)=1+(i:Int)by omega]at q;exact q
 have d:ĩ (.int k[i].md) (.int k[i+1].md)=.bl L%3:=by simp[ĩ,b]
 exact(ba ((ba f rfl).trans (P7 _)) ((ba e rfl).trans (P7 _))).trans d
def Tt(J:Ś k):dv [("notes",0)] (λa=>Þ ((bp (X 1) (é fw (aw (Y 0)))) a) Cy) U UR [Z (ej k)]=.lst ((uk (k.length-1)).map λ_=>N.bl L)%3:=lc (λi:Nat=>N.int (1+(i:Int))) (λ_=>N.bl L) (P8 k J.l) (by have:=J.l;rw[ZQ];omega) λi b=>KG J (by have:=Wf.mp b;omega)
def KH(J:Ś k):ic [ej k]=bo L:=iz (i:=.bl L) (eV ((bR (ac (Tt J) aq)).trans (wM _)))
def t_a(J:Ś k):dv [] (gm (Y 0)) U (ag gF 1 (aw (Y 0))) [Z (ej k)]=.lst (k.map λ_=>N.bl L)%3:=lc à (λ_=>N.bl L) (j6 rfl) (by have:=J.l;omega) λn a=>fP gF rfl (PU (J.g n a))
def t_b(J:Ś k):(Č (cw (fB (f1 (jo uH) (Y 0)))) (fB (R ļ (é fw (aw (Y 0))) (X 20)))) [Z (ej k)]=D%3:=by
 have a:¬(20<(k.length:Int)):=by have:=J.l;omega
 simp[Č,cw,fB,f1,R,jo,uH,Y,Þ,ą,é,aO,dP,fC,ej,fw,QO,a]
def t_c(J:Ś k):é qc (aw (dv [] (gm (Y 0)) U (ag gF 1 (aw (Y 0))))) [Z (ej k)]=bo L:=(bR (ac (t_a J) aq)).trans (wM k)
def t_d(J:Ś k):kZ [Z (ej k)]=Z (.rt (.bl L)):=by unfold kZ;rw[ax (cA (t_b J))];rw[ax (cA (lC (δ:=L) (bd (t_c J))))];refine eV ?_;rw[M9 (fP ic rfl (KH J))];exact fP cR rfl (Fj J)
def oG(J:Ś k):db [ej k]=bo L:=iz (i:=.bl L) (t_d J)
abbrev zz1:ë:=(mo (Y 0) (Y 1) (Y 2) (Y 3) (Y 4))
abbrev zz2:ë:=(mS (Y 0) (Y 2) (Y 3) (Y 4))
def rD(n:al)(k:Int):bH [à n,.int k]=bo (Ē n k):=by cases h:n.ends<;>simp[bH,bM,iY,sq,aR,RE,cV,Þ,ą,Y,fC,R,Ö,ċ,li,oj,à,eO,Ē,h,ĩ]
def KI:(ø.all λp=>ø.all λq=>okB (bZ [.str p,.str q]))=L:=by lk
def Tu(h:d∈ø)(a:p∈ø):∃k,bZ [.str d,.str p]=bo k:=GD (bb (p:=λp=>okB (bZ [.str d,.str p])) (bb (p:=λd=>ø.all λp=>okB (bZ [.str d,.str p])) KI h) a)
def Y'(p q:Str):Bool:=ő (aG [.str p,.str q])
def unB(p q:Str):Bool:=ő (bZ [.str p,.str q])
def KL(h:d∈En)(a:p∈En):aG [.str d,.str p]=bo (Y' d p):=by obtain⟨k,e⟩:=UM h a;unfold Y';rw[e];cases k<;>rfl
def Tv(h:d∈ø)(a:p∈ø):bZ [.str d,.str p]=bo (unB d p):=by obtain⟨k,e⟩:=Tu h a;unfold unB;rw[e];cases k<;>rfl
def KM(o N:al)(a:Int):Bool:=o.S&&(!Ē o a&&(seq o.nm N.nm&&((Y' N.house o.house||Y' o.house N.house)&&unB N.path o.path)))
def i0(n:al):Ö (à n) (.int 0)=.str n.nm%3:=rfl
def i2(n:al):Ö (à n) (.int 2)=.str n.house%3:=rfl
def i4(n:al):Ö (à n) (.int 4)=.str n.path%3:=rfl
def i6(n:al):Ö (à n) (.int 6)=.bl n.S%3:=rfl
def GM(a:Ν ζ=δ%3):aQ (bt Ν (aR (fC (.bl D))) ó) Χ ζ=if δ=L then Z (.rt (.bl D))else Χ ζ:=by unfold aQ bt;rw[a];cases δ<;>rfl
def GN{b:î}(d:Ν ζ=δ%3)(a:b ζ=È%3):mR Ν b ζ=(δ&&È)%3:=by
 unfold mR;rw[d];cases δ;·rfl
 ·exact a
def pJ(a:Ν ζ=δ%3):cw Ν ζ=(!δ)%3:=by unfold cw;rw[a];rfl
def yh{N:al}(b:ñ τ)(d:ñ N)(a:Int):jF [à τ,à N,.int a]=bo (KM τ N a):=by have f:=KL d.house b.house;have e:=KL b.house d.house;have g:=Tv d.path b.path;have i:(Č (cw (fB (R Ö (Y 0) (X 6)))) (Č (fB (ag bH 2 (bp (Y 0) (Y 2)))) (fB (R İ (R Ö (Y 0) (X 0)) (R Ö (Y 1) (X 0)))))) [Z (à τ),Z (à N),Z (.int a)]=(!τ.S||(Ē τ a||!seq τ.nm N.nm))%3:=GK (pJ (bd (δ:=τ.S) ((ba (i:=à τ) (v:=.int 6) rfl rfl).trans (i6 τ)))) (GK (bd (gS bH rfl rfl (rD τ a))) (bd ((ba (i:=.str τ.nm) (v:=.str N.nm) rfl rfl).trans rfl)));have h:(mR (cw (fB (ag aG 2 (bp (R Ö (Y 1) (X 2)) (R Ö (Y 0) (X 2)))))) (cw (fB (ag aG 2 (bp (R Ö (Y 0) (X 2)) (R Ö (Y 1) (X 2))))))) [Z (à τ),Z (à N),Z (.int a)]=(!Y' N.house τ.house&&!Y' τ.house N.house)%3:=GN (pJ (bd (gS aG rfl rfl f))) (pJ (bd (gS aG rfl rfl e)));refine iz ?_;show jE [Z (à τ),Z (à N),Z (.int a)]=_;unfold jE;rw[GM i,GM h,Pp (gS bZ rfl rfl g)];unfold KM;cases τ.S<;>cases Ē τ a<;>cases seq τ.nm N.nm<;>cases Y' N.house τ.house<;>cases Y' τ.house N.house<;>rfl
def any_map(p:θ->Bool)(l:θ%0):IF [.lst (l.map λa=>N.bl (p a))]=bo (l.any p):=by show(match kJ (l.map λa=>N.bl (p a))with|some bs=>Z (Rs.ok (N.bl (bs.any id)))|none=>U)=_;rw[nO];simp
def wv(e:N)(s:Bool)(f:al%0)(a:al)(b:Int):N:=match e with|.non=>if(!s&&f.any λo=>KM o a b)=L then .str "shadowed"else if Ē a b=L then .str "gone"else .str "kept"|d=>d
def GO(a:Ν ζ=δ%3):aQ (bt Ν (aR (fC i)) ó) Χ ζ=if δ=L then Z (.rt i)else Χ ζ:=by unfold aQ bt;rw[a];cases δ<;>rfl
def P9{w:Str}{l:N}{R:Str}{a b:Str}{n:Bool}{f:N}(W:Wt E d p i μ w v η Κ l δ R È a b n f)(j:f≠.non):bw [.tup E,ej k,Ĉ È d p i,Đ μ w v η Κ l δ R,.int m]=f%3:=by
 obtain⟨x,h⟩:∃x,f=.str x:=by
  rcases W.win with e|⟨x,_,e⟩;·exact absurd e j
  ·exact⟨_,e⟩
 subst h;refine mi ?_;show fJ [Z (.tup E),Z (ej k),Z (Ĉ È d p i),Z (Đ μ w v η Κ l δ R),Z (.int m),U,U]=_;unfold fJ;have g:aC bB 3 (bS (Y 0) (Y 2) (Y 3)) [Z (.tup E),Z (ej k),Z (Ĉ È d p i),Z (Đ μ w v η Κ l δ R),Z (.int m),U,U]=.str x%3:=cE bB (ac rfl (ac rfl (ac rfl aq))) rfl W.why;rw[ax (ci g rfl)];simp![XS,XR];rfl
def Qa{w:Str}{l:N}{b:Str}{e f:Str}{h:Bool}(y:E∈lg ò)(a:Ak d p i)(g:Gv μ w v η Κ l δ b)(u:0<=m)(s:m<=9999)(W:Wt E d p i μ w v η Κ l δ b È e f h .non)(A:à τ=ntn μ w e h f (GI Κ l m) δ b m)(I:ñ τ)(H:∀n∈k,ñ n)(hl:k.length<=20):bw [.tup E,ej k,Ĉ È d p i,Đ μ w v η Κ l δ b,.int m]=wv .non È k τ m%3:=by
 have j:=GJ y a g u s W;rw[<-A]at j;refine mi ?_;show fJ [Z (.tup E),Z (ej k),Z (Ĉ È d p i),Z (Đ μ w v η Κ l δ b),Z (.int m),U,U]=_;unfold fJ;have r:aC bB 3 (bS (Y 0) (Y 2) (Y 3)) [Z (.tup E),Z (ej k),Z (Ĉ È d p i),Z (Đ μ w v η Κ l δ b),Z (.int m),U,U]=.non%3:=cE bB (ac rfl (ac rfl (ac rfl aq))) rfl W.why;rw[ax (ci r rfl)];simp![XS,XR];rw[ax (cA (show fB (R oj (Y 5) (fC .non)) [Z (.tup E),Z (ej k),Z (Ĉ È d p i),Z (Đ μ w v η Κ l δ b),Z (.int m),Z .non,U]=D%3 from rfl))];have q:aC ei 4 (mS (Y 0) (Y 2) (Y 3) (Y 4)) [Z (.tup E),Z (ej k),Z (Ĉ È d p i),Z (Đ μ w v η Κ l δ b),Z (.int m),Z .non,U]=à τ%3:=cE ei (ac rfl (ac rfl (ac rfl (ac rfl aq)))) rfl j;rw[ax (ci q rfl)];simp![XS,XR];have c1:(mR (cw (fB (R Ö (Y 2) (X 0)))) (fB (é IF (aw (dv [("now",4),("note",6)] (gm (Y 1)) U (ag jF 3 (bS (Y 0) (Y 2) (Y 1)))))))) [Z (.tup E),Z (ej k),Z (Ĉ È d p i),Z (Đ μ w v η Κ l δ b),Z (.int m),Z .non,Z (à τ)]=(!È&&k.any λo=>KM o τ m)%3:=by refine GN (pJ (bd (δ:=È) rfl)) (bd ((bR (ac (i:=.lst (k.map λo=>N.bl (KM o τ m))) ?_ aq)).trans (any_map _ _)));exact lc à (λo=>N.bl (KM o τ m)) (j6 rfl) () λo z=>vx jF rfl rfl rfl (yh (H o z) I m)
 rw[GO c1];have Q:fB (ag bH 2 (bp (Y 6) (Y 4))) [Z (.tup E),Z (ej k),Z (Ĉ È d p i),Z (Đ μ w v η Κ l δ b),Z (.int m),Z .non,Z (à τ)]=Ē τ m%3:=bd (gS bH rfl rfl (rD τ m));rw[GO Q];show _=Z (Fl.rt (if(!È&&k.any λo=>KM o τ m)=L then .str "shadowed"else if Ē τ m=L then .str "gone"else .str "kept"));split;·rfl
 ·split<;>rfl
def Lr(a:al%0)(n:al):al%0:=match a.filter (λo=>o_ (key o=key n))with|[]=>a++[n]|o::_=>a.map λx=>if key x=key n then{n with md:=o.md}else x
def Qb(n:∀o∈k,ñ o)(u:ñ τ)(w:k.length<=20):ES [ej k,à τ]=ej (Lr k τ)%3:=by have m:∀o∈k,∀(r:Ev),(fB (R è (ag cU 1 (aw (Y 0))) (ag cU 1 (aw (Y 1))))) (Z (à o)::Z (à τ)::r)=o_ (key o=key τ)%3:=λo b r=>bd ((ba (fP cU rfl (jf o)) (fP cU rfl (jf τ))).trans (Kz (n o b) u).1);have g:=ye (d:=[("note",1)]) (ο:=gm (Y 0)) (Ν:=(fB (R è (ag cU 1 (aw (Y 0))) (ag cU 1 (aw (Y 1)))))) (A:=Y 0) (ζ:=[Z (ej k),Z (à τ),U,U]) à (λo=>o_ (key o=key τ)) à (j6 rfl) () λo b=>⟨m o b [],rfl⟩;unfold Lr;cases f:k.filter (λo=>o_ (key o=key τ))with
 |nil=>
 rw[f]at g;refine iz (i:=ej (k++[τ])) ?_;show vh [Z (ej k),Z (à τ),U,U]=_;unfold vh;rw[ax (ci g rfl)];simp![XS,XR];refine mT ?_;rw[xR (by lk)];refine eV ?_;have j:k.length+1<=100000:=by omega
 simp[Þ,aO,dP,Y,R,cT,ej,dD,j]|cons o rest=>
 rw[f]at g;have b:o∈k:=(Wp.mp (f▸pi:o∈k.filter _)).1;refine iz (i:=ej (k.map λx=>if key x=key τ then{τ with md:=o.md}else x)) ?_;show vh [Z (ej k),Z (à τ),U,U]=_;unfold vh;rw[ax (ci g rfl)];simp![XS,XR];have i:(fB (R è (Y 2) (eU dP))) [Z (ej k),Z (à τ),Z (.lst ((o::rest).map à)),U]=D%3:=by
  have q:Ě 2 (.lst ((o::rest).map à)):=BC λd s=>by
   obtain⟨x,h,rfl⟩:=U_.mp s;have:x∈k.filter (λo=>o_ (key o=key τ)):=by rw[f];exact h
   exact BP (n x (Wp.mp this).1)
  have i2:=q.okP ();have p:okP (.lst [])=L:=by lk
  have i4:è (.lst ((o::rest).map à)) (.lst [])=bo D:=by unfold è;rw[show ū (.lst ((o::rest).map à)) (.lst [])=U from rfl,i2,p];simp[gV,ý,WY,XN]
  exact bd i4
 rw[ax (cA i)];have a:(R dD (R dD (l7 (Y 1) gp (eP (X 8))) (cT (aw (R Ö (R Ö (Y 2) (X 0)) (X 8))))) (l7 (Y 1) (eP (R dD (X 8) (X 1))) gp)) [Z (ej k),Z (à τ),Z (.lst ((o::rest).map à)),U]=(à {τ with md:=o.md})%3:=by lk
 rw[ax (ci a rfl)];simp![XS,XR];refine eV ?_;have v:=lc (d:=[("note",1),("newer",3)]) (ο:=gm (Y 0)) (A:=(ĥ (fB (R è (ag cU 1 (aw (Y 0))) (ag cU 1 (aw (Y 1))))) (Y 2) (Y 0))) (ζ:=[Z (ej k),Z (à τ),Z (.lst ((o::rest).map à)),Z (à {τ with md:=o.md})]) à (λx=>à (if key x=key τ then{τ with md:=o.md}else x)) (j6 rfl) () λx h=>by
  have t:=m x h [Z (à {τ with md:=o.md})];by_cases e:key x=key τ;·rw[if_pos e];rw[decide_eq_true e]at t;exact(RQ t).trans rfl
  ·rw[if_neg e];rw[decide_eq_false e]at t;exact(RS t).trans rfl
 rw[bR (ac v aq)];show Z (Rs.ok (N.tup _))=_;simp[ej]
def Ğ(b:al%0)(a:Int):al%0:=b.filter λn=>!Ē n a
def pK(b:k.length<=20):bE [ej k,.int m]=ej (Ğ k m)%3:=by refine iz ?_;show c5 [Z (ej k),Z (.int m)]=_;unfold c5;refine eV ?_;have e:(dv [("now",1)] (gm (Y 0)) (Z (cw (fB (ag bH 2 (bp (Y 0) (Y 1)))))) (Y 0)) [Z (ej k),Z (.int m)]=.lst ((Ğ k m).map à)%3:=jK à _ à (j6 rfl) () λn a=>⟨pJ (bd (gS bH rfl rfl (rD n m))),rfl⟩;exact(bR (ac e aq)).trans rfl
def E8(T:N)(f:al%0)(A g:N)(a:Int)(e d b:N%1):Ev:=[Z T,Z (ej f),Z A,Z g,Z (.int a),e,d,b]
def rE(e:k.length<=20)(d:bw [i,ej k,v,η,.int m]=Κ%3){f:ä}{r:Fl%1}(h:f (E8 i k v η m (Z Κ) (Z (ej (Ğ k m))) U)=r):aQ (cx 5 (aC bw 5 zz1)) (aQ (cx 6 (ag bE 2 (bp (Y 1) (Y 4)))) f) (E8 i k v η m U U U)=r:=by have b:cx 5 (aC bw 5 zz1) (E8 i k v η m U U U)=Z (.nx (E8 i k v η m (Z Κ) U U)):=ci (cE bw (ac rfl (ac rfl (ac rfl (ac rfl (ac rfl aq))))) rfl d) rfl;have a:cx 6 (ag bE 2 (bp (Y 1) (Y 4))) (E8 i k v η m (Z Κ) U U)=Z (.nx (E8 i k v η m (Z Κ) (Z (ej (Ğ k m))) U)):=ci (gS bE rfl rfl (pK e)) rfl;rw[ax b,ax a];exact h
def BU:(Ğ k m).length<=k.length:=Xp _ _
def pL(b:k.length<=20)(a:bw [i,ej k,v,η,.int m]=Κ%3)(d:è Κ (.str "kept")=bo D)(e:è Κ (.str "gone")=bo D):bW [i,ej k,v,η,.int m]=ej (Ğ k m)%3:=by refine mi ?_;show dh (E8 i k v η m U U U)=_;unfold dh;refine rE b a ?_;have g:fB (R è (Y 5) (Ø "kept")) (E8 i k v η m (Z Κ) (Z (ej (Ğ k m))) U)=D%3:=bd ((ba (i:=Κ) (v:=.str "kept") rfl rfl).trans d);have f:fB (R è (Y 5) (Ø "gone")) (E8 i k v η m (Z Κ) (Z (ej (Ğ k m))) U)=D%3:=bd ((ba (i:=Κ) (v:=.str "gone") rfl rfl).trans e);rw[ax (cA g),ax (cA f)];rfl
def BV(b:k.length<=20)(f:∀n∈k,ñ n)(g:ñ τ)(d:bw [i,ej k,v,η,.int m]=.str "kept"%3)(h:ei [i,v,η,.int m]=à τ%3):bW [i,ej k,v,η,.int m]=ej (Lr (Ğ k m) τ)%3:=by refine mi ?_;show dh (E8 i k v η m U U U)=_;unfold dh;refine rE b d ?_;have j:fB (R è (Y 5) (Ø "kept")) (E8 i k v η m (Z (.str "kept")) (Z (ej (Ğ k m))) U)=L%3:=bd ((ba (i:=.str "kept") (v:=.str "kept") rfl rfl).trans (by lk));refine mT ?_;rw[xR j];have a:aC ei 4 zz2 (E8 i k v η m (Z (.str "kept")) (Z (ej (Ğ k m))) U)=à τ%3:=cE ei (ac rfl (ac rfl (ac rfl (ac rfl aq)))) rfl h;exact eV (gS ES rfl a (Qb (λo e=>f o (Wp.mp e).1) g (Wa BU b)))
def Tw{o:al}(a:ñ o)(b:ñ τ):İ (ek o) (ek τ)=bo (!o_ (key o=key τ)):=(Kz a b).2
def BW(b:k.length<=20)(h:∀n∈k,ñ n)(j:ñ τ)(f:bw [i,ej k,v,η,.int m]=.str "gone"%3)(p:ei [i,v,η,.int m]=à τ%3):bW [i,ej k,v,η,.int m]=ej ((Ğ k m).filter λo=>!o_ (key o=key τ))%3:=by have s:(Ğ k m).length<=20:=Wa BU b;refine mi ?_;show dh (E8 i k v η m U U U)=_;unfold dh;refine rE b f ?_;have r:fB (R è (Y 5) (Ø "kept")) (E8 i k v η m (Z (.str "gone")) (Z (ej (Ğ k m))) U)=D%3:=bd ((ba (i:=.str "gone") (v:=.str "kept") rfl rfl).trans (by lk));have q:fB (R è (Y 5) (Ø "gone")) (E8 i k v η m (Z (.str "gone")) (Z (ej (Ğ k m))) U)=L%3:=bd ((ba (i:=.str "gone") (v:=.str "gone") rfl rfl).trans (by lk));rw[ax (cA r)];refine mT ?_;rw[xR q];have a:aC ei 4 zz2 (E8 i k v η m (Z (.str "gone")) (Z (ej (Ğ k m))) U)=à τ%3:=cE ei (ac rfl (ac rfl (ac rfl (ac rfl aq)))) rfl p;have d:cx 7 (ag cU 1 (aw (aC ei 4 zz2))) (E8 i k v η m (Z (.str "gone")) (Z (ej (Ğ k m))) U)=Z (.nx (E8 i k v η m (Z (.str "gone")) (Z (ej (Ğ k m))) (Z (ek τ)))):=ci (fP cU a (jf τ)) rfl;rw[ax d];refine eV ?_;have e:(dv [("ended",7)] (gm (Y 6)) (Z (fB (R İ (ag cU 1 (aw (Y 0))) (Y 1)))) (Y 0)) (E8 i k v η m (Z (.str "gone")) (Z (ej (Ğ k m))) (Z (ek τ)))=.lst (((Ğ k m).filter λo=>!o_ (key o=key τ)).map à)%3:=jK à (λo=>!o_ (key o=key τ)) à (j6 rfl) () λo g=>⟨bd ((ba (i:=ek o) (v:=ek τ) (fP cU rfl (jf o)) rfl).trans (Tw (h o (Wp.mp g).1) j)),rfl⟩;exact(bR (ac e aq)).trans rfl
def CH(h:db [i]=bo L):aM [i]=.non%3:=by simp[aM,fX,gG,bt,cV,Þ,cw,fB,ą,ag,aO,dP,Y,h]
def VY(h:db [i]=bo D):aM [i]=5%9:=by simp[aM,fX,gG,bt,cV,Þ,cw,fB,ą,ag,aO,dP,Y,fC,eW,h]
def dY(F:ß){a:N}{f:Û}{b:Ev}(d:f b=a%3)(h:F [a]=.non%3):fA (aC F 1 (aw f)) b=Z (.nx b):=mv (cE F (ac d aq) rfl h)
def dX(F:ß){a:N}{f:Û}{d:Ev}(e:f d=a%3)(h:F [a]=b%9):fA (aC F 1 (aw f)) d=b%9:=Vx (cE F (ac e aq) rfl h)
def E6(T b A X a:N)(x:N%1):Ev:=[Z T,Z b,Z A,Z X,Z a,x]
def rwy{a:N}(j:bU [i]=bo L)(g:db [Κ]=bo L)(f:eZ [v]=bo L){b:N}(e:aI [η]=b%3)(h:aZ [a]=bo L):aj [i,Κ,v,η,a]=b%3:=mi (by show aL (E6 i Κ v η a U)=_;unfold aL;rw[ax (dY aT rfl (Pj j)),ax (dY aM rfl (CH g)),ax (dY bG rfl (Q4 f))];have d:cx 5 (aC aI 1 (aw (Y 3))) (E6 i Κ v η a U)=Z (.nx (E6 i Κ v η a (Z b))):=ci (cE aI (ac rfl aq) rfl e) rfl;rw[ax d,ax (dY bc rfl (Km h))];rfl)
def E7(T:N)(e:al%0)(A X:N)(a:Int)(d b:N%1):Ev:=[Z T,Z (ej e),Z A,Z X,Z (.int a),d,b]
def vz{b a:_}(g:b.length<=20){e d:N%1}:fB (é IF (aw (dv [("now",4)] (gm (Y 1)) U (R ļ (R Ö (Y 0) (X 9)) (Y 1))))) (E7 i b v η a e d)=(b.any λo=>o_ (o.us>a))%3:=by refine bd ((bR (ac (i:=.lst (b.map λo=>N.bl (o_ (o.us>a)))) ?_ aq)).trans (any_map _ _));exact lc à (λo=>N.bl (o_ (o.us>a))) (j6 rfl) () λo f=>(ba (i:=.int o.us) (v:=.int a) rfl rfl).trans rfl
def s5T{b a d:_}(e:aj [i,ej b,v,η,.int a]=d%3):cx 5 (aC aj 5 zz1) (E7 i b v η a U U)=Z (.nx (E7 i b v η a (Z d) U)):=ci (cE aj (ac rfl (ac rfl (ac rfl (ac rfl (ac rfl aq))))) rfl e) rfl
def yi{b a d:_}(f:b.length<=20)(e:aj [i,ej b,v,η,.int a]=d%3)(h:(b.any λo=>o_ (o.us>a))=L):ce [i,ej b,v,η,.int a]=6%9:=CG (by show fq (E7 i b v η a U U)=_;unfold fq;rw[ax (s5T e)];have c:=vz (i:=i) (v:=v) (η:=η) (a:=a) (e:=Z d) (d:=U) f;rw[h]at c;exact EY (O9 c rfl))
def Fk{b a e:_}(n:b.length<=20)(m:aj [i,ej b,v,η,.int a]=e%3)(h:(b.any λo=>o_ (o.us>a))=D)(j:bW [i,ej b,v,e,.int a]=ej k%3)(q:k.length<=20):ce [i,ej b,v,η,.int a]=ej k%3:=mi (by
 show fq (E7 i b v η a U U)=_;unfold fq;rw[ax (s5T m)];have c:=vz (i:=i) (v:=v) (η:=η) (a:=a) (e:=Z e) (d:=U) n;rw[h]at c;rw[ax (cA c)];have f:cx 6 (aC bW 5 (mo (Y 0) (Y 1) (Y 2) (Y 5) (Y 4))) (E7 i b v η a (Z e) U)=Z (.nx (E7 i b v η a (Z e) (Z (ej k)))):=ci (cE bW (ac rfl (ac rfl (ac rfl (ac rfl (ac rfl aq))))) rfl j) rfl;have g:ai [ej k]=.non%3:=by
  have:¬((k.length:Int)>20):=by omega
  unfold ai fX;show(match au [Z (ej k)]with|some (.nx _)=>Z (Rs.ok N.non)|some (.rt d)=>Z (Rs.ok d)|some (.exc c)=>Z (Rs.exc c)|none=>U)=_;unfold au;have p:fB (R ļ (é fw (aw (Y 0))) (X 20)) [Z (ej k)]=D%3:=by
   refine bd ((ba (i:=.int (k.length:Int)) (v:=.int 20) ((bR (ac (i:=ej k) rfl aq)).trans ?_) rfl).trans ?_);·show Z (Rs.ok (N.int ((k.map à).length:Int)))=_;rw[S_]
   ·show Z (Rs.ok (N.bl (o_ ((k.length:Int)>20))))=_;rw[decide_eq_false this]
  rw[cA p]
 rw[ax f,ax (dY ai rfl g)];rfl)
def Tx(g:Gv d p i v η Κ δ μ)(b:0<=m):∃e:Int%1,eO e=GI η Κ m/\∀a,e=Z a->0<=a/\a<=9999:=by
 rcases PR g b with q|⟨a,n,k,q⟩;·exact⟨U,q.symm,λa h=>by cases h⟩
 ·exact⟨Z a,q.symm,λj f=>by cases f;exact⟨n,k⟩⟩
def KN{w:Str}{l:N}{R:Str}{b f:Str}{h:Bool}{k:N}(g:Gv μ w v η Κ l δ R)(W:Wt E d p i μ w v η Κ l δ R È b f h k)(j:0<=m)(n:m<=200):∃a:al,à a=ntn μ w b h f (GI Κ l m) δ R m/\ñ a/\a.us=m/\a.md=m:=by obtain⟨e,o,q⟩:=Tx (m:=m) g j;refine⟨⟨μ,w,b,h,f,e,δ,R,m,m⟩,?_,⟨g.nm,g.w,W.hs,W.ph,g.r,q,j,Int.le_refl _,n⟩,rfl,rfl⟩;show N.tup [.str μ,.str w,.str b,.bl h,.str f,eO e,.bl δ,.str R,.int m,.int m]=_;rw[o]
structure JS(now:Int)(Y:al%0):Prop where
 g:∀n∈Y,ñ n
 s:Y.Pairwise λa b=>a.md<=b.md
 k:(Y.map key).Nodup
 u:∀n∈Y,n.us<=now
def JS.jar(h:JS m k)(l:k.length<=20):Ś k:=⟨h.g,λi a=>XZ.mp h.s i (i+1) () a (),h.k,l⟩
def JS.nil{a:Int}:JS a []:=⟨by simp,.nil,by simp,by simp⟩
def JS.later(h:JS m k)(q:m<=Ε):JS Ε k:=⟨h.g,h.s,h.k,λn a=>by have:=h.u n a;omega⟩
def JS.filt{a:Int}{Y:al%0}(p:al->Bool)(h:JS a Y):JS a (Y.filter p)where g:=λn q=>h.g n (Wp.mp q).1;s:=h.s.sublist aas;k:=h.k.sublist (aas.map key);u:=λn q=>h.u n (Wp.mp q).1
def JS.put(h:JS m k)(g:ñ τ)(hu:τ.us=m)(hm:τ.md=m):JS m (Lr k τ)/\(Lr k τ).length<=k.length+1:=by
 unfold Lr;split
 · rename_i y;have nk:∀x∈k,key x≠key τ:=λx w e=>by have:x∈k.filter (λo=>o_ (key o=key τ)):=Wp.mpr ⟨w,by simpa using e⟩;rw[y]at this;cases this
   refine⟨⟨λn q=>?_,?_,?_,λn q=>?_⟩,by simp⟩
   · rcases V8.mp q with q|q;·exact h.g n q
     ·rw[V5.mp q];exact g
   ·refine acg.mpr ⟨h.s,Zt ..,λa u b v=>?_⟩;rw[V5.mp v];have:=h.u a u;have:=(h.g a u).mu;omega
   · rw[WU];refine X6.mpr ⟨h.k,Zt ..,λa u b v e=>?_⟩;obtain⟨x,w,rfl⟩:=U_.mp u;have:b=key τ:=by simpa using v
     exact nk x w (e.trans this)
   · rcases V8.mp q with q|q;·exact h.u n q
     ·rw[V5.mp q];omega
 · rename_i f r1 y;have r:f∈k.filter (λo=>o_ (key o=key τ)):=by rw[y];exact pi
   have p:=(Wp.mp r).1;have s:key f=key τ:=by simpa using(Wp.mp r).2
   have one:∀z∈k,key z=key τ->z=f:=λz d e=>by
    have nd:=h.k;obtain⟨i,I,rfl⟩:=acu d;obtain⟨j,H,A⟩:=acu p;have E:=XZ.mp nd;rcases aa3 i j with q|q|q;·exact(E i j (by simpa using I) (by simpa using H) q (by rw[Y4,Y4,A,s,e])).elim
    ·subst q;exact A
    ·exact(E j i (by simpa using H) (by simpa using I) q (by rw[Y4,Y4,A,s,e])).elim
   have md:∀z∈k,(if key z=key τ then({τ with md:=f.md}:al)else z).md=z.md:=λz d=>by
    split;·rename_i e;rw[one z d e]
    ·rfl
   have ky:∀z∈k,key (if key z=key τ then({τ with md:=f.md}:al)else z)=key z:=λz d=>by
    split;·rename_i e;exact e.symm
    ·rfl
   have Q:=h.g f p;have u1:=h.u f p;refine⟨⟨λn q=>?_,?_,?_,λn q=>?_⟩,by simp⟩
   · obtain⟨z,d,rfl⟩:=U_.mp q;split;·exact⟨g.nm,g.w,g.house,g.path,g.R,g.ends,Q.mk0,by show f.md<=τ.us;have:=Q.mu;omega,g.us⟩
     ·exact h.g z d
   ·rw[ZO];exact h.s.imp_of_mem λ{a b}ha hb q=>by rw[md a ha,md b hb];exact q
   ·rw[W7];have e:k.map (key∘λz=>if key z=key τ then({τ with md:=f.md}:al)else z)=k.map key:=WW λz d=>ky z d;rw[e];exact h.k
   · obtain⟨z,d,rfl⟩:=U_.mp q;split;·show τ.us<=m;omega
     ·exact h.u z d
def wds:Str%0:=[b_ "foreign",b_ "open",b_ "unsafe",b_ "marked",b_ "far",b_ "shadowed",b_ "gone",b_ "kept"]
def BX:∀x:Str,x∈[b_ "foreign",b_ "open",b_ "unsafe",b_ "marked",b_ "far",b_ "shadowed"]->è (.str x) (.str "kept")=bo D/\è (.str x) (.str "gone")=bo D:=by intro x a;simp![v_,M_,or_false]at a;rcases a with rfl|rfl|rfl|rfl|rfl|rfl<;>exact⟨by lk,by lk⟩
def KO{w:Str}{l:N}{R:Str}(u:E∈lg ò)(a:Ak d p i)(g:Gv μ w v η Κ l δ R)(n:JS m k)(f:k.length<=20)(s:0<=m)(n1:m<=200):∃(x:Str)(o:al%0),x∈wds/\bw [.tup E,ej k,Ĉ È d p i,Đ μ w v η Κ l δ R,.int m]=.str x%3/\bW [.tup E,ej k,Ĉ È d p i,Đ μ w v η Κ l δ R,.int m]=ej o%3/\JS m o/\o.length<=21:=by
 obtain⟨H,Q,ex,wd,W⟩:=Td u a g È;have sl:(Ğ k m).length<=20:=Wa BU f;have j:JS m (Ğ k m):=n.filt _;rcases W.win with rfl|⟨x,h,rfl⟩
 · obtain⟨b,I,gN,z,A⟩:=KN (m:=m) g W s n1;have y:=GJ u a g s () W;rw[<-I]at y;have e:=Qa (k:=k) u a g s () W I gN n.g f;unfold wv at e;dsimp only at e;split at e;·obtain⟨r,q⟩:=BX (b_ "shadowed") ∅;exact⟨_,Ğ k m,by simp[wds],e,pL f e r q,j,by omega⟩
   · split at e;·exact⟨_,_,by simp[wds],e,BW f n.g gN e y,j.filt _,Wa (Xp _ _) ()⟩
     ·obtain⟨J2,l2⟩:=j.put gN z A;exact⟨_,_,by simp[wds],e,BV f n.g gN e y,J2,by omega⟩
 ·have e:=P9 (k:=k) (m:=m) W ∅;obtain⟨r,q⟩:=BX x (by simp![v_,M_,or_false]at h⊢;rcases h with d|d|d|d|d<;>simp[d]);exact⟨x,Ğ k m,by simp![v_,M_,or_false]at h;rcases h with d|d|d|d|d<;>simp[wds,d],e,pL f e r q,j,by omega⟩
def KP(g:Gv d p i v η Κ δ μ):∃X:Str,gR [Đ d p i v η Κ δ μ]=.str X%3/\aI [.str X]=Đ d p i v η Κ δ μ%3:=by obtain⟨h,a,f,j,b,e⟩:=Tk g;exact⟨_,by rw[e];exact Kp (Tl b),by rw[e];exact PQ b⟩
def VZ(a:al%0):fB (R ļ (é fw (aw (Y 0))) (X 20)) [Z (.tup (a.map à))]=o_ (20<a.length)%3:=by
 refine bd ((ba (i:=.int (a.length:Int)) (v:=.int 20) ((bR (ac (i:=ej a) rfl aq)).trans ?_) rfl).trans ?_);·show Z (Rs.ok (N.int ((a.map à).length:Int)))=_;rw[S_]
 · show Z (Rs.ok (N.bl (o_ ((a.length:Int)>20))))=_;by_cases q:20<a.length;·rw[decide_eq_true q,decide_eq_true (show(a.length:Int)>20 by omega)]
   ·rw[decide_eq_false q,decide_eq_false (show¬(a.length:Int)>20 by omega)]
def Tz(a:al%0):fB (R ļ (é fw (aw (Y 0))) (X 20)) [Z (.lst (a.map à))]=o_ (20<a.length)%3:=by
 refine bd ((ba (i:=.int (a.length:Int)) (v:=.int 20) ((bR (ac (i:=.lst (a.map à)) rfl aq)).trans ?_) rfl).trans ?_);·show Z (Rs.ok (N.int ((a.map à).length:Int)))=_;rw[S_]
 · show Z (Rs.ok (N.bl (o_ ((a.length:Int)>20))))=_;by_cases q:20<a.length;·rw[decide_eq_true q,decide_eq_true (show(a.length:Int)>20 by omega)]
   ·rw[decide_eq_false q,decide_eq_false (show¬(a.length:Int)>20 by omega)]
def GP(a:fB (R ļ (é fw (aw (Y 0))) (X 20)) [Z i]=o_ (20<k.length)%3):ai [i]=if 20<k.length then 5%9 else .non%3:=by
 by_cases q:20<k.length;·rw[if_pos q];rw[decide_eq_true q]at a;exact CG (by show au [Z i]=_;unfold au;exact O9 a rfl)
 ·rw[if_neg q];rw[decide_eq_false q]at a;unfold ai fX;show(match au [Z i]with|some (.nx _)=>Z (Rs.ok N.non)|some (.rt i)=>Z (Rs.ok i)|some (.exc c)=>Z (Rs.exc c)|none=>U)=_;unfold au;rw[cA a]
variable{π:al%0}
def yj(g:k.length<=20)(f:aj [η,ej k,i,Κ,.int m]=v%3)(h:(k.any λo=>o_ (o.us>m))=D)(e:bW [η,ej k,i,v,.int m]=ej π%3)(d:20<π.length):ce [η,ej k,i,Κ,.int m]=5%9:=CG (by show fq (E7 η k i Κ m U U)=_;unfold fq;rw[ax (s5T f)];have c:=vz (i:=η) (v:=i) (η:=Κ) (a:=m) (e:=Z v) (d:=U) g;rw[h]at c;rw[ax (cA c)];have b:cx 6 (aC bW 5 (mo (Y 0) (Y 1) (Y 2) (Y 5) (Y 4))) (E7 η k i Κ m (Z v) U)=Z (.nx (E7 η k i Κ m (Z v) (Z (ej π)))):=ci (cE bW (ac rfl (ac rfl (ac rfl (ac rfl (ac rfl aq))))) rfl e) rfl;have a:=GP (VZ π);rw[if_pos d]at a;rw[ax b];exact EY (dX ai rfl a))
def vdo{b:Str}(h:E∈lg ò)(a:Ak d p i)(j:aI [.str μ]=v%3)(o:Ś k)(g:0<=m)(f:m<=9999)(n:bw [.tup E,ej k,Ĉ δ d p i,v,.int m]=.str b%3):di [.tup E,ej k,Ĉ δ d p i,.str μ,.int m]=.str b%3:=by refine mi ?_;show iJ [Z (.tup E),Z (ej k),Z (Ĉ δ d p i),Z (.str μ),Z (.int m),U]=_;unfold iJ;have e:cx 5 (aC aj 5 (mo (Y 0) (Y 1) (Y 2) (Y 3) (Y 4))) [Z (.tup E),Z (ej k),Z (Ĉ δ d p i),Z (.str μ),Z (.int m),U]=Z (.nx [Z (.tup E),Z (ej k),Z (Ĉ δ d p i),Z (.str μ),Z (.int m),Z v]):=ci (cE aj (ac rfl (ac rfl (ac rfl (ac rfl (ac rfl aq))))) rfl (rwy (iK h) (oG o) (yf a) j (rj g f))) rfl;rw[ax e];exact eV (cE bw (ac rfl (ac rfl (ac rfl (ac rfl (ac rfl aq))))) rfl n)
def Fm{w:Str}{l:N}{R:Str}{X:Str}(j:E∈lg ò)(a:Ak d p i)(g:Gv μ w v η Κ l δ R)(r:aI [.str X]=Đ μ w v η Κ l δ R%3)(f:JS m k)(e:k.length<=20)(h:0<=m)(u:m<=200):(∃(x:Str)(b:al%0),x∈wds/\di [.tup E,ej k,Ĉ È d p i,.str X,.int m]=.str x%3/\ce [.tup E,ej k,Ĉ È d p i,.str X,.int m]=ej b%3/\JS m b/\b.length<=20)\/ce [.tup E,ej k,Ĉ È d p i,.str X,.int m]=5%9:=by
 obtain⟨x,b,y,A,s,H,I⟩:=KO (È:=È) j a g f e h u;have n:=rwy (i:=.tup E) (Κ:=ej k) (v:=Ĉ È d p i) (η:=.str X) (a:=.int m) (iK j) (oG (f.jar e)) (yf a) r (rj h ());have lt:(k.any λo=>o_ (o.us>m))=D:=by rw[ac7];intro o z;have:=f.u o z;simp;omega
 by_cases q:b.length<=20;·exact .inl ⟨x,b,y,vdo j a r (f.jar e) h () A,Fk e n lt s q,H,q⟩
 ·exact .inr (yj e n lt s ())
def KQ(f:JS m k)(b:k.length<=20){a:Int}(e:0<=a)(d:a<=9999):ig [ej k,.int a]=ej (Ğ k a)%3:=by refine mi ?_;show iZ [Z (ej k),Z (.int a)]=_;unfold iZ;rw[ax (dY aM rfl (CH (oG (f.jar b)))),ax (dY bc rfl (Km (rj e d)))];exact eV (gS bE rfl rfl (pK b))
open TS
def Fh(h:Ě b i)(a:b<=64):İ i i=.bl D%3:=BB (h.okP a) h.p
def rM(a:al%0)(n:al):Bool:=a.any λm=>o_ (key m=key n)
def rn{b:î}(d:Ν ζ=δ%3)(a:b ζ=È%3):mR Ν b ζ=(δ&&È)%3:=by unfold mR;rw[d];cases δ with|true=>exact a|false=>rfl
def Ls(b a:al%0):al%0:=b.filter λn=>!rM a n
def wl(n:al):Int%0:=[n.us,n.md]
def iM(a b:al):al:=if Eo (wl b) (wl a)=L then b else a
def Qc(n:al):cC [à n]=.tup [.int n.us,.int n.md]%3:=by simp[cC,bM,iX,aR,cV,Þ,aO,dP,Y,fC,R,Ö,ċ,cT,à]
def Qd(a b:al):gtT (.tup [.int b.us,.int b.md]) (.tup [.int a.us,.int a.md])=bo (Eo (wl b) (wl a)):=rfl
def later_of(a b:al):iD [à a,à b]=à (iM a b)%3:=by have d:fB (R gtT (ag cC 1 (aw (Y 1))) (ag cC 1 (aw (Y 0)))) [Z (à a),Z (à b)]=Eo (wl b) (wl a)%3:=bd ((ba (fP cC rfl (Qc b)) (fP cC rfl (Qc a))).trans (Qd a b));refine iz ?_;show iC [Z (à a),Z (à b)]=_;unfold iC iM;cases h:Eo (wl b) (wl a)with|true=>rw[h]at d;exact mT (xR d)|false=>rw[h]at d;rw[ax (cA d)];rfl
def Ę(l:al%0):Kv:=l.map λn=>(key n,à n)
def nW(l:al%0)(m:al):al%0:=if rM l m=L then l.map (λo=>if key o=key m then m else o)else l++[m]
def GQ(l:al%0)(m:al):GA (Ę l) (key m) (à m)=Ę (nW l m):=by
 have e:((Ę l).any λp=>o_ (p.1=key m))=rM l m:=by unfold Ę rM;rw[List.any_map];rfl
 unfold GA nW;rw[e];split
 · unfold Ę;rw[W7,W7];refine WW ?_;intro o _;simp![Z8];split;·rename_i h;rw[h]
   ·rfl
 ·simp[Ę]
def wN(l:al%0)(n:al):al%1:=l.find? λo=>o_ (key o=key n)
def GR(n:al):∀l:al%0,AY (Ę l) (key n)=(wN l n).map à
 |[]=>rfl|o::l=>by
  have a:=GR n l;unfold AY Ę wN at*;simp![G_,XE];by_cases h:key o=key n;·simp[h]
  ·simp![h,decide_false];exact a
def rF{o:al}(h:wN k τ=Z o):key o=key τ/\o∈k:=by have a:=adF h;exact⟨by simpa using a,List.mem_of_find?_eq_some h⟩
def jM(a b:al):iM a b=a\/iM a b=b:=by
 unfold iM;split;·exact .inr rfl
 ·exact .inl rfl
def yu(l:al%0)(n:al):al:=iM ((wN l n).getD n) n
def rG(l:al%0)(n:al):key (yu l n)=key n:=by
 unfold yu;rcases jM ((wN l n).getD n) n with e|e;·rw[e];cases h:wN l n with|none=>rfl|some o=>exact(rF h).1
 ·rw[e]
def wO(l:al%0)(n:al):al%0:=nW l (yu l n)
def mD(l:al%0)(m:al):(nW l m).length<=l.length+1:=by
 unfold nW;split;·simp
 ·simp
def E5(x y:N)(z:N%1):Ev:=[Z x,Z y,U,z,U]
def Qe(x y:N)(n:al)(l:al%0)(h:l.length<1000):eE (E5 x y (Z (à n))) (Ę l)=Z (E5 x y (Z (à n)),Ę (nW l n)):=by have a:ag cU 1 (aw (Y 3)) (E5 x y (Z (à n)))=ek n%3:=fP cU rfl (jf n);unfold eE Jg;rw[a];show(if(Ę l).length<100000 then Z (E5 x y (Z (à n)),GA (Ę l) (key n) (à n))else U)=_;rw[if_pos (by simp[Ę];omega),GQ]
def GS(x y:N):∀(a l:al%0)(z:N%1),l.length+a.length<1000->∃b,ql 3 eE (a.map à) (E5 x y z) (Ę l)=Z (E5 x y b,Ę (a.foldl nW l))|[],l,z,_=>⟨z,rfl⟩|n::a,l,z,h=>by simp![Wb]at h;have g:=mD l n;obtain⟨b,e⟩:=GS x y a (nW l n) (Z (à n)) ();refine⟨b,?_⟩;show(match eE (E5 x y (Z (à n))) (Ę l)with|some (d,f)=>ql 3 eE (a.map à) d f|none=>U)=_;rw[Qe x y n l ()];exact e
def Qf(x y:N)(n:al)(l:al%0)(h:l.length<1000):eI (E5 x y (Z (à n))) (Ę l)=Z (E5 x y (Z (à n)),Ę (wO l n)):=by
 have a:ag cU 1 (aw (Y 3)) (E5 x y (Z (à n)))=ek n%3:=fP cU rfl (jf n);have e:Jf (ag cU 1 (aw (Y 3))) (Y 3) (E5 x y (Z (à n))) (Ę l)=Z (à ((wN l n).getD n)):=by unfold Jf;rw[a];show Z ((AY (Ę l) (key n)).getD (à n))=_;rw[GR];cases wN l n<;>rfl
 have b:pv iD (Jf (ag cU 1 (aw (Y 3))) (Y 3)) (Y 3) (E5 x y (Z (à n))) (Ę l)=Z (à (yu l n)):=by unfold pv;rw[e];show(match iD [à ((wN l n).getD n),à n]with|some (.ok d)=>Z d|_=>U)=_;rw[later_of];rfl
 unfold eI Jg;rw[b,a];show(if(Ę l).length<100000 then Z (E5 x y (Z (à n)),GA (Ę l) (key n) (à (yu l n)))else U)=_;rw[if_pos (by simp[Ę];omega),<-rG l n,GQ];rfl
def GT(x y:N):∀(a l:al%0)(z:N%1),l.length+a.length<1000->∃b,ql 3 eI (a.map à) (E5 x y z) (Ę l)=Z (E5 x y b,Ę (a.foldl wO l))|[],l,z,_=>⟨z,rfl⟩|n::a,l,z,h=>by simp![Wb]at h;have g:=mD l (yu l n);obtain⟨b,e⟩:=GT x y a (wO l n) (Z (à n)) (by show(nW l (yu l n)).length+_<_;omega);refine⟨b,?_⟩;show(match eI (E5 x y (Z (à n))) (Ę l)with|some (d,f)=>ql 3 eI (a.map à) d f|none=>U)=_;rw[Qf x y n l ()];exact e
def yk(n:al):N%0:=[.int n.md,ek n]
def Ŧ(a b:al):Bool:=ġ (yk a) (yk b)
def CI(d:al%0):al%0:=gX (λa b=>!Ŧ b a) d
def place_of(n:al):eD [à n]=.tup (yk n)%3:=by have e:ag cU 1 (aw (Y 0)) [Z (à n)]=ek n%3:=fP cU rfl (jf n);refine iz (i:=.tup (yk n)) ?_;show iE [Z (à n)]=_;unfold iE;exact eV (io (ac (i:=.int n.md) rfl (ac e aq)) (show 2<=100000 by omega))
def BY:∀a:al%0,kg eD (a.map à)=Z (a.map yk)|[]=>rfl|n::a=>by show(match eD [à n],kg eD (a.map à)with|some (.ok (.tup d)),Z b=>Z (d::b)|_,_=>U)=_;rw[place_of,BY a];rfl
def BZ(h:k.length<64):kQ (k.map yk)=L:=by unfold kQ;rw[m_,decide_eq_true_eq,Wu];refine⟨by simpa using h,λr a=>?_⟩;obtain⟨n,b,rfl⟩:=U_.mp a;cases k with|nil=>simp at b|cons x k=>rfl
def KR(n:al):ģ (à n)=L:=by unfold à;cases h:n.ends<;>simp[ģ,ç,eO]
def mE:∀a:al%0,ç (a.map à)=L|[]=>by simp[ç]|n::a=>by simp[ç,KR n,mE a]
def wP:∀a:al%0,ç ((a.map yk).map N.tup)=L|[]=>by simp[ç]|n::a=>by have:=wP a;simp![G_,ç,m_];exact⟨by simp[ģ,ç,yk,ek],this⟩
def ym(d:al%0):nh (d.map yk) (d.map à)=(CI d).map à:=by
 unfold nh CI;have e:(d.map yk).zip (d.map à)=d.map λn=>(yk n,à n):=by rw[List.zip_map']
 rw[e,<-TS.sort_map (i:=λa b=>!Ŧ b a) (λn=>(yk n,à n)) d λ_ _ _ _=>rfl,W7];rfl
def Fp(h:k.length<64):wt eD (k.map à)=.lst ((CI k).map à)%3:=by unfold wt;rw[BY];dsimp!;rw[if_pos ⟨BZ h,mE k,wP k⟩,ym]
def wQ(a:al%0):(CI a).length=a.length:=(cW _ a).length_eq
def Ķ(b a:al%0):al%0:=a.foldl wO (b.foldl nW [])
def GU:∀(a l:al%0),(a.foldl nW l).length<=l.length+a.length:=by intro a;induction a with|nil=>intro l;simp|cons n a b=>intro l;have:=b (nW l n);have d:=mD l n;simp![Zh,Wb];omega
def Qg:∀(a l:al%0),(a.foldl wO l).length<=l.length+a.length:=by intro a;induction a with|nil=>intro l;simp|cons n a b=>intro l;have:=b (wO l n);have d:(wO l n).length<=l.length+1:=mD l (yu l n);simp![Zh,Wb];omega
def Qh(a b:al%0):(Ķ a b).length<=a.length+b.length:=by have d:=GU a [];have e:=Qg b (a.foldl nW []);simp at d;unfold Ķ;omega
def B0(g:Ś k)(f:Ś π):bJ [ej k,ej π]=if 20<(Ķ k π).length then 5%9 else ej (CI (Ķ k π))%3:=by
 have p:=g.l;have o:=f.l;have r:=Qh k π;obtain⟨b,n⟩:=GS (ej k) (ej π) k [] U (by simp;omega);have d:=GU k [];obtain⟨e,m⟩:=GT (ej k) (ej π) π (k.foldl nW []) b (by simp at d;omega);have j:Jh 3 (Y 0) eE (([Z (ej k),Z (ej π),U,U,U]:Ev).set 2 U) []=Z (E5 (ej k) (ej π) b,Ę (k.foldl nW [])):=n;have i:Jh 3 (Y 1) eI (E5 (ej k) (ej π) b) (Ę (k.foldl nW []))=Z (E5 (ej k) (ej π) e,Ę (Ķ k π)):=m;have h:pB eD (E5 (ej k) (ej π) e) (Ę (Ķ k π))=Z (.lst ((CI (Ķ k π)).map à)):=by unfold pB;rw[show(Ę (Ķ k π)).map (·.2)=(Ķ k π).map à by unfold Ę;rw[W7];rfl,Fp ()]
 have a:=GP (Tz (CI (Ķ k π)));rw[wQ]at a;have key:gH [Z (ej k),Z (ej π),U,U,U]=if 20<(Ķ k π).length then 5%9 else Z (.rt (ej (CI (Ķ k π)))):=by
  unfold gH;rw[ax (dY aM rfl (CH (oG g))),ax (dY aM rfl (CH (oG f)))];unfold Ba;rw[j];dsimp!;rw[i];dsimp!;unfold Oc;rw[h];dsimp!;by_cases q:20<(Ķ k π).length;·rw[if_pos q]at a⊢;exact EY (dX ai rfl a)
  ·rw[if_neg q]at a⊢;rw[ax (dY ai rfl a)];rfl
 by_cases q:20<(Ķ k π).length;·rw[if_pos q]at key⊢;exact CG key
 ·rw[if_neg q]at key⊢;exact mi key
def rN(d:al%0)(a:al):al:=match d.filter (λb=>o_ (key b=key a))with|b::_=>iM a b|[]=>a
def vA(a:al):iM a a=a:=by unfold iM;split<;>rfl
def Fq(d:al%0)(a:al):key (rN d a)=key a:=by
 unfold rN;split
 · rename_i b r h;have f:b∈d.filter (λb=>o_ (key b=key a)):=by rw[h];exact pi
   have:=(Wp.mp f).2;rcases jM a b with e|e;·rw[e]
   ·rw[e];simpa using this
 ·rfl
def wR(d:al%0)(a:al):rN d a=a\/rN d a∈d:=by
 unfold rN;split
 · rename_i b r h;have f:b∈d.filter (λb=>o_ (key b=key a)):=by rw[h];exact pi
   rcases jM a b with e|e;·exact .inl e
   ·rw[e];exact .inr (Wp.mp f).1
 ·exact .inl rfl
def Ą:rM k τ=L↔key τ∈k.map key:=by unfold rM;simp![Yx,decide_eq_true_eq,U_]
def yn(h:k.map key=π.map key)(n:al):rM k n=rM π n:=by rw[Xf,Ą,Ą,h]
def B1(h:key τ∉k.map key):k.filter (λb=>o_ (key b=key τ))=[]:=by rw[List.filter_eq_nil_iff];intro b d a;exact h (U_.mpr ⟨b,d,by simpa using a⟩)
def ui(h:key τ∉k.map key):rN k τ=τ:=by unfold rN;rw[B1 h]
def B4:∀(a l:al%0),((l++a).map key).Nodup->a.foldl nW l=l++a
 |[],l,_=>by simp|n::a,l,h=>by
  have b:rM l n=D:=by cases q:rM l n with|false=>rfl|true=>exfalso;rw[Ą]at q;rw[WU,G_]at h;exact(X6.mp h).2.2 _ q _ pi rfl
  show a.foldl nW (nW l n)=_;have e:nW l n=l++[n]:=by unfold nW;rw[b];rfl
  rw[e,B4 a (l++[n]) (by simpa using h)];simp
def B5(h:key τ∉k.map key):wN k τ=U:=by unfold wN;rw[aaU];intro o a b;exact h (U_.mpr ⟨o,a,by simpa using b⟩)
def B6(f:(k.map key).Nodup){a b:al}(i:a∈k)(g:b∈k)(h:key a=key b):a=b:=by induction k with|nil=>cases i|cons x k j=>
 rw[G_,WT]at f;rcases v_.mp i with rfl|e
 · rcases v_.mp g with rfl|d;·rfl
   ·exact absurd (U_.mpr ⟨b,d,h.symm⟩) f.1
 · rcases v_.mp g with rfl|d;·exact absurd (U_.mpr ⟨a,e,h⟩) f.1
   ·exact j f.2 e d
def vB:∀(d l:al%0),(d.map key).Nodup->(l.map key).Nodup->d.foldl wO l=l.map (rN d)++Ls d l
 |[],l,_,_=>by
  have e:l.map (rN [])=l:=by rw[show(rN []:al->al)=id from rfl];exact List.map_id l
  simp[Ls,e]|n::d,l,j,r=>by
  rw[G_,WT]at j;show d.foldl wO (wO l n)=_;by_cases f:key n∈l.map key
  · have e:wO l n=l.map λo=>if key o=key n then iM o n else o:=by
     obtain⟨s,g,i⟩:=U_.mp f;have E:wN l n=Z s:=by cases q:wN l n with|none=>unfold wN at q;rw[aaU]at q;exact absurd (by simpa using i) (q s g)|some o=>rw[B6 r (rF q).2 g ((rF q).1.trans i.symm)]
     have v:yu l n=iM s n:=by unfold yu;rw[E];rfl
     unfold wO nW;rw[if_pos (by rw[Ą,rG];exact f)];refine WW ?_;intro o u;rw[rG];by_cases h:key o=key n;·rw[if_pos h,if_pos h,v,B6 r u g (h.trans i.symm)]
     ·rw[if_neg h,if_neg h]
    have p:(l.map λo=>if key o=key n then iM o n else o).map key=l.map key:=by
     rw[W7];refine WW ?_;intro o _;simp![Z8];split
     · rename_i h;rcases jM o n with q|q;·rw[q]
       ·rw[q,h]
     ·rfl
    rw[e,vB d _ j.2 (by rw[p];exact r),W7];congr 1
    · refine WW ?_;intro o _;simp![Z8];by_cases h:key o=key n
      · rw[if_pos h];have w:key (iM o n)=key n:=by
         rcases jM o n with q|q;·rw[q,h]
         ·rw[q]
        rw[ui (by rw[w];exact j.1)];unfold rN;rw[Yw (by simp[h])]
      ·rw[if_neg h];unfold rN;rw[XA (by simpa using WO h)]
    ·have k:rM l n=L:=Ą.mpr f;show d.filter _=(n::d).filter _;rw[XA (by simp[k])];refine ac5 ?_;intro m _;rw[yn p m]
  · have e:wO l n=l++[n]:=by
     have v:yu l n=n:=by unfold yu;rw[B5 f];exact vA n
     have k:rM l n=D:=by cases q:rM l n with|false=>rfl|true=>exact absurd (Ą.mp q) f
     unfold wO nW;rw[v,k];rfl
    rw[e,vB d _ j.2 (by rw[WU];exact X6.mpr ⟨r,by simp,λa H b y z=>by simp![G_,ZP,V5]at y;exact f (by rw[<-y,<-z];exact H)⟩),WU,G_,ZP,ui j.1];have k:rM l n=D:=by cases q:rM l n with|false=>rfl|true=>exact absurd (Ą.mp q) f
    have Q:l.map (rN d)=l.map (rN (n::d)):=by refine WW ?_;intro o u;unfold rN;rw[XA (by simp![decide_eq_true_eq];exactλz=>f (by rw[z];exact U_.mpr ⟨o,u,rfl⟩))]
    have I:Ls d (l++[n])=Ls d l:=by
     refine ac5 ?_;intro m A;have:rM (l++[n]) m=rM l m:=by
      unfold rM;rw[List.any_append];have:([n].any λo=>o_ (key o=key m))=D:=by simp![Xv,List.any_nil,acB,decide_eq_false_iff_not];exactλz=>j.1 (by rw[z];exact U_.mpr ⟨m,A,rfl⟩)
      rw[this,acB]
     rw[this]
    rw[Q,I];show _=l.map (rN (n::d))++(n::d).filter _;rw[Yw (by simp[k])];simp[Ls]
def B7(a:(k.map key).Nodup)(b:(π.map key).Nodup):Ķ k π=k.map (rN π)++Ls π k:=by unfold Ķ;rw[B4 k [] (by simpa using a),adE,vB π k b a]
def GV(f:(k.map key).Nodup)(d:(π.map key).Nodup):((Ķ k π).map key).Nodup:=by rw[B7 f d,WU,W7];have e:k.map (key∘rN π)=k.map key:=WW λa _=>Fq π a;rw[e];refine X6.mpr ⟨f,List.Nodup.sublist (List.Sublist.map _ aas) d,λa i b h z=>?_⟩;obtain⟨n,g,rfl⟩:=U_.mp h;have:=(Wp.mp g).2;subst z;rw[Ą.mpr i]at this;cases this
def Ft(g:(k.map key).Nodup)(f:(π.map key).Nodup)(j:∀n∈k,ñ n)(d:∀n∈π,ñ n):∀n∈Ķ k π,ñ n:=by
 intro n b;rw[B7 g f]at b;rcases V8.mp b with h|h
 · obtain⟨a,i,rfl⟩:=U_.mp h;rcases wR π a with e|e;·rw[e];exact j a i
   ·exact d _ e
 ·exact d n (Wp.mp h).1
def GW{g:Type}{d:g->g->Bool}(k:∀a b c,d a b=L->d b c=L->d a c=L)(x:g):∀l:g%0,(∀y∈l,d x y=L\/d y x=L)->l.Pairwise (λa b=>d a b=L)->(xF (λa b=>!d b a) x l).Pairwise (λa b=>d a b=L)
 |[],_,_=>by simp[xF]|y::l,m,h=>by
  unfold xF;rw[WH]at h;split
  · rename_i i;have f:d x y=L:=by
     rcases m y pi with q|q;·exact q
     ·rw[q]at i;cases i
    rw[WH,WH];refine⟨λz e=>?_,h⟩;rcases v_.mp e with rfl|e;·exact f
    ·exact k _ _ _ f (h.1 z e)
  · rename_i i;have j:d y x=L:=by simpa using i
    rw[WH];refine⟨λz e=>?_,GW k x l (λz e=>m z (s_ _ e)) h.2⟩;rcases v_.mp ((kO _ x l).mem_iff.mp e)with rfl|e;·exact j
    ·exact h.1 z e
def B8{e:Type}{d:e->e->Bool}(f:∀a b c,d a b=L->d b c=L->d a c=L):∀l:e%0,l.Pairwise (λa b=>d a b=L\/d b a=L)->(gX (λa b=>!d b a) l).Pairwise (λa b=>d a b=L)|[],_=>.nil|x::l,h=>by rw[WH]at h;exact GW f x _ (λy g=>h.1 y ((cW _ l).mem_iff.mp g)) (B8 f l h.2)
def Qi{b:al}(h:key τ≠key b):nZ (key τ) (key b)=L\/nZ (key b) (key τ)=L:=by cases q:nZ (key τ) (key b)with|true=>exact .inl rfl|false=>cases a:nZ (key b) (key τ)with|true=>exact .inr rfl|false=>exact absurd (uO (xs:=key τ) (ys:=key b) rfl q a) h
def TB(d:(k.map key).Nodup):k.Pairwise (λa b=>key a≠key b):=by unfold List.Nodup at d;rw[ZO]at d;exact d
def Qj{b c:al}(h:Ŧ τ b=L)(a:Ŧ b c=L):Ŧ τ c=L:=AG h a
def B9(a b:al):Ŧ a b=if a.md=b.md then nZ (key a) (key b)else o_ (a.md<b.md):=by
 have f:du [N.str a.nm,.str a.house,.str a.path]=Z (key a):=rfl;have e:du [N.str b.nm,.str b.house,.str b.path]=Z (key b):=rfl;unfold Ŧ yk ek;simp![ġ,ś,ĭ,f,e,beq_iff_eq];split
 · by_cases d:key a=key b;·simp[d,AD]
   ·simp[d]
 ·rfl
def Qk{b:al}(h:key τ≠key b):Ŧ τ b=L\/Ŧ b τ=L:=by
 rw[B9,B9];by_cases a:τ.md=b.md;·rw[if_pos a,if_pos a.symm];exact Qi h
 · rw[if_neg a,if_neg (WO a)];rcases Int.lt_or_gt_of_ne a with q|q;·exact .inl (decide_eq_true q)
   ·exact .inr (decide_eq_true q)
def Ql{b:al}(h:Ŧ τ b=L):τ.md<=b.md:=by
 rw[B9]at h;split at h;·omega
 ·have:=of_decide_eq_true h;omega
def KS(d:(k.map key).Nodup):(CI k).Pairwise (λa b=>Ŧ a b=L):=B8 (d:=Ŧ) (λa b c h e=>Qj h e) k ((TB d).imp λ{a b}h=>Qk h)
def Ď(b a:al%0):al%0:=CI (Ķ b a)
def Ļ:τ∈Ď k π↔τ∈Ķ k π:=(cW _ _).mem_iff
def Fu(b:(k.map key).Nodup)(a:(π.map key).Nodup):((Ď k π).map key).Nodup:=((cW _ (Ķ k π)).map key).nodup_iff.mpr (GV b a)
def Fv(e:(k.map key).Nodup)(d:(π.map key).Nodup):(Ď k π).Pairwise (λa b=>Ŧ a b=L):=KS (GV e d)
def Fw{o j:al%0}{f:Int}(i:JS f o)(d:JS f j):JS f (Ď o j)where
 g:=λn m=>Ft i.k d.k i.g d.g n (Ļ.mp m);s:=(Fv i.k d.k).imp λ{a b}q=>Ql q;k:=Fu i.k d.k;u:=λn m=>by
  have h:=Ļ.mp m;rw[B7 i.k d.k]at h;rcases V8.mp h with q|q
  · obtain⟨a,p,rfl⟩:=U_.mp q;rcases wR j a with e|e;·rw[e];exact i.u a p
    ·exact d.u _ e
  ·exact d.u n (Wp.mp q).1
def Ca(d:JS m k)(g:k.length<=20)(b:JS m π)(f:π.length<=20):(∃a,bJ [ej k,ej π]=ej a%3/\JS m a/\a.length<=20)\/bJ [ej k,ej π]=5%9:=by
 have e:=B0 (d.jar g) (b.jar f);by_cases q:20<(Ķ k π).length;·rw[if_pos q]at e;exact .inr e
 ·rw[if_neg q]at e;exact .inl ⟨Ď k π,e,Fw d b,by unfold Ď;rw[wQ];omega⟩
def V0(h:bi [.str d]=bo L):cy [.str d]=.non%3:=by simp[cy,fX,fT,bt,cV,Þ,cw,fB,ą,ag,aO,dP,Y,h]
def Lu(a:al%0)(h:Str):al%0:=a.filter λn=>!Y' n.house h
def Fx(b:JS m k)(d:k.length<=20){h:Str}(a:h∈En):bg [ej k,.str h]=ej (Lu k h)%3:=by refine mi ?_;show cY [Z (ej k),Z (.str h)]=_;unfold cY;rw[ax (dY aM rfl (CH (oG (b.jar d)))),ax (dY cy rfl (V0 (Pi a)))];refine eV ?_;have e:(dv [("house",1)] (gm (Y 0)) (Z (cw (fB (ag aG 2 (bp (R Ö (Y 0) (X 2)) (Y 1)))))) (Y 0)) [Z (ej k),Z (.str h)]=.lst ((Lu k h).map à)%3:=jK à _ à (j6 rfl) () λn f=>⟨pJ (bd (gS aG (a:=.str n.house) (b:=.str h) rfl rfl (KL (b.g n f).house a))),rfl⟩;exact(bR (ac e aq)).trans rfl
variable{Μ:á}
def av{a:ù}{K:cq}(h:É n Β=Z (.nx a Μ)):dJ É K n Β=K Μ a:=by unfold dJ;rw[h];rfl
def j7{K:cq}(h:É n Β=Z (.exc b Μ)):dJ É K n Β=Z (.exc b Μ):=by unfold dJ;rw[h];rfl
def jN{K:cq}(h:É n Β=Z (.rt Ï Μ)):dJ É K n Β=Z (.rt Ï Μ):=by unfold dJ;rw[h];rfl
def bx{a:ù}(h:Λ n Β=Z (.ok Ï Μ))(e:Β.set b (Z Ï)=a):ki b Λ n Β=Z (.nx a Μ):=by unfold ki;rw[h,<-e];rfl
def wS(h:Λ n Β=Z (.exc j Μ)):ki b Λ n Β=Z (.exc j Μ):=by unfold ki;rw[h];rfl
def jV(h:Λ n Β=Z (.ok Ï Μ)):qt Λ n Β=Z (.nx Β Μ):=by unfold qt;rw[h];rfl
def cu(h:Λ n Β=Z (.ok Ï Μ)):iN Λ n Β=Z (.rt Ï Μ):=by unfold iN;rw[h];rfl
def j8(h:Λ n Β=Z (.exc b Μ)):iN Λ n Β=Z (.exc b Μ):=by unfold iN;rw[h];rfl
def ah(h:A (û n Β)=i%3)(a:pl i=L):aJ A n Β=Z (.ok (.inl i) n):=by unfold aJ;rw[h];exact if_pos a
def lQ(h:A (û n Β)=b%9):aJ A n Β=Z (.exc b n):=by unfold aJ;rw[h]
def aN(h:Β[b]?=Z (Z Ï)):fE b n Β=Z (.ok Ï n):=by unfold fE;rw[h]
def aB{b:á}{a:Uv%0}(h:Λ n Β=Z (.ok Ï Μ))(d:Ñ Μ Β=Z (.ok a b)):bq Λ Ñ n Β=Z (.ok (Ï::a) b):=by unfold bq kW;rw[h];dsimp!;rw[d]
def Cb(h:Λ n Β=Z (.exc b Μ)):bq Λ Ñ n Β=Z (.exc b Μ):=by unfold bq kW;rw[h]
def wT{a:á}(h:Λ n Β=Z (.ok Ï Μ))(d:Ñ Μ Β=Z (.exc b a)):bq Λ Ñ n Β=Z (.exc b a):=by unfold bq kW;rw[h];dsimp!;rw[d]
def bD{d:á}{a:Uv%0}{i:Uv%0}(h:Λ n Β=Z (.ok (.inr ι) Μ))(e:Μ[ι]?=Z (.obj b i))(g:Ñ Μ Β=Z (.ok a d))(f:a.length=j):eQ b Í j Λ Ñ n Β=Í d (.inr ι::a):=by unfold eQ kW;rw[h];dsimp!;rw[e];dsimp!;rw[if_pos rfl,g];exact if_pos f
def Cc{a:á}{f:Uv%0}(h:Λ n Β=Z (.ok (.inr ι) Μ))(d:Μ[ι]?=Z (.obj b f))(e:Ñ Μ Β=Z (.exc Ð a)):eQ b Í j Λ Ñ n Β=Z (.exc Ð a):=by unfold eQ kW;rw[h];dsimp!;rw[d];dsimp!;rw[if_pos rfl,e]
def kr{K:cq}{p:CB}(h:p n Β=Z (.ok L Μ)):ĳ p É K n Β=É Μ Β:=by unfold ĳ;rw[h];rfl
def Cd{K:cq}{p:CB}(h:p n Β=Z (.ok D Μ)):ĳ p É K n Β=K Μ Β:=by unfold ĳ;rw[h];rfl
def cO(h:Ν (û n Β)=δ%3):cH Ν n Β=Z (.ok δ n):=by unfold cH;rw[h]
def fK{a:Uv%0}(h:É n (a.map Z++u_ (b-a.length) U)=Z (.rt Ï Μ)):mB b É n a=Z (.ok Ï Μ):=by unfold mB;rw[h]
def Ce{a:Uv%0}(h:É n (a.map Z++u_ (b-a.length) U)=Z (.nx Β Μ)):mB b É n a=Z (.ok (.inl .non) Μ):=by unfold mB;rw[h]
def nX{a:Uv%0}(h:É n (a.map Z++u_ (b-a.length) U)=Z (.exc j Μ)):mB b É n a=Z (.exc j Μ):=by unfold mB;rw[h]
def jc{a:Uv%0}(h:Λ n Β=Z (.ok (.inr ι) Μ))(d:Μ[ι]?=Z (.obj b a))(e:a[j]?=Z Ï):CF b j Λ n Β=Z (.ok Ï Μ):=by unfold CF kW SF;rw[h];dsimp!;rw[d];dsimp!;rw[if_pos rfl,e]
def ku{d:á}{o:ô}{e a:Uv%0}(i:Λ n Β=Z (.ok Ï Μ))(h:o Μ Β=Z (.ok (.inr ι) d))(f:d[ι]?=Z (.obj b e))(g:xP b j Ï e=Z a):yt b j o Λ n Β=Z (.nx Β (d.set ι (.obj b a))):=by unfold yt EC;rw[i];dsimp!;rw[h];dsimp!;rw[f];dsimp!;rw[if_pos rfl,g]
def Cf{d:á}{a:N%0}(h:Λ n Β=Z (.ok (.inr b) Μ))(e:Μ[b]?=Z (.lst E))(g:Ñ Μ Β=Z (.ok [.inl i] d))(j:d[b]?=Z (.lst a))(f:a.length<100000):JC Λ Ñ n Β=Z (.ok (.inl .non) (d.set b (.lst (a++[i])))):=by unfold JC kW;rw[h];dsimp!;rw[e];dsimp!;rw[g];dsimp!;rw[show ins [.inl i]=Z [i]from rfl,j];exact if_pos f
def KU(h:Λ n Β=Z (.ok (.inr b) Μ))(a:Μ[b]?=Z (.lst (E++[i]))):Oq Λ n Β=Z (.ok (.inl i) (Μ.set b (.lst E))):=by unfold Oq kW;rw[h];dsimp!;rw[a];dsimp!;rw[show(E++[i])[(E++[i]).length-1]?=Z i by simp];dsimp!;rw[List.dropLast_concat]
def rH:Bm gA n Β=Z (.ok (.inr n.length) (n++[ā.lst []])):=rfl
abbrev Sp:=Str×al%0
def ÿ(s:Sp):N:=.tup [.str s.1,ej s.2]
def Ť(T:N)(b:al%0)(d a:Sp%0):N:=.obj 1 [T,ej b,.lst (d.map ÿ),.lst (a.map ÿ)]
def Ő(T:N)(d:al%0)(a b:Nat):ā:=.obj 1 [.inl T,.inl (ej d),.inr a,.inr b]
structure DA(S:á)(n:Nat)(T:N)(js:al%0)(ds us:Sp%0)(a b:Nat):Prop where
 o:S[n]?=Z (Ő T js a b)d:S[a]?=Z (.lst (ds.map ÿ))u:S[b]?=Z (.lst (us.map ÿ))na:n≠a
 nb:n≠b
 ab:a≠b
structure Ch(S S':á)(n a b:Nat):Prop where
 l:S.length<=S'.length
 h:∀c,c<S.length->c≠n->c≠a->c≠b->S'[c]?=S[c]?
variable{Ξ Á:Sp%0}
def DA.vw(h:DA n b i k Ξ Á j ι):vw n (.inr b)=Z (Ť i k Ξ Á):=by unfold FD.vw;dsimp!;rw[h.o];simp[Ő,vwL,vw1,h.d,h.u,Ť]
def jd{l:θ%0}(h:l[b]?=Z Ó):b<l.length:=(F_.mp h).1
def Ch.refl:Ch n n b j ι:=⟨rl _,λ_ _ _ _ _=>rfl⟩
def Ch.trans{g:á}(h:Ch n Μ b j ι)(f:Ch Μ g b j Ð)(k:Ð=ι\/n.length<=Ð):Ch n g b j ι:=⟨Wa h.l f.l,λc i e d a=>by have m:=h.l;rw[f.h c () e d (by rcases k with rfl|q<;>first|exact a|omega)];exact h.h c i e d a⟩
def Fy:iU [Ť i k Ξ Á]=ej k%3:=rfl
def Fz:gf [Ť i k Ξ Á]=.tup [.int (Ξ.length:Nat),.int (Á.length:Nat)]%3:=by simp[gf,fX,gc,aR,cV,Þ,cT,aO,dP,é,f1,oa,Y,Ť,fw]
def jO(a:al%0):pl (ej a)=L:=by show ç (a.map à)=L;exact mE a
def Cg(a:al%0):ģ (ej a)=L:=by show ç (a.map à)=L;exact mE a
def Ci(s:Sp):ģ (ÿ s)=L:=by simp[ÿ,ģ,ç,Cg]
def Ŀ(h:DA n b i k Ξ Á j ι)(w:Str)(z:Ξ.length<1000):∃a,cr n [.inr b,.inl (.str w),.inl (ej π)]=Z (.ok (.inl .non) a)/\DA a b i π (Ξ++[(w,k)]) [] j n.length/\Ch n a b j ι:=by
 have p:=jd h.o;have d:=jd h.d;have y:=jd h.u;refine⟨(((n.set j (.lst ((Ξ++[(w,k)]).map ÿ)))++[ā.lst []]).set b (Ő i k j n.length)).set b (Ő i π j n.length),?_,⟨?_,?_,?_,h.na,by omega,by omega⟩,⟨by simp,λc q e r _=>?_⟩⟩
 · refine Ce (Β:=[b%6,.str w%7,ej π%7]) ?_;show c8 n [b%6,.str w%7,ej π%7]=_;unfold c8;have g:û n [b%6,.str w%7,ej π%7]=[Z (Ť i k Ξ Á),Z (.str w),Z (ej π)]:=by simp![û,G_,ZP,Option.bind_some];rw[h.vw];rfl
   have v:JC (CF 1 2 (fE 0)) (bq (aJ (cT (bp (Y 1) (f1 (oa 1 1) (Y 0))))) gA) n [b%6,.str w%7,ej π%7]=Z (.ok (.inl .non) (n.set j (.lst (Ξ.map ÿ++[ÿ (w,k)])))):=Cf (jc (aN rfl) h.o rfl) h.d (aB (ah (i:=ÿ (w,k)) (by rw[g];rfl) (Ci _)) rfl) h.d (by simpa using(by omega:Ξ.length<100000));rw[av (jV v)];have o:(n.set j (.lst (Ξ.map ÿ++[ÿ (w,k)]))++[ā.lst []])[b]?=Z (Ő i k j ι):=by rw[N_ (by simpa using p),p_ (WO h.na)];exact h.o
   have u:yt 1 3 (fE 0) (Bm gA) (n.set j (.lst (Ξ.map ÿ++[ÿ (w,k)]))) [b%6,.str w%7,ej π%7]=Z (.nx [b%6,.str w%7,ej π%7] ((n.set j (.lst (Ξ.map ÿ++[ÿ (w,k)]))++[ā.lst []]).set b (Ő i k j n.length))):=by have:=ku (b:=1) (j:=3) (a:=[.inl i,.inl (ej k),.inr j,.inr n.length]) (Λ:=Bm gA) (o:=fE 0) (n:=n.set j (.lst (Ξ.map ÿ++[ÿ (w,k)]))) (Β:=[b%6,.str w%7,ej π%7]) rH (aN rfl) o (by simp[xP]);exact this
   rw[av u];have m:((n.set j (.lst (Ξ.map ÿ++[ÿ (w,k)]))++[ā.lst []]).set b (Ő i k j n.length))[b]?=Z (Ő i k j n.length):=A_ (by simp;omega);have f:(Y 2) (û ((n.set j (.lst (Ξ.map ÿ++[ÿ (w,k)]))++[ā.lst []]).set b (Ő i k j n.length)) [b%6,.str w%7,ej π%7])=ej π%3:=rfl;have s:=ku (b:=1) (j:=1) (a:=[.inl i,.inl (ej π),.inr j,.inr n.length]) (Λ:=aJ (Y 2)) (o:=fE 0) (ah f (jO π)) (aN rfl) m (by simp[xP]);rw[s];simp[Ő]
 ·exact A_ (by simp;omega)
 ·rw[p_ h.na,p_ h.na,N_ (by simpa using d)];exact A_ d
 ·rw[p_ (),p_ (),Q_ ∅];simp
 ·rw[p_ (WO e),p_ (WO e),N_ (by simpa using q),p_ (WO r)]
def Did(S:á)(n:Nat)(T:N)(f:al%0)(g:Sp%0)(a b:Nat)(e:al%0)(w:Str)(v:N)(r:Ru Uv%1):Prop:=∃d,r=Z (.ok (.inl v) d)/\DA d n T e (g++[(w,f)]) [] a S.length/\Ch S d n a b
def uj(a:al%0):fw [ej a]=.int (a.length:Nat)%3:=by simp[fw,ej]
def CL(h:ζ[0]?=Z (Z (Ť i k Ξ Á))):f1 (oa 1 1) (Y 0) ζ=ej k%3:=by unfold f1 Y;rw[h];rfl
def TC(h:ζ[0]?=Z (Z (Ť i k Ξ Á))):f1 (oa 1 0) (Y 0) ζ=i%3:=by unfold f1 Y;rw[h];rfl
def CM(h:DA n b i k Ξ Á j ι)(a:Β[0]?=Z (b%6)):(û n Β)[0]?=Z (Z (Ť i k Ξ Á)):=by unfold û;rw[K_,a];show Z (vw n (.inr b))=_;rw[h.vw]
def wV(h:DA n b i k Ξ Á j ι)(w:Str)(m:Ξ.length<1000):Did n b i k Ξ j ι π w (.int ((k.length:Int)-(π.length:Int))) (cp n [.inr b,.inl (.str w),.inl (ej π)]):=by obtain⟨d,e,a,C⟩:=Ŀ (π:=π) h w m;refine⟨d,fK ?_,a,C⟩;show bK n [b%6,.str w%7,ej π%7,U]=_;unfold bK;have f:=CM (Β:=[b%6,.str w%7,ej π%7,U]) h rfl;have o:(R uo (é fw (aw (f1 (oa 1 1) (Y 0)))) (é fw (aw (Y 2)))) (û n [b%6,.str w%7,ej π%7,U])=.int ((k.length:Int)-(π.length:Int))%3:=(ba (i:=.int (k.length:Nat)) (v:=.int (π.length:Nat)) ((bR (ac (CL f) aq)).trans (uj k)) ((bR (ac (i:=ej π) rfl aq)).trans (uj π))).trans rfl;rw[av (bx (a:=[b%6,.str w%7,ej π%7,.int ((k.length:Int)-(π.length:Int))%7]) (ah o rfl) rfl)];have g:eQ 1 cr 2 (fE 0) (bq (aJ (Y 1)) (bq (aJ (Y 2)) gA)) n [b%6,.str w%7,ej π%7,.int ((k.length:Int)-(π.length:Int))%7]=Z (.ok (.inl .non) d):=(bD (a:=[.inl (.str w),.inl (ej π)]) (aN rfl) h.o (aB (ah (i:=.str w) rfl rfl) (aB (ah (i:=ej π) rfl (jO π)) rfl)) rfl).trans e;rw[av (jV g)];exact cu (ah (i:=.int ((k.length:Int)-(π.length:Int))) rfl rfl)
def j'(F:ß){f g:Û}{d:Ev}{a b:N}{r:Rs N%1}(h:f d=a%3)(i:g d=b%3)(e:F [a,b]=r):aC F 2 (bp f g) d=r:=cE F (ac h (ac i aq)) rfl e
def FB(h:DA n b i k Ξ Á j ι)(g:Ξ.length<1000){a:Int}(e:ig [ej k,.int a]=ej π%3):Did n b i k Ξ j ι π "sweep" (.int ((k.length:Int)-(π.length:Int))) (cG n [.inr b,.inl (.int a)]):=by obtain⟨o,m,d,C⟩:=wV (π:=π) h "sweep" g;refine⟨o,fK ?_,d,C⟩;show cF n [b%6,.int a%7]=_;unfold cF;have f:=CM (Β:=[b%6,.int a%7]) h rfl;exact cu ((bD (a:=[.inl (.str "sweep"),.inl (ej π)]) (aN rfl) h.o (aB (ah (i:=.str "sweep") rfl rfl) (aB (ah (i:=ej π) (j' ig (CL f) (b:=.int a) rfl e) (jO π)) rfl)) rfl).trans m)
def Cj(h:DA n b i k Ξ Á j ι)(g:Ξ.length<1000){a:Str}(e:bg [ej k,.str a]=ej π%3):Did n b i k Ξ j ι π "forget" (.int ((k.length:Int)-(π.length:Int))) (cP n [.inr b,.inl (.str a)]):=by obtain⟨o,m,d,C⟩:=wV (π:=π) h "forget" g;refine⟨o,fK ?_,d,C⟩;show cm n [b%6,.str a%7]=_;unfold cm;have f:=CM (Β:=[b%6,.str a%7]) h rfl;exact cu ((bD (a:=[.inl (.str "forget"),.inl (ej π)]) (aN rfl) h.o (aB (ah (i:=.str "forget") rfl rfl) (aB (ah (i:=ej π) (j' bg (CL f) (b:=.str a) rfl e) (jO π)) rfl)) rfl).trans m)
def FF(h:DA n b i k Ξ Á j ι)(g:Ξ.length<1000){d:al%0}(e:bJ [ej k,ej d]=ej π%3):Did n b i k Ξ j ι π "merge" (.int (π.length:Nat)) (fu n [.inr b,.inl (ej d)]):=by obtain⟨o,m,a,C⟩:=Ŀ (π:=π) h "merge" g;refine⟨o,fK ?_,a,C⟩;show cD n [b%6,ej d%7,U]=_;unfold cD;have f:=CM (Β:=[b%6,ej d%7,U]) h rfl;rw[av (bx (a:=[b%6,ej d%7,ej π%7]) (ah (i:=ej π) (j' bJ (CL f) (b:=ej d) rfl e) (jO π)) rfl)];refine Eq.trans (av (jV ((bD (a:=[.inl (.str "merge"),.inl (ej π)]) (aN rfl) h.o (aB (ah (i:=.str "merge") rfl rfl) (aB (ah (i:=ej π) rfl (jO π)) rfl)) rfl).trans m))) ?_;exact cu (ah (i:=.int (π.length:Nat)) ((bR (ac (i:=ej π) rfl aq)).trans (uj π)) rfl)
def cE5(F:ß){f g k m q:Û}{i:Ev}{a b c d e:N}{r:Rs N%1}(h:f i=a%3)(s:g i=b%3)(j:k i=c%3)(p:m i=d%3)(o:q i=e%3)(n:F [a,b,c,d,e]=r):aC F 5 (mo f g k m q) i=r:=cE F (ac h (ac s (ac j (ac p (ac o aq))))) rfl n
def KW(h:DA n b i k Ξ Á j ι)(m:Ξ.length<1000){A X:N}{d:Int}{w:Str}(s:pl A=L)(r:pl X=L)(e:ce [i,ej k,A,X,.int d]=ej π%3)(o:di [i,ej k,A,X,.int d]=.str w%3):Did n b i k Ξ j ι π "give" (.str w) (ie n [.inr b,.inl A,.inl X,.inl (.int d)]):=by obtain⟨q,p,a,C⟩:=Ŀ (π:=π) h "give" m;refine⟨q,fK ?_,a,C⟩;show c9 n [b%6,A%7,X%7,.int d%7,U,U]=_;unfold c9;have g:=CM (Β:=[b%6,A%7,X%7,.int d%7,U,U]) h rfl;have f:=CM (Β:=[b%6,A%7,X%7,.int d%7,ej π%7,U]) h rfl;rw[av (bx (a:=[b%6,A%7,X%7,.int d%7,ej π%7,U]) (ah (i:=ej π) (cE5 ce (TC g) (CL g) (c:=A) (d:=X) (e:=.int d) rfl rfl rfl e) (jO π)) rfl)];rw[av (bx (a:=[b%6,A%7,X%7,.int d%7,ej π%7,.str w%7]) (ah (i:=.str w) (cE5 di (TC f) (CL f) (c:=A) (d:=X) (e:=.int d) rfl rfl rfl o) rfl) rfl)];refine Eq.trans (av (jV ((bD (a:=[.inl (.str "give"),.inl (ej π)]) (aN rfl) h.o (aB (ah (i:=.str "give") rfl rfl) (aB (ah (i:=ej π) rfl (jO π)) rfl)) rfl).trans p))) ?_;exact cu (ah (i:=.str w) rfl rfl)
def w4:Str%0:=[b_ "give",b_ "sweep",b_ "forget",b_ "merge"]
def GX:(w4.all λx=>Wi (.str x))=L:=by lk
def rJ(h:Ě b i)(q:b<=j):Ě j i:=⟨h.1,Wa h.2 q,h.3⟩
structure KY(s:Sp):Prop where
 w:s.1∈w4
 g:∀n∈s.2,ñ n
def Qm{s:Sp}(h:KY s):Ě 3 (ÿ s):=pF λd a=>by
 simp![v_,M_,or_false]at a;rcases a with rfl|rfl;·exact rJ (jg (bb (p:=λx=>Wi (.str x)) GX h.w)) ()
 ·exact PY h.g
def yo(h:∀s∈Ξ,KY s)(f:Ξ≠[]):è (.lst (Ξ.map ÿ)) (.lst [])=bo D:=by cases Ξ with|nil=>exact absurd rfl f|cons o rest=>
 have b:Ě 4 (.lst ((o::rest).map ÿ)):=BC λd g=>by obtain⟨s,e,rfl⟩:=U_.mp g;exact Qm (h s e)
 have i2:=b.okP ();have a:okP (.lst [])=L:=by lk
 unfold è;rw[show ū (.lst ((o::rest).map ÿ)) (.lst [])=U from rfl,i2,a];simp[gV,ý,WY,XN]
def Qn{a:Uv}{d:N%0}(h:n[b]?=Z (.obj 1 [.inl i,.inl (ej k),Ï,a]))(g:(Ï=.inr j/\a=.inr ι)\/(Ï=.inr ι/\a=.inr j))(f:n[j]?=Z (.lst E))(e:n[ι]?=Z (.lst d)):∃fs,vw n (.inr b)=Z (.obj 1 (i::ej k::fs)):=by
 unfold FD.vw;dsimp!;rw[h];rcases g with⟨rfl,rfl⟩|⟨rfl,rfl⟩;·exact⟨[.lst E,.lst d],by simp[vwL,vw1,f,e]⟩
 ·exact⟨[.lst d,.lst E],by simp[vwL,vw1,f,e]⟩
def Ck{a:Uv}(h:n[b]?=Z (.obj 1 [.inl i,.inl (ej k),Ï,a]))(H:(Ï=.inr j/\a=.inr ι)\/(Ï=.inr ι/\a=.inr j))(f:n[j]?=Z (.lst ((Á++[(d,π)]).map ÿ)))(m:n[ι]?=Z (.lst (Ξ.map ÿ)))(z:b≠j)(y:b≠ι)(r:j≠ι)(v:∀q∈Á++[(d,π)],KY q)(hl:Ξ.length<1000):fW n [.inr b,.inr j,.inr ι]=Z (.ok (.inl (.str d)) (((n.set j (.lst (Á.map ÿ))).set ι (.lst ((Ξ++[(d,k)]).map ÿ))).set b (.obj 1 [.inl i,.inl (ej π),Ï,a]))):=by
 have A:=jd f;have lt':=jd m;have ln:=jd h;refine fK ?_;show c7 n [b%6,j%6,ι%6,U]=_;unfold c7;have I:Y 1 (û n [b%6,j%6,ι%6,U])=.lst ((Á++[(d,π)]).map ÿ)%3:=by unfold Y;rw[show(û n [b%6,j%6,ι%6,U])[1]?=Z (vw n (.inr j))from rfl];unfold FD.vw;dsimp!;rw[f]
 have Q:(fB (R è (Y 1) (eU dP))) (û n [b%6,j%6,ι%6,U])=D%3:=bd ((ba I (v:=.lst []) rfl).trans (yo v ∅));rw[av (a:=[b%6,j%6,ι%6,U]) (Μ:=n) (Cd (cO Q))];have u:Oq (fE 1) n [b%6,j%6,ι%6,U]=Z (.ok (.inl (ÿ (d,π))) (n.set j (.lst (Á.map ÿ)))):=KU (aN rfl) (by rw[f];simp);rw[av (bx (a:=[b%6,j%6,ι%6,ÿ (d,π)%7]) u rfl)];have s:(n.set j (.lst (Á.map ÿ)))[j]?=Z (.lst (Á.map ÿ)):=A_ A;have e:(n.set j (.lst (Á.map ÿ)))[ι]?=Z (.lst (Ξ.map ÿ)):=by rw[p_ r];exact m
 have g:(n.set j (.lst (Á.map ÿ)))[b]?=Z (.obj 1 [.inl i,.inl (ej k),Ï,a]):=by rw[p_ (WO z)];exact h
 obtain⟨fs,E⟩:=Qn g H s e;have o:(û (n.set j (.lst (Á.map ÿ))) [b%6,j%6,ι%6,ÿ (d,π)%7])[0]?=Z (Z (.obj 1 (i::ej k::fs))):=by show Z (vw _ (.inr b))=_;rw[E]
 have p:(cT (bp (R Ö (Y 3) (X 0)) (f1 (oa 1 1) (Y 0)))) (û (n.set j (.lst (Á.map ÿ))) [b%6,j%6,ι%6,ÿ (d,π)%7])=ÿ (d,k)%3:=io (ac (i:=.str d) rfl (ac (i:=ej k) (by unfold f1 Y;rw[o];rfl) aq)) (by show 2<=100000;decide);have a1:JC (fE 2) (bq (aJ (cT (bp (R Ö (Y 3) (X 0)) (f1 (oa 1 1) (Y 0))))) gA) (n.set j (.lst (Á.map ÿ))) [b%6,j%6,ι%6,ÿ (d,π)%7]=Z (.ok (.inl .non) ((n.set j (.lst (Á.map ÿ))).set ι (.lst (Ξ.map ÿ++[ÿ (d,k)])))):=Cf (aN rfl) e (aB (ah p (Ci _)) rfl) e (by simpa using(by omega:Ξ.length<100000));rw[av (jV a1)];have w:((n.set j (.lst (Á.map ÿ))).set ι (.lst (Ξ.map ÿ++[ÿ (d,k)])))[b]?=Z (.obj 1 [.inl i,.inl (ej k),Ï,a]):=by rw[p_ (WO y)];exact g
 have a3:=ku (b:=1) (j:=1) (a:=[.inl i,.inl (ej π),Ï,a]) (Λ:=aJ (R Ö (Y 3) (X 1))) (o:=fE 0) (Β:=[b%6,j%6,ι%6,ÿ (d,π)%7]) (ah (i:=ej π) rfl (jO π)) (aN rfl) w (by simp[xP]);rw[av a3];refine(cu (ah (i:=.str d) rfl rfl)).trans ?_;simp
def KZ(h:DA n b i k (Á++[(d,π)]) Ξ j ι)(f:∀q∈Á++[(d,π)],KY q)(p:Ξ.length<1000):∃a,eM n [.inr b]=Z (.ok (.inl (.str d)) a)/\DA a b i π Á (Ξ++[(d,k)]) j ι/\Ch n a b j ι:=by
 have e:=Ck (Ï:=.inr j) (a:=.inr ι) (j:=j) (ι:=ι) h.o (.inl ⟨rfl,rfl⟩) h.d h.u h.na h.nb h.ab f p;have g:=jd h.o;have o:=jd h.d;have m:=jd h.u;refine⟨((n.set j (.lst (Á.map ÿ))).set ι (.lst ((Ξ++[(d,k)]).map ÿ))).set b (Ő i π j ι),fK (Ï:=.inl (.str d)) ?_,⟨?_,?_,?_,h.na,h.nb,h.ab⟩,⟨by simp,λc v u s r=>?_⟩⟩;·show eK n [b%6]=_;unfold eK;exact cu ((bD (a:=[.inr j,.inr ι]) (aN rfl) h.o (aB (jc (aN rfl) h.o rfl) (aB (jc (aN rfl) h.o rfl) rfl)) rfl).trans e)
 ·exact A_ (by simpa using g)
 ·rw[p_ h.na,p_ (WO h.ab)];exact A_ o
 ·rw[p_ h.nb];exact A_ (by simpa using m)
 ·rw[p_ (WO u),p_ (WO r),p_ (WO s)]
def FH(h:DA n b i k Ξ (Á++[(d,π)]) j ι)(f:∀q∈Á++[(d,π)],KY q)(p:Ξ.length<1000):∃a,dk n [.inr b]=Z (.ok (.inl (.str d)) a)/\DA a b i π (Ξ++[(d,k)]) Á j ι/\Ch n a b j ι:=by
 have e:=Ck (Ï:=.inr j) (a:=.inr ι) (j:=ι) (ι:=j) h.o (.inr ⟨rfl,rfl⟩) h.u h.d h.nb h.na (WO h.ab) f p;have g:=jd h.o;have o:=jd h.d;have m:=jd h.u;refine⟨((n.set ι (.lst (Á.map ÿ))).set j (.lst ((Ξ++[(d,k)]).map ÿ))).set b (Ő i π j ι),fK (Ï:=.inl (.str d)) ?_,⟨?_,?_,?_,h.na,h.nb,h.ab⟩,⟨by simp,λc v u s r=>?_⟩⟩;·show dj n [b%6]=_;unfold dj;exact cu ((bD (a:=[.inr ι,.inr j]) (aN rfl) h.o (aB (jc (aN rfl) h.o rfl) (aB (jc (aN rfl) h.o rfl) rfl)) rfl).trans e)
 ·exact A_ (by simpa using g)
 ·rw[p_ h.na];exact A_ (by simpa using o)
 ·rw[p_ h.nb,p_ h.ab];exact A_ m
 ·rw[p_ (WO u),p_ (WO s),p_ (WO r)]
def wW(S:θ%0)(x y:θ)(r:θ%0):(S++x::r).set S.length y=S++y::r:=by rw[List.set_append_right _ _ (rl _),Y2];rfl
def pM(S:θ%0)(x:θ)(r:θ%0):(S++x::r)[S.length]?=Z x:=by rw[Q_ (rl _),Y2];rfl
def DA.app(h:DA n b i k Ξ Á j ι)(r:á):DA (n++r) b i k Ξ Á j ι:=⟨by rw[N_ (jd h.o)];exact h.o,by rw[N_ (jd h.d)];exact h.d,by rw[N_ (jd h.u)];exact h.u,h.na,h.nb,h.ab⟩
def TD(h:bU [i]=bo L):aT [i]=.non%3:=by simp[aT,fX,eY,bt,cV,Þ,cw,fB,ą,ag,aO,dP,Y,h]
def K0(g:bU [i]=bo L)(f:pl i=L):cL (n++[.obj 1 []]) [.inr n.length,.inl i]=Z (.ok (.inl .non) (n++[Ő i [] (n.length+1) (n.length+2),.lst [],.lst []])):=by
 refine Ce (Β:=[n.length%6,i%7]) ?_;show cK (n++[.obj 1 []]) [n.length%6,i%7]=_;unfold cK;have k:aC aT 1 (aw (Y 1)) (û (n++[.obj 1 []]) [n.length%6,i%7])=.non%3:=cE aT (ac (i:=i) rfl aq) rfl (TD g);rw[av (jV (ah k rfl))];have e:=ku (b:=1) (j:=0) (a:=[.inl i]) (Λ:=aJ (Y 1)) (o:=fE 0) (Β:=[n.length%6,i%7]) (ah (i:=i) rfl f) (aN rfl) (pM n (.obj 1 []) []) (by simp[xP,ě]);rw[wW]at e;rw[av e];have d:=ku (b:=1) (j:=1) (a:=[.inl i,.inl (ej [])]) (Λ:=aJ (cT dP)) (o:=fE 0) (Β:=[n.length%6,i%7]) (ah (i:=ej []) rfl (jO [])) (aN rfl) (pM n (.obj 1 [.inl i]) []) (by simp[xP,ě]);rw[wW]at d;rw[av d];have m:(n++[ā.obj 1 [.inl i,.inl (ej [])]]).length=n.length+1:=by simp
 have j:(n++[ā.obj 1 [.inl i,.inl (ej [])]]++[ā.lst []])[n.length]?=Z (.obj 1 [.inl i,.inl (ej [])]):=by rw[XB];exact pM n _ _
 have b:=ku (b:=1) (j:=2) (a:=[.inl i,.inl (ej []),.inr (n.length+1)]) (Λ:=Bm gA) (o:=fE 0) (Β:=[n.length%6,i%7]) (rH (n:=n++[ā.obj 1 [.inl i,.inl (ej [])]])) (aN rfl) j (by simp[xP,ě]);rw[XB,List.singleton_append,wW]at b;rw[av b];have h:(n++ā.obj 1 [.inl i,.inl (ej []),.inr (n.length+1)]::[ā.lst []]++[ā.lst []])[n.length]?=Z (.obj 1 [.inl i,.inl (ej []),.inr (n.length+1)]):=by rw[XB];exact pM n _ _
 have a:=ku (b:=1) (j:=3) (a:=[.inl i,.inl (ej []),.inr (n.length+1),.inr (n.length+2)]) (Λ:=Bm gA) (o:=fE 0) (Β:=[n.length%6,i%7]) (rH (n:=n++ā.obj 1 [.inl i,.inl (ej []),.inr (n.length+1)]::[ā.lst []])) (aN rfl) h (by simp[xP,ě]);rw[XB,List.cons_append,wW]at a;rw[a];rfl
def K1(d:bU [i]=bo L)(a:pl i=L)(b:Ñ n Β=Z (.ok [.inl i] n)):Bp 1 cL 1 Ñ n Β=Z (.ok (.inr n.length) (n++[Ő i [] (n.length+1) (n.length+2),.lst [],.lst []])):=by unfold Bp kW;rw[b];dsimp!;rw[show([Z5 i]:Uv%0).length=1 from rfl,if_pos rfl,K0 d a]
def Qo(S:á):DA (S++[Ő i [] (S.length+1) (S.length+2),.lst [],.lst []]) S.length i [] [] [] (S.length+1) (S.length+2):=by
 refine⟨pM S _ _,?_,?_,by omega,by omega,by omega⟩;·rw[Q_ (),show S.length+1-S.length=1 by omega];rfl
 ·rw[Q_ (),show S.length+2-S.length=2 by omega];rfl
def wX:N%0:=[.non,.int (-1),.int 10000,.bl L,.tup []]
abbrev ur(i:Int):N:=.tup [.str "refused",.int i]
def uI(c:Nat):Int:=if c=5 then 1 else if c=3 then 2 else if c=4 then 3 else if c=0 then 4 else if c=6 then 5 else 6
def cs6:Nat%0:=[0,3,4,5,6,8]
def GY(h:b∈cs6):b<9/\bj [.exn b]=ur (uI b)%3:=by unfold cs6 at h;simp![v_,M_,or_false]at h;rcases h with rfl|rfl|rfl|rfl|rfl|rfl<;>exact⟨by decide,by lk⟩
structure Bad(d:N):Prop where
 p:pl d=L
 a:eZ [d]=bo D
 m:aZ [d]=bo D
 n:bi [d]=bo D
def pN(h:i∈wX):Bad i:=by unfold wX at h;simp![v_,M_,or_false]at h;rcases h with rfl|rfl|rfl|rfl|rfl<;>exact⟨by lk,by lk,by lk,by lk⟩
def Qp(h:DA n b i k Ξ Á j ι)(e:ce [i,ej k,v,η,.int m]=Ð%9):ie n [.inr b,.inl v,.inl η,.inl (.int m)]=Z (.exc Ð n):=by refine nX ?_;show c9 n [b%6,v%7,η%7,.int m%7,U,U]=_;unfold c9;have a:=CM (Β:=[b%6,v%7,η%7,.int m%7,U,U]) h rfl;exact j7 (wS (lQ (cE5 ce (TC a) (CL a) (c:=v) (d:=η) (e:=.int m) rfl rfl rfl e)))
def K2(h:DA n b i k Ξ Á j ι)(e:bJ [ej k,v]=Ð%9):fu n [.inr b,.inl v]=Z (.exc Ð n):=by refine nX ?_;show cD n [b%6,v%7,U]=_;unfold cD;have a:=CM (Β:=[b%6,v%7,U]) h rfl;exact j7 (wS (lQ (j' bJ (CL a) (b:=v) rfl e)))
def K3(h:DA n b i k Ξ Á j ι)(e:ig [ej k,v]=Ð%9):cG n [.inr b,.inl v]=Z (.exc Ð n):=by refine nX ?_;show cF n [b%6,v%7]=_;unfold cF;have a:=CM (Β:=[b%6,v%7]) h rfl;exact j8 (Cc (aN rfl) h.o (wT (ah (i:=.str "sweep") rfl rfl) (Cb (lQ (j' ig (CL a) (b:=v) rfl e)))))
def FJ(h:DA n b i k Ξ Á j ι)(e:bg [ej k,v]=Ð%9):cP n [.inr b,.inl v]=Z (.exc Ð n):=by refine nX ?_;show cm n [b%6,v%7]=_;unfold cm;have a:=CM (Β:=[b%6,v%7]) h rfl;exact j8 (Cc (aN rfl) h.o (wT (ah (i:=.str "forget") rfl rfl) (Cb (lQ (j' bg (CL a) (b:=v) rfl e)))))
def Qq(h:A ζ=b%9):cx j A ζ=b%9:=by unfold cx;rw[h];rfl
def V1(d:bU [i]=bo L)(b:db [ej k]=bo L)(a:eZ [v]=bo D):aj [i,ej k,v,η,.int m]=3%9:=CG (by show aL (E6 i (ej k) v η (.int m) U)=_;unfold aL;rw[ax (dY aT rfl (Pj d)),ax (dY aM rfl (CH b))];exact EY (dX bG rfl (VM a)))
def V2(e:bU [i]=bo L)(d:db [ej k]=bo L)(b:eZ [v]=bo L)(a:aI [η]=4%9):aj [i,ej k,v,η,.int m]=4%9:=CG (by show aL (E6 i (ej k) v η (.int m) U)=_;unfold aL;rw[ax (dY aT rfl (Pj e)),ax (dY aM rfl (CH d)),ax (dY bG rfl (Q4 b))];exact EY (Qq (cE aI (ac rfl aq) rfl a)))
def Co(h:aj [i,ej k,v,η,.int m]=b%9):ce [i,ej k,v,η,.int m]=b%9:=CG (by show fq (E7 i k v η m U U)=_;unfold fq;exact EY (Qq (cE aj (ac rfl (ac rfl (ac rfl (ac rfl (ac rfl aq))))) rfl h)))
def K4(a:db [ej k]=bo L)(h:aZ [i]=bo D):ig [ej k,i]=6%9:=CG (by show iZ [Z (ej k),Z i]=_;unfold iZ;rw[ax (dY aM rfl (CH a))];exact EY (dX bc rfl (VN h)))
def V3(h:bi [i]=bo D):cy [i]=0%9:=by simp[cy,fX,fT,bt,cV,Þ,cw,fB,ą,ag,aO,dP,Y,fC,eW,h]
def FK(a:db [ej k]=bo L)(h:bi [i]=bo D):bg [ej k,i]=0%9:=CG (by show cY [Z (ej k),Z i]=_;unfold cY;rw[ax (dY aM rfl (CH a))];exact EY (dX cy rfl (V3 h)))
def FL(a:db [ej k]=bo L)(h:db [i]=bo D):bJ [ej k,i]=5%9:=CG (by show gH [Z (ej k),Z i,U,U,U]=_;unfold gH;rw[ax (dY aM rfl (CH a))];exact EY (dX aM rfl (VY h)))
def N8(T:N)(d:al%0)(k:Int)(A X:N)(a:Int)(b:Uv%1):ù:=[T%7,ej d%7,.int k%7,A%7,X%7,.int a%7,b,U]
def T6(k:Int)(A X:N)(a:Int):ù:=[0%6,.int k%7,A%7,X%7,.int a%7,U]
abbrev vC(S:á)(T:N)(b:al%0)(k:Int)(A X:N)(a:Int):=jG S [.inl T,.inl (ej b),.inl (.int k),.inl A,.inl X,.inl (.int a)]
abbrev yp(S:á)(k:Int)(A X:N)(a:Int):=jJ S [.inr 0,.inl (.int k),.inl A,.inl X,.inl (.int a)]
def rK(h:gh n (N8 i k m v η Ε U)=Z (.rt Ï Μ)):vC n i k m v η Ε=Z (.ok Ï Μ):=fK (by show c6 n (N8 i k m v η Ε U)=_;unfold c6 oq;rw[h])
def GZ(a:b∈cs6)(h:gh n (N8 i k m v η Ε U)=Z (.exc b Μ)):vC n i k m v η Ε=Z (.ok (.inl (.tup [ur (uI b),.non])) Μ):=fK (by obtain⟨e,d⟩:=GY a;show c6 n (N8 i k m v η Ε U)=_;unfold c6 oq;rw[h];dsimp!;rw[if_pos e,show(cT (bp (ag bj 1 (aw (Y 7))) (fC .non))) ((u_ 8 U).set 7 (Z (.exn b)))=.tup [ur (uI b),.non]%3 from io (ac (fP bj (a:=.exn b) rfl d) (ac rfl aq)) (by show 2<=100000;decide)];rfl)
def lR(h:bC n (T6 m i v Ε)=Z (.rt Ï Μ)):yp n m i v Ε=Z (.ok Ï Μ):=fK (by show da n (T6 m i v Ε)=_;unfold da oq;rw[h])
def pO(a:b∈cs6)(h:bC n (T6 m i v Ε)=Z (.exc b Μ)):yp n m i v Ε=Z (.ok (.inl (ur (uI b))) Μ):=fK (by obtain⟨e,d⟩:=GY a;show da n (T6 m i v Ε)=_;unfold da oq;rw[h];dsimp!;rw[if_pos e,show ag bj 1 (aw (Y 5)) ((u_ 6 U).set 5 (Z (.exn b)))=ur (uI b)%3 from fP bj (a:=.exn b) rfl d];rfl)
def Way(T:N)(e:al%0)(g j:Sp%0)(k:Int)(A X:N)(d:Int)(m:Str):Prop:=(∃v f,Ě 3 v/\JS 200 f/\f.length<=20/\(∀S,vC S T e k A X d=Z (.ok (.inl (.tup [v,ej f])) S))/\∀S a b,DA S 0 T e g j a b->∃h,yp S k A X d=Z (.ok (.inl v) h)/\DA h 0 T f (g++[(m,e)]) [] a S.length/\Ch S h 0 a b)\/∃i,(∀S,vC S T e k A X d=Z (.ok (.inl (.tup [ur i,.non])) S))/\∀S a b,DA S 0 T e g j a b->yp S k A X d=Z (.ok (.inl (ur i)) S)
def Ō{p:CB}(h:p n Β=Z (.ok D n)):ĳ p É qr n Β=Z (.nx Β n):=(Cd h).trans rfl
def K5:(wds.all λx=>Wi (.str x))=L:=by lk
def ķ(i:Nat){a:ù}{k j:Int}{r:Bool}(h:a[i]?=Z (.int k%7))(b:(k==j)=r:=by rfl):cH (fB (R è (Y i) (fC (.int j)))) n a=Z (.ok r n):=b▸cO (bd ((ba (i:=.int k) (v:=.int j) (qf (by unfold û;rw[K_,h];rfl)) rfl).trans rfl))
def ltN(h:Β[1]?=Z (.int m%7))(a:o_ (m<Ε)=δ:=by rfl):cH (fB (R Œ (Y 1) (fC (.int Ε)))) n Β=Z (.ok δ n):=a▸cO (bd ((ba (i:=.int m) (v:=.int Ε) (qf (by unfold û;rw[K_,h];rfl)) rfl).trans rfl))
def ul{g:ô}(h:Ν (û n Β)=δ%3):uIf Ν Λ g n Β=if δ=L then Λ n Β else g n Β:=by unfold uIf;rw[h]
def jh(h:Ν ζ=δ%3):ĥ Ν A Ä ζ=if δ=L then A ζ else Ä ζ:=by unfold ĥ;rw[h];rfl
def pl2(h:ģ i=L):pl (.tup [i,ej k])=L:=by show ç [i,ej k]=L;simp[ç,h,Cg]
def Qr(s:Ξ.length<1000)(n:pl v=L)(j:pl η=L)(h:(∃d f,ce [i,ej k,v,η,.int m]=ej f%3/\di [i,ej k,v,η,.int m]=.str d%3/\d∈wds/\JS 200 f/\f.length<=20)\/∃c∈cs6,ce [i,ej k,v,η,.int m]=c%9):Way i k Ξ Á 0 v η m "give":=by
 rcases h with⟨d,f,g,p,r,y,q⟩|⟨c,o,g⟩
 · refine .inl ⟨.str d,f,rJ (jg (bb (p:=λx=>Wi (.str x)) K5 r)) (),y,q,λS=>rK (jN ((kr (Μ:=S) (ķ 2 rfl)).trans ?_)),λS a b e=>?_⟩;·refine(av (bx (a:=N8 i k 0 v η m (ej f%7)) (ah (i:=ej f) (cE5 ce (a:=i) (b:=ej k) (c:=v) (d:=η) (e:=.int m) rfl rfl rfl rfl rfl g) (jO f)) rfl)).trans ?_;exact cu (ah (i:=.tup [.str d,ej f]) (io (ac (cE5 di (a:=i) (b:=ej k) (c:=v) (d:=η) (e:=.int m) rfl rfl rfl rfl rfl p) (ac rfl aq)) (by show 2<=100000;decide)) (pl2 rfl))
   ·obtain⟨w,u,z,C⟩:=KW e s n j g p;exact⟨w,lR (jN ((kr (Μ:=S) (ķ 1 rfl)).trans (cu ((bD (b:=1) (a:=[.inl v,.inl η,.inl (.int m)]) (aN rfl) e.o (aB (ah (i:=v) rfl n) (aB (ah (i:=η) rfl j) (aB (ah (i:=.int m) rfl rfl) rfl))) rfl).trans u)))),z,C⟩
 · refine .inr ⟨uI c,λS=>GZ o (j7 ((kr (Μ:=S) (ķ 2 rfl)).trans ?_)),λS a b e=>pO o (j7 ((kr (Μ:=S) (ķ 1 rfl)).trans ?_))⟩;·exact j7 (wS (lQ (cE5 ce (a:=i) (b:=ej k) (c:=v) (d:=η) (e:=.int m) rfl rfl rfl rfl rfl g)))
   ·exact j8 ((bD (b:=1) (a:=[.inl v,.inl η,.inl (.int m)]) (aN rfl) e.o (aB (ah (i:=v) rfl n) (aB (ah (i:=η) rfl j) (aB (ah (i:=.int m) rfl rfl) rfl))) rfl).trans (Qp e g))
def K6(b:k.length<=20):hZ [ej k,.int m]=ej (Ğ k m)%3:=by
 refine iz ?_;show hU [Z (ej k),Z (.int m)]=_;refine eV ?_;have e:=jK (d:=[("_law_now",1)]) (ο:=gm (Y 0)) (Ν:=Č (fB (R ė (R Ö (Y 0) (X 5)) (fC .non))) (fB (R ļ (R Ö (Y 0) (X 5)) (Y 1)))) (A:=Y 0) (ζ:=[Z (ej k),Z (.int m)]) à (λn=>!Ē n m) à (j6 rfl) () λn a=>⟨by cases h:n.ends with|none=>simp[Č,fB,R,Þ,ą,ė,Ö,ċ,Y,fC,à,eO,Ē,h,Cz]|some i=>
 have:o_ (i>m)=!o_ (i<=m):=by rw[<-decide_not];congr 1;simp
 simp[Č,fB,R,Þ,ą,ė,Ö,ċ,Y,fC,à,eO,Ē,h,Cz,ļ,QO,this],rfl⟩;exact(bR (ac e aq)).trans rfl
def K7{S:á}{T A X:N}{b a:al%0}{k d:Int}{x:Uv%1}:cT (bp (R uo (é fw (aw (Y 1))) (é fw (aw (Y 6)))) (Y 6)) (û S (N8 T b k A X d (ej a%7)))=.tup [.int ((b.length:Int)-(a.length:Int)),ej a]%3:=io (ac ((ba (i:=.int (b.length:Nat)) (v:=.int (a.length:Nat)) ((bR (ac (i:=ej b) rfl aq)).trans (uj b)) ((bR (ac (i:=ej a) rfl aq)).trans (uj a))).trans rfl) (ac rfl aq)) (by show 2<=100000;decide)
def cW1:î:=Č (cw (fB (f1 (jo mX) (Y 3)))) (Č (fB (f1 (jo fD) (Y 3))) (cw (fB (kB ĩ Œ (X 0) (Y 3) (X 10000)))))
def TF(b:0<=Ε)(d:Ε<=9999):cH cW1 n (N8 i k 1 (.int Ε) v m U)=Z (.ok D n):=cO (by
 show cW1 [Z i,Z (ej k),Z (.int 1),Z (.int Ε),Z v,Z (.int m),U,U]=_;have a:Ε<10000:=by omega
 simp[cW1,Č,cw,fB,f1,jo,mX,fD,Y,fC,kB,ĩ,Œ,Þ,ą,b,a])
def TH(h:v∈wX):cH cW1 n (N8 i k 1 v η m U)=Z (.ok L n):=cO (by show cW1 [Z i,Z (ej k),Z (.int 1),Z v,Z η,Z (.int m),U,U]=_;unfold wX at h;simp![v_,M_,or_false]at h;rcases h with rfl|rfl|rfl|rfl|rfl<;>lk)
def TJ(J:JS 200 k)(g:k.length<=20)(y:Ξ.length<1000)(h:(∃j:Int,v=.int j/\0<=j/\j<=9999)\/v∈wX):Way i k Ξ Á 1 v η m "sweep":=by
 have w:∀(S:á),pl v=L->bq (aJ (Y 2)) gA S (T6 1 v η m)=Z (.ok [.inl v] S):=λS p=>aB (ah (i:=v) rfl p) rfl;have z:∀(S:á){r:Ŋ%1},iN (eQ 1 cG 1 (fE 0) (bq (aJ (Y 2)) gA)) S (T6 1 v η m)=r->∀{u f},r=Z (.rt u f)->bC S (T6 1 v η m)=Z (.rt u f):=λS r e u f n=>by refine(av (Ō (ķ 1 rfl))).trans (jN ((kr (Μ:=S) (ltN rfl)).trans ?_));rw[<-n,<-e];unfold iN;rw[ul (δ:=L) (bd ((ba (i:=.int 1) (v:=.int 1) rfl rfl).trans rfl)),if_pos rfl]
 have o:∀(S:á){r:Ŋ%1},iN (eQ 1 cG 1 (fE 0) (bq (aJ (Y 2)) gA)) S (T6 1 v η m)=r->∀{c f},r=Z (.exc c f)->bC S (T6 1 v η m)=Z (.exc c f):=λS r e c f n=>by refine(av (Ō (ķ 1 rfl))).trans (j7 ((kr (Μ:=S) (ltN rfl)).trans ?_));rw[<-n,<-e];unfold iN;rw[ul (δ:=L) (bd ((ba (i:=.int 1) (v:=.int 1) rfl rfl).trans rfl)),if_pos rfl]
 rcases h with⟨j,rfl,s,q⟩|h
 · refine .inl ⟨.int ((k.length:Int)-((Ğ k j).length:Int)),Ğ k j,rJ lX (),J.filt _,Wa (Xp _ _) g,λS=>rK ?_,λS a b d=>?_⟩;·refine(av (Ō (ķ 2 rfl))).trans (jN ((kr (Μ:=S) (ķ 2 rfl)).trans ?_));refine(av (Ō (TF s q))).trans ?_;refine(av (bx (a:=N8 i k 1 (.int j) η m (ej (Ğ k j)%7)) (ah (i:=ej (Ğ k j)) (gS hZ (a:=ej k) (b:=.int j) rfl rfl (K6 g)) (jO _)) rfl)).trans ?_;exact cu (ah (K7 (x:=U)) (pl2 rfl))
   ·obtain⟨f,A,E,C⟩:=FB d y (KQ J g s q);exact⟨f,lR (z S rfl (cu ((bD (b:=1) (a:=[.inl (.int j)]) (aN rfl) d.o (w S rfl) rfl).trans A))),E,C⟩
 ·have B:=pN h;refine .inr ⟨uI 6,λS=>rK ?_,λS a b d=>pO #v[] (o S rfl (j8 ((bD (b:=1) (a:=[.inl v]) (aN rfl) d.o (w S B.p) rfl).trans (K3 d (K4 (oG (J.jar g)) B.m)))))⟩;refine(av (Ō (ķ 2 rfl))).trans (jN ((kr (Μ:=S) (ķ 2 rfl)).trans ?_));refine jN ((kr (Μ:=S) (TH h)).trans ?_);exact cu (ah (i:=.tup [ur 5,.non]) rfl rfl)
def Cp(d:m≠0)(b:m≠1)(e:ĥ (fB (R è (Y 2) (X 2))) (aC bg 2 (bp (Y 1) (Y 3))) (aC bJ 2 (bp (Y 1) (Y 3))) (û n (N8 i k m v η Ε U))=ej π%3)(f:ĥ (fB (R è (Y 2) (X 2))) (R uo (é fw (aw (Y 1))) (é fw (aw (Y 6)))) (é fw (aw (Y 6))) (û n (N8 i k m v η Ε (ej π%7)))=Κ%3)(a:ģ Κ=L):vC n i k m v η Ε=Z (.ok (.inl (.tup [Κ,ej π])) n):=rK (by refine(av (Ō (ķ 2 rfl (by simpa using d)))).trans ((av (Ō (ķ 2 rfl (by simpa using b)))).trans ?_);refine(av (bx (a:=N8 i k m v η Ε (ej π%7)) (ah (i:=ej π) e (jO π)) rfl)).trans ?_;exact cu (ah (i:=.tup [Κ,ej π]) (io (ac f (ac rfl aq)) (by show 2<=100000;decide)) (pl2 a)))
def Cq(f:m≠0)(d:m≠1)(a:b∈cs6)(e:ĥ (fB (R è (Y 2) (X 2))) (aC bg 2 (bp (Y 1) (Y 3))) (aC bJ 2 (bp (Y 1) (Y 3))) (û n (N8 i k m v η Ε U))=b%9):vC n i k m v η Ε=Z (.ok (.inl (.tup [ur (uI b),.non])) n):=GZ a (by refine(av (Ō (ķ 2 rfl (by simpa using f)))).trans ((av (Ō (ķ 2 rfl (by simpa using d)))).trans ?_);exact j7 (wS (lQ e)))
def c22{x:Uv%1}:fB (R è (Y 2) (X 2)) (û n (N8 i k 2 v η m x))=L%3:=bd ((ba (i:=.int 2) (v:=.int 2) rfl rfl).trans rfl)
def c32{x:Uv%1}:fB (R è (Y 2) (X 2)) (û n (N8 i k 3 v η m x))=D%3:=bd ((ba (i:=.int 3) (v:=.int 2) rfl rfl).trans rfl)
def G0{r:Ŋ%1}(h:iN (eQ 1 cP 1 (fE 0) (bq (aJ (Y 2)) gA)) n (T6 2 i v m)=r)(b:(∃u a,r=Z (.rt u a))\/∃c a,r=Z (.exc c a)):bC n (T6 2 i v m)=r:=by
 have e:ĳ (cH (fB (R Œ (Y 1) (X 3)))) (iN (uIf (fB (R è (Y 1) (X 1))) (eQ 1 cG 1 (fE 0) (bq (aJ (Y 2)) gA)) (eQ 1 cP 1 (fE 0) (bq (aJ (Y 2)) gA)))) qr n (T6 2 i v m)=r:=by refine(kr (Μ:=n) (ltN rfl)).trans ?_;rw[<-h];unfold iN;rw[ul (δ:=D) (bd ((ba (i:=.int 2) (v:=.int 1) rfl rfl).trans rfl)),if_neg q_]
 refine(av (Ō (ķ 1 rfl))).trans ?_;rcases b with⟨u,a,rfl⟩|⟨c,a,rfl⟩;·exact jN e
 ·exact j7 e
def TM(J:JS 200 k)(f:k.length<=20)(n:Ξ.length<1000)(h:(∃q∈En,v=.str q)\/v∈wX):Way i k Ξ Á 2 v η m "forget":=by
 have g:∀(S:á),pl v=L->bq (aJ (Y 2)) gA S (T6 2 v η m)=Z (.ok [.inl v] S):=λS p=>aB (ah (i:=v) rfl p) rfl;rcases h with⟨q,j,rfl⟩|h
 · have e:=Fx J f j;refine .inl ⟨.int ((k.length:Int)-((Lu k q).length:Int)),Lu k q,rJ lX (),J.filt _,Wa (Xp _ _) f,λS=>Cp () () ?_ ?_ rfl,λS a b d=>?_⟩;·rw[jh c22,if_pos rfl];exact j' bg (a:=ej k) (b:=.str q) rfl rfl e
   ·rw[jh c22,if_pos rfl];exact(ba (i:=.int (k.length:Nat)) (v:=.int ((Lu k q).length:Nat)) ((bR (ac (i:=ej k) rfl aq)).trans (uj k)) ((bR (ac (i:=ej (Lu k q)) rfl aq)).trans (uj _))).trans rfl
   ·obtain⟨r,o,s,C⟩:=Cj d n e;exact⟨r,lR (G0 (cu ((bD (b:=1) (a:=[.inl (.str q)]) (aN rfl) d.o (g S rfl) rfl).trans o)) (.inl ⟨_,_,rfl⟩)),s,C⟩
 ·have B:=pN h;have e:=FK (oG (J.jar f)) B.n;refine .inr ⟨uI 0,λS=>Cq () () #v[] ?_,λS a b d=>pO #v[] (G0 (j8 ((bD (b:=1) (a:=[.inl v]) (aN rfl) d.o (g S B.p) rfl).trans (FJ d e))) (.inr ⟨_,_,rfl⟩))⟩;rw[jh c22,if_pos rfl];exact j' bg (a:=ej k) (b:=v) rfl rfl e
def Ha{r:Ŋ%1}(h:iN (eQ 1 fu 1 (fE 0) (bq (aJ (Y 2)) gA)) n (T6 3 i v m)=r)(b:(∃u a,r=Z (.rt u a))\/∃c a,r=Z (.exc c a)):bC n (T6 3 i v m)=r:=by
 refine(av (Ō (ķ 1 rfl))).trans ((av (Ō (ltN rfl))).trans ?_);have e:=(kr (K:=qr) (Μ:=n) (ķ (n:=n) (a:=T6 3 i v m) (k:=3) (j:=3) 1 rfl)).trans h;rcases b with⟨u,a,rfl⟩|⟨c,a,rfl⟩;·exact jN e
 ·exact j7 e
def TN(J:JS 200 k)(n:k.length<=20)(z:Ξ.length<1000)(h:(∃e,v=ej e/\JS 200 e/\e.length<=20)\/v∈wX):Way i k Ξ Á 3 v η m "merge":=by
 have r:∀(S:á),pl v=L->bq (aJ (Y 2)) gA S (T6 3 v η m)=Z (.ok [.inl v] S):=λS p=>aB (ah (i:=v) rfl p) rfl;have no:∀{c:Nat},c∈cs6->pl v=L->bJ [ej k,v]=c%9->Way i k Ξ Á 3 v η m "merge":=λ{c}o s q=>by refine .inr ⟨uI c,λS=>Cq () () o ?_,λS a b d=>pO o (Ha (j8 ((bD (b:=1) (a:=[.inl v]) (aN rfl) d.o (r S s) rfl).trans (K2 d q))) (.inr ⟨_,_,rfl⟩))⟩;rw[jh c32,if_neg q_];exact j' bJ (a:=ej k) (b:=v) rfl rfl q
 have A:(∃e,v=ej e/\JS 200 e/\e.length<=20)\/(v∈wX/\db [v]=bo D):=by
  rcases h with h|h;·exact .inl h
  · have j:=h;unfold wX at j;simp![v_,M_,or_false]at j;rcases j with rfl|rfl|rfl|rfl|rfl;·exact .inr ⟨h,by lk⟩
    ·exact .inr ⟨h,by lk⟩
    ·exact .inr ⟨h,by lk⟩
    ·exact .inr ⟨h,by lk⟩
    ·exact .inl ⟨[],rfl,JS.nil,by simp⟩
 rcases A with⟨e,rfl,I,u⟩|⟨h,y⟩
 · rcases Ca J n I u with⟨g,f,Q,w⟩|f
   · refine .inl ⟨.int (g.length:Nat),g,rJ lX (),Q,w,λS=>Cp () () ?_ ?_ rfl,λS a b d=>?_⟩;·rw[jh c32,if_neg q_];exact j' bJ (a:=ej k) (b:=ej e) rfl rfl f
     ·rw[jh c32,if_neg q_];exact(bR (ac (i:=ej g) rfl aq)).trans (uj _)
     ·obtain⟨H,E,D',C⟩:=FF d z f;exact⟨H,lR (Ha (cu ((bD (b:=1) (a:=[.inl (ej e)]) (aN rfl) d.o (r S (jO e)) rfl).trans E)) (.inl ⟨_,_,rfl⟩)),D',C⟩
   ·exact no #v[] (jO e) f
 ·exact no #v[] (pN h).p (FL (oG (J.jar n)) y)
def Qs{r:Rs N%1}(h:ζ[b]?=Z (Z (Ť i k Ξ Á)))(a:Ω [Ť i k Ξ Á]=r):xN 1 Ω 0 (Y b) dP ζ=r:=by unfold xN Y;rw[h];show(if isO 1 (Ť i k Ξ Á)=L then _ else U)=_;rw[if_pos (by rfl)];exact a
def TQ(a:∀n∈k,ñ n):İ (ej k) (ej k)=bo D:=Fh (PY a) ()
abbrev stD(x y:Nat):N:=.tup [.int (x:Nat),.int (y:Nat)]
def TU(x y:Nat):Ě 1 (stD x y):=pF λd a=>by simp![v_,M_,or_false]at a;rcases a with rfl|rfl<;>exact lX
def TV(x y:Nat):İ (stD x y) (stD x y)=bo D:=Fh (TU x y) ()
def TW(h:Λ n Β=Z (.ok (.inl (.bl δ)) Μ)):uB Λ n Β=Z (.ok δ Μ):=by unfold uB kW;rw[h];rfl
def K8{g:N->N->Rs N%1}(h:Λ n Β=Z (.ok Ï Μ))(a:vw Μ Ï=Z i)(d:A (û Μ Β)=v%3)(b:g i v=.bl δ%3):xO g Λ A n Β=Z (.ok (.inl (.bl δ)) Μ):=by unfold xO kW;rw[h];dsimp!;rw[a,d];dsimp!;rw[b]
def nY{p:CB}(h:p n Β=Z (.ok D Μ)):ĳ p É qr n Β=Z (.nx Β Μ):=(Cd h).trans rfl
def Qt(h:DA n j i k Ξ Á ι Ð)(a:Β[b]?=Z (j%6)):(û n Β)[b]?=Z (Z (Ť i k Ξ Á)):=by unfold û;rw[K_,a];show Z (vw n (.inr j))=_;rw[h.vw]
def Qu(h:n[b]?=Z (.lst E)):vw n (.inr b)=Z (.lst E):=by unfold FD.vw;dsimp!;rw[h]
def Q5(h:n[j]?=Z (.lst E))(a:Β[b]?=Z (j%6)):Y b (û n Β)=.lst E%3:=by unfold Y û;rw[K_,a];show(match Z (vw n (.inr j))with|some (Z d)=>_|_=>_)=_;rw[Qu h]
def K9{a:ù}(h:É n ((JG Ç Β).set b (.int (m+(j:Int)*Ε)%7))=Z (.nx a Μ)):oo b Ç É m Ε (ι+1) j n Β=oo b Ç É m Ε ι (j+1) Μ a:=by show(match É n ((JG Ç Β).set b (.int (m+(j:Int)*Ε)%7))with|some (.nx a Μ)=>oo b Ç É m Ε ι (j+1) Μ a|o=>o)=_;rw[h]
def FM{w:FnI}{r:Ŋ%1}(h:w (û n Β)=Z (m,Ε,j))(e:oo b Ç É m Ε j 0 n Β=r):xQ b Ç w É n Β=r:=by unfold xQ;rw[h];exact e
def Qv(h:ο ζ=Z (.ok [.int (b:Int)]))(a:b<=1000):iU1 ο ζ=Z (0,1,b):=by unfold iU1;rw[h];show(if okR (b:Int)then Z ((0:Int),(1:Int),(b:Int).toNat)else U)=_;rw[if_pos ⟨by omega,by omega⟩];rfl
def Ÿ(w:Nat->Str)(r:Nat->al%0)(p:Nat):Sp%0:=(uk p).map λi=>(w i,r i)
def Ţ(w:Nat->Str)(r:Nat->al%0)(M:Nat)(p:Nat):Sp%0:=(uk (M-p)).map λq=>(w (M-1-q),r (M-q))
def La(w:Nat->Str)(r:Nat->al%0)(p:Nat):Ÿ w r (p+1)=Ÿ w r p++[(w p,r p)]:=by simp[Ÿ,Zg]
def Qw(w:Nat->Str)(r:Nat->al%0)(M:Nat){p:Nat}(h:p<M):Ţ w r M p=Ţ w r M (p+1)++[(w p,r (p+1))]:=by unfold Ţ;rw[show M-p=(M-(p+1))+1 by omega,Zg,WU,List.map_singleton,show M-1-(M-(p+1))=p by omega,show M-(M-(p+1))=p+1 by omega]
def Lb(w:Nat->Str)(r:Nat->al%0)(p:Nat):(Ÿ w r p).length=p:=by simp[Ÿ]
def Qx(w:Nat->Str)(r:Nat->al%0)(M:Nat)(p:Nat):(Ţ w r M p).length=M-p:=by simp[Ţ]
structure Ok(w:Nat->Str)(r:Nat->al%0)(M:Nat)(m:Nat):Prop where
 w:∀i,i<M->w i∈w4
 r:∀i,i<=M->JS 200 (r i)/\(r i).length<=20m:M<=m
def Ŗ(w:Nat->Str)(r:Nat->al%0)(i:Nat):N:=.tup [.str (match i with|0=>b_ ""|j+1=>w j),ej (r i)]
def ĸ(w:Nat->Str)(r:Nat->al%0)(M:Nat):N%0:=(uk (M+1)).map (Ŗ w r)
structure At(w:Nat->Str)(r:Nat->al%0)(M:Nat)(S:á)(T:N)(p a b c:Nat):Prop where
 d:DA S 0 T (r p) (Ÿ w r p) (Ţ w r M p) a b
 rows:S[c]?=Z (.lst (ĸ w r M))n0:c≠0na:c≠a
 nb:c≠b
variable{Ã:Nat->Str}{Â:Nat->al%0}
def Ok.ds{p:Nat}(O:Ok Ã Â b j)(e:p<=b):∀q∈Ÿ Ã Â p,KY q:=λq a=>by obtain⟨i,d,rfl⟩:=U_.mp a;have:=Wf.mp d;exact⟨O.w i (),(O.r i ()).1.g⟩
def Ok.us{p:Nat}(O:Ok Ã Â b j):∀q∈Ţ Ã Â b p,KY q:=λq a=>by obtain⟨i,d,rfl⟩:=U_.mp a;have:=Wf.mp d;exact⟨O.w _ (),(O.r _ ()).1.g⟩
def At.ch{c:Nat}(h:At Ã Â b n i j ι Ð c)(C:Ch n Μ 0 ι Ð):Μ[c]?=Z (.lst (ĸ Ã Â b)):=(C.h c (jd h.rows) h.n0 h.na h.nb).trans h.rows
def At.back{a c:Nat}(h:At Ã Â b n i (ι+1) Ð a c)(O:Ok Ã Â b j)(m:j<=100)(g:ι<b):∃f,eM n [.inr 0]=Z (.ok (.inl (.str (Ã ι))) f)/\At Ã Â b f i ι Ð a c:=by have k:=h.d;have ok:=O.ds (p:=ι+1) g;rw[La]at k ok;obtain⟨f,e,d,C⟩:=KZ k ok (by rw[Qx];have:=O.m;omega);rw[<-Qw Ã Â b g]at d;exact⟨f,e,d,h.ch C,h.n0,h.na,h.nb⟩
def At.forth{a c:Nat}(h:At Ã Â b n i ι Ð a c)(O:Ok Ã Â b j)(m:j<=100)(k:ι<b):∃f,dk n [.inr 0]=Z (.ok (.inl (.str (Ã ι))) f)/\At Ã Â b f i (ι+1) Ð a c:=by have g:=h.d;have ok:=O.us (p:=ι);rw[Qw Ã Â b k]at g ok;obtain⟨f,e,d,C⟩:=FH g ok (by rw[Lb];have:=O.m;omega);rw[<-La Ã Â ι]at d;exact⟨f,e,d,h.ch C,h.n0,h.na,h.nb⟩
def Hb{a:Uv}(g:n[0]?=Z (.obj 1 [.inl i,.inl (ej k),Ï,a]))(f:(Ï=.inr b/\a=.inr j)\/(Ï=.inr j/\a=.inr b))(e:n[b]?=Z (.lst []))(h:n[j]?=Z (.lst (Ξ.map ÿ))):fW n [.inr 0,.inr b,.inr j]=Z (.exc 8 n):=by
 refine nX ?_;show c7 n [0%6,b%6,j%6,U]=_;unfold c7;have d:(û n [0%6,b%6,j%6,U])[1]?=Z (Z (.lst [])):=by show Z (vw n (.inr b))=_;unfold FD.vw;dsimp!;rw[e]
 refine j7 ((kr (Μ:=n) (cO (bd ((ba (i:=.lst []) (v:=.lst []) (qf d) rfl).trans rfl)))).trans ?_);rfl
def Lc{a:Nat}(h:n[j]?=Z (.lst (ĸ Ã Â b)))(d:Β[a]?=Z (j%6))(e:A (û n Β)=.int (ι:Nat)%3)(g:ι<=b)(f:Ö (Ŗ Ã Â ι) (.int (Ð:Nat))=i%3):R Ö (R Ö (Y a) A) (fC (.int (Ð:Nat))) (û n Β)=i%3:=by refine(ba (i:=Ŗ Ã Â ι) ((ba (Q5 h d) e).trans ?_) rfl).trans f;show(match ċ (ĸ Ã Â b) ((ι:Nat):Int)with|some i=>Z (Rs.ok i)|none=>U)=_;unfold ċ ĸ;rw[if_pos (),show((ι:Nat):Int).toNat=ι from rfl,K_,Y8 ()];rfl
def Qy(h:DA n 0 i k [] Ξ b j):eM n [.inr 0]=Z (.exc 8 n):=nX (by show eK n [0%6]=_;exact j8 ((bD (a:=[.inr b,.inr j]) (aN rfl) h.o (aB (jc (aN rfl) h.o rfl) (aB (jc (aN rfl) h.o rfl) rfl)) rfl).trans (Hb (Ï:=.inr b) (a:=.inr j) h.o (.inl ⟨rfl,rfl⟩) h.d h.u)))
def Ld(h:DA n 0 i k Ξ [] b j):dk n [.inr 0]=Z (.exc 8 n):=nX (by show dj n [0%6]=_;exact j8 ((bD (a:=[.inr j,.inr b]) (aN rfl) h.o (aB (jc (aN rfl) h.o rfl) (aB (jc (aN rfl) h.o rfl) rfl)) rfl).trans (Hb (Ï:=.inr b) (a:=.inr j) h.o (.inr ⟨rfl,rfl⟩) h.u h.d)))
def wY(k:Int):Str:=if k=0 then b_ "give"else if k=1 then b_ "sweep"else if k=2 then b_ "forget"else b_ "merge"
def FN(y:E∈lg ò)(J:JS 200 k)(e:k.length<=20)(z:Ξ.length<1000)(r:0<=m)(q:m<=200)(j:(∃s h p O,Ak h p O/\i=Ĉ s h p O)\/i∈wX)(hX:∃x,v=.str x/\((∃d w H P u l S R,Gv d w H P u l S R/\aI [.str x]=Đ d w H P u l S R%3)\/x=b_ "n")):Way (.tup E) k Ξ Á 0 i v m "give":=by
 obtain⟨x,rfl,hx⟩:=hX;have f:=oG (J.jar e);have hT:=iK y;rcases j with⟨s,h,p,O,a,rfl⟩|j
 · refine Qr z (by rcases a.o with rfl|⟨o,_,rfl⟩<;>rfl) rfl ?_;rcases hx with⟨d,w,H,P,u,l,S,R,g,A⟩|rfl
   · by_cases lt:(k.any λo=>o_ (o.us>m))=L;·exact .inr ⟨6,by decide,yi e (rwy hT f (yf a) A (rj r ())) lt⟩
     · have Jn:JS m k:=⟨J.g,J.s,J.k,by simpa using lt⟩;rcases Fm (È:=s) y a g A Jn e r q with⟨b,I,hv,ev,n,Jy,Q⟩|n;·exact .inl ⟨b,I,n,ev,hv,Jy.later q,Q⟩
       ·exact .inr ⟨5,by decide,n⟩
   ·exact .inr ⟨4,by decide,Co (V2 hT f (yf a) (by lk))⟩
 ·have B:=pN j;exact Qr z B.p rfl (.inr ⟨3,by decide,Co (V1 hT f B.a)⟩)
abbrev ĉ(m:Int%0)(T:N)(c p:Nat)(g:Int)(k j i h f e d b a:Uv%1):ù:=[.scr m%7,T%7,0%6,c%6,.int (p:Nat)%7,.int g%7,k,j,i,h,f,e,d,b,a]
def dc{a:Int%0}{n:Int}(e:ζ[0]?=Z (Z (.scr a)))(b:A ζ=.int m%3)(d:ae [.scr a,.int m,.int n]=.int Ε%3):ag ae 3 (bS (Y 0) A (fC (.int n))) ζ=.int Ε%3:=vx ae (qf e) b rfl d
def V4{b:Int%0}(y:b.length<=63)(ht:E∈lg ò){c p k:Nat}(hk:k<12)(n0:0<=m)(n1:m<=190)(d:Uv%1)(S:á):∃(a:Int)(f:Int)(A:N)(x:Str)(x7 x9:Uv%1),0<=a/\a<=5/\m<=f/\f<=m+3/\pl A=L/\(a<=3->∀js ds us,JS 200 js->js.length<=20->ds.length<1000->Way (.tup E) js ds us a A (.str x) f (wY a))/\∀F,dJ qX (dJ qW (dJ qV (dJ qU (dJ vq (dJ nM (dJ vp F)))))) S (ĉ b (.tup E) c p m (.int (k:Nat)%7) U U U U U U U d)=F S (ĉ b (.tup E) c p f (.int (k:Nat)%7) x7 (.int a%7) x9 (A%7) (.str x%7) U U d):=by
 obtain⟨z,hz⟩:∃z:Int,z=20+80*(k:Int):=⟨_,rfl⟩;have hm:lj (.int 80) (.int (k:Int))=.int (80*(k:Int))%3:=pG (.inl ());obtain⟨d0,a0,b0,e0⟩:=aV b y z 10 ();obtain⟨n,a1,b1,e1⟩:=aV b y (z+1) 4 ();obtain⟨s,h,j,O,hh,hp,hO,eA⟩:=Fa b y (z+2);have ak:Ak h j O:=⟨me hh,hp,hO⟩;obtain⟨q,hq,eN⟩:=nP b y (z+9);obtain⟨os,nw,eJ,Jo,lo,v⟩:=PZ b y (z+30) 3 ();have i':JS 200 os:=⟨v.g,v.s,v.k,λx hx=>by have h1:=v.u x hx;have h2:=v.n1;omega⟩;obtain⟨a',o',m',f'⟩:=aV b y (z+10) 9 ();obtain⟨k',h',g',e'⟩:=aV b y (z+11) 5 ();obtain⟨Q,n',l',d'⟩:=aV b y (z+25) 9 ();obtain⟨nm,w,H,P,u,l,S0,R,g,eG⟩:=Ff b y (z+12) hh;obtain⟨X,eX,eR⟩:=KP g;obtain⟨xk,mk,ik⟩:=ii (E:=[.int 0,.int 0,.int 0,.int 0,.int 1,.int 2,.int 3,.int 3,.int 4,.int 5]) a0 b0;obtain⟨a,k0,k5,rfl⟩:∃a:Int,0<=a/\a<=5/\xk=.int a:=by simp![v_,M_,or_false]at mk;rcases mk with rfl|rfl|rfl|rfl|rfl|rfl|rfl|rfl|rfl|rfl<;>exact⟨_,by decide,by decide,rfl⟩
 obtain⟨i,iA,b',I⟩:∃i,Ö (.lst [Ĉ s h j O,.int (m+n),.str q,ej os,.int 0,.int 0]) (.int a)=i%3/\pl i=L/\((a=0->i=Ĉ s h j O)/\(a=1->i=.int (m+n))/\(a=2->i=.str q)/\(a=3->i=ej os)):=by
  have hc:a=0\/a=1\/a=2\/a=3\/a=4\/a=5:=by omega
  rcases hc with rfl|rfl|rfl|rfl|rfl|rfl;·exact⟨_,rfl,by rcases ak.o with rfl|⟨o,_,rfl⟩<;>rfl,λ_=>rfl,λz=>absurd z #v[],λz=>absurd z #v[],λz=>absurd z #v[]⟩
  ·exact⟨_,rfl,rfl,λz=>absurd z #v[],λ_=>rfl,λz=>absurd z #v[],λz=>absurd z #v[]⟩
  ·exact⟨_,rfl,rfl,λz=>absurd z #v[],λz=>absurd z #v[],λ_=>rfl,λz=>absurd z #v[]⟩
  ·exact⟨_,rfl,jO os,λz=>absurd z #v[],λz=>absurd z #v[],λz=>absurd z #v[],λ_=>rfl⟩
  ·exact⟨_,rfl,rfl,λz=>absurd z #v[],λz=>absurd z #v[],λz=>absurd z #v[],λz=>absurd z #v[]⟩
  ·exact⟨_,rfl,rfl,λz=>absurd z #v[],λz=>absurd z #v[],λz=>absurd z #v[],λz=>absurd z #v[]⟩
 obtain⟨xb,mb,ib⟩:=ii (E:=wX) h' g';obtain⟨A,hA⟩:∃A,A=if(a'==0)=L then xb else i:=⟨_,rfl⟩;have r:A=i\/A∈wX:=by
  rw[hA];cases(a'==0);·exact .inl rfl
  ·exact .inr mb
 have pA:pl A=L:=by
  rcases r with e|e;·rw[e];exact b'
  ·exact(pN e).p
 obtain⟨x,hx⟩:∃x,x=if o_ (Q>0)=L then X else b_ "n":=⟨_,rfl⟩;have c':(∃nm w H P u l S R,Gv nm w H P u l S R/\aI [.str x]=Đ nm w H P u l S R%3)\/x=b_ "n":=by
  rw[hx];cases o_ (Q>0);·exact .inr rfl
  ·exact .inl ⟨nm,w,H,P,u,l,S0,R,g,eR⟩
 refine⟨a,m+n,A,x,.int z%7,Ĉ s h j O%7,k0,k5,by omega,by omega,pA,λh3 js ds us J jl hd=>?_,λF=>?_⟩
 · have hc:a=0\/a=1\/a=2\/a=3:=by omega
   rcases hc with rfl|rfl|rfl|rfl;·exact FN ht J jl hd () () (r.imp (λe=>⟨s,h,j,O,ak,e.trans (I.1 rfl)⟩) id) ⟨x,rfl,c'⟩
   ·exact TJ J jl hd (r.imp (λe=>⟨m+n,e.trans (I.2.1 rfl),by omega,by omega⟩) id)
   ·exact TM J jl hd (r.imp (λe=>⟨q,me hq,e.trans (I.2.2.1 rfl)⟩) id)
   ·exact TN J jl hd (r.imp (λe=>⟨os,e.trans (I.2.2.2 rfl),i',by omega⟩) id)
 · refine(av (bx (a:=ĉ b (.tup E) c p m (.int (k:Nat)%7) (.int z%7) U U U U U U d) (ah (i:=.int z) ((ba (i:=.int 20) (v:=.int (80*(k:Int))) rfl ((ba (i:=.int 80) (v:=.int (k:Int)) rfl rfl).trans hm)).trans (by rw[hz];rfl)) rfl) rfl)).trans ?_;refine(av (bx (a:=ĉ b (.tup E) c p m (.int (k:Nat)%7) (.int z%7) (.int a%7) U U U U U d) (ah (i:=.int a) ((ba (ka (E:=[.int 0,.int 0,.int 0,.int 0,.int 1,.int 2,.int 3,.int 3,.int 4,.int 5]) rfl ∅) (dc rfl rfl e0)).trans ik) rfl) rfl)).trans ?_;refine(av (bx (a:=ĉ b (.tup E) c p (m+n) (.int (k:Nat)%7) (.int z%7) (.int a%7) U U U U U d) (ah (i:=.int (m+n)) ((ba (i:=.int m) rfl (dc rfl rfl e1)).trans rfl) rfl) rfl)).trans ?_;refine(av (bx (a:=ĉ b (.tup E) c p (m+n) (.int (k:Nat)%7) (.int z%7) (.int a%7) (Ĉ s h j O%7) U U U U d) (ah (i:=Ĉ s h j O) (gS jR (a:=.scr b) (b:=.int (z+2)) rfl rfl eA) (by rcases ak.o with rfl|⟨o,_,rfl⟩<;>rfl)) rfl)).trans ?_;refine(av (bx (a:=ĉ b (.tup E) c p (m+n) (.int (k:Nat)%7) (.int z%7) (.int a%7) (Ĉ s h j O%7) (i%7) U U U d) (ah (i:=i) ((ba (ka (ac rfl (ac rfl (ac (gS aY (a:=.scr b) (b:=.int (z+9)) rfl rfl eN) (ac (vx jS (a:=.scr b) (b:=.int (z+30)) (c:=.int 3) rfl rfl rfl eJ) (ac rfl (ac rfl aq)))))) ∅) rfl).trans iA) b') rfl)).trans ?_;have z8:nM S (ĉ b (.tup E) c p (m+n) (.int (k:Nat)%7) (.int z%7) (.int a%7) (Ĉ s h j O%7) (i%7) U U U d)=Z (.nx (ĉ b (.tup E) c p (m+n) (.int (k:Nat)%7) (.int z%7) (.int a%7) (Ĉ s h j O%7) (A%7) U U U d) S):=by have hc:cH vi S (ĉ b (.tup E) c p (m+n) (.int (k:Nat)%7) (.int z%7) (.int a%7) (Ĉ s h j O%7) (i%7) U U U d)=Z (.ok (a'==0) S):=cO (bd ((ba (dc rfl rfl f') rfl).trans rfl));unfold nM;cases hb:(a'==0)with|false=>rw[hb]at hc hA;rw[hA,if_neg q_];exact nY hc|true=>rw[hb]at hc hA;rw[hA,if_pos rfl];exact(kr hc).trans (bx (ah (i:=xb) ((ba (ka (E:=wX) rfl (by simp[wX])) (dc rfl rfl e')).trans ib) (pN mb).p) rfl)
   refine(av z8).trans (av (bx (ah (i:=.str x) ?_ rfl) rfl));rw[jh (δ:=o_ (Q>0)) (bd ((ba (dc rfl rfl d') (v:=.int 0) rfl).trans rfl))];cases hb:o_ (Q>0)with|false=>rw[hb]at hx;rw[hx];rfl|true=>rw[hb]at hx;rw[hx,if_pos rfl,if_pos rfl];exact fP gR (a:=Đ nm w H P u l S0 R) (vx fR (a:=.scr b) (b:=.int (z+12)) (c:=.str h) rfl rfl rfl eG) eX
def rL{a:Uv%0}(h:Ñ n Β=Z (.ok a Μ))(d:a.length=b):nq Í b Ñ n Β=Í Μ a:=by unfold nq kW;rw[h];exact if_pos d
def Le(h:Λ n Β=Z (.ok (.inl (.tup E)) Μ))(a:E.length=Ç.length):Q0 Ç Λ n Β=Z (.nx (OA Ç E Β) Μ):=by unfold Q0;rw[h];exact if_pos a
def Cr(i:Int):Ě 1 (ur i):=pF λd a=>by
 simp![v_,M_,or_false]at a;rcases a with rfl|rfl;·exact jg (by lk)
 ·exact lX
def Ct:(ĸ Ã Â b).length=b+1:=by simp[ĸ]
def Cu{w:Nat->Str}{r:Nat->al%0}:∀l:Nat%0,ç (l.map (Ŗ w r))=L|[]=>rfl|i::l=>by show(ģ (Ŗ w r i)&&ç (l.map (Ŗ w r)))=L;rw[Cu l];simp[Ŗ,ģ,ç,Cg]
def Qz{s:Int%0}{a c:Nat}(h:At Ã Â b n i ι Ð a c)(O:Ok Ã Â b j)(u:ι<=b)(r q p o k g f e d:Uv%1):dJ nK (ĳ (cH qS) (iN (aJ (fC (.bl D)))) qr) n (ĉ s i c ι m r q p o k g f e d)=Z (.nx (ĉ s i c ι m r q p o k g f e d) n):=by
 have v:nK n (ĉ s i c ι m r q p o k g f e d)=Z (.nx (ĉ s i c ι m r q p o k g f e d) n):=by
  refine nY (cO (bd ((ba (i:=stD ι (b-ι)) ((Qs (Qt h.d rfl) Fz).trans (by rw[Lb,Qx])) (v:=stD ι (b-ι)) (io (ac (i:=.int (ι:Nat)) rfl (ac (i:=.int ((b-ι:Nat):Int)) ?_ aq)) (by show 2<=100000;decide))).trans (TV _ _))));refine(ba (i:=.int (b:Nat)) (v:=.int (ι:Nat)) ((ba (i:=.int ((b+1:Nat):Int)) (v:=.int 1) ((bR (ac (Q5 h.rows rfl) aq)).trans ?_) rfl).trans ?_) rfl).trans ?_;·show Z (Rs.ok (N.int (((ĸ Ã Â b).length:Nat):Int)))=_;rw[Ct]
  ·show Z (Rs.ok (N.int (((b+1:Nat):Int)-1)))=_;rw[show((b+1:Nat):Int)-1=((b:Nat):Int)by omega]
  ·show Z (Rs.ok (N.int (((b:Nat):Int)-((ι:Nat):Int))))=_;rw[show((b:Nat):Int)-((ι:Nat):Int)=((b-ι:Nat):Int)by omega]
 refine(av v).trans (nY (cO (bd ((ba (Qs (Qt h.d rfl) Fy) (Lc (ι:=ι) (Ð:=1) h.rows rfl rfl u rfl)).trans (TQ (O.r ι u).1.g)))))
def TX{o:Int%0}{k h g f a:Uv%1}(p:pl v=L)(e:yp n Ε v (.str d) m=Z (.ok (.inl η) Μ))(q:Ě 3 η):qT n (ĉ o i j b m k h (.int Ε%7) g (v%7) (.str d%7) f (η%7) a)=Z (.nx (ĉ o i j b m k h (.int Ε%7) g (v%7) (.str d%7) f (η%7) a) Μ):=nY (TW (K8 (Ï:=.inl η) (i:=η) ((rL (a:=[.inr 0,.inl (.int Ε),.inl v,.inl (.str d),.inl (.int m)]) (aB (aN rfl) (aB (ah (i:=.int Ε) rfl rfl) (aB (ah (i:=v) rfl p) (aB (ah (i:=.str d) rfl rfl) (aB (ah (i:=.int m) rfl rfl) rfl))))) rfl).trans e) rfl rfl (Fh q ())))
def QC{p:Int%0}{c:Nat}{o k g a f:Uv%1}(h:At Ã Â b n i j ι Ð c)(q:pl i=L)(s:j<=b)(r:pl v=L)(e:vC n i (Â j) Ε v (.str d) m=Z (.ok (.inl (.tup [η,Κ])) n)):vo n (ĉ p i c j m o k (.int Ε%7) g (v%7) (.str d%7) a U f)=Z (.nx (ĉ p i c j m o k (.int Ε%7) g (v%7) (.str d%7) a (η%7) (Κ%7)) n):=by exact(Le (E:=[η,Κ]) ((rL (a:=[.inl i,.inl (ej (Â j)),.inl (.int Ε),.inl v,.inl (.str d),.inl (.int m)]) (aB (ah (i:=i) rfl q) (aB (ah (i:=ej (Â j)) (Lc (ι:=j) (Ð:=1) h.rows rfl rfl s rfl) (jO _)) (aB (ah (i:=.int Ε) rfl rfl) (aB (ah (i:=v) rfl r) (aB (ah (i:=.str d) rfl rfl) (aB (ah (i:=.int m) rfl rfl) rfl)))))) rfl).trans e) rfl).trans rfl
def QD{p:Int%0}{o k h g f e d a:Uv%1}:cH vj n (ĉ p i j b m o k (.int Ε%7) h g f e d a)=Z (.ok (o_ (Ε>3)) n):=cO (bd ((ba (i:=.int Ε) (v:=.int 3) rfl rfl).trans rfl))
def QE(a:j<=b):zx (ĸ Ã Â b) U (Z ((j:Int)+1))=(uk (j+1)).map (Ŗ Ã Â):=by
 have e:HT.sIx (ĸ Ã Â b).length (ĸ Ã Â b).length (Z ((j:Int)+1))=j+1:=by unfold HT.sIx;dsimp!;rw[if_neg (),Ct,show((j:Int)+1).toNat=j+1 by omega,abU ()]
 unfold zx;rw[e];show((ĸ Ã Â b).drop 0).take (j+1-0)=_;unfold ĸ;rw[aaW,Nat.sub_zero,<-List.map_take,List.take_range,abU ()]
def wU(w:Nat->Str)(p:Nat)(x:Str)(i:Nat):Str:=if i=p then x else w i
def rU(r:Nat->al%0)(p:Nat)(y:al%0)(i:Nat):al%0:=if i=p+1 then y else r i
def QF(x:Str)(a:al%0):(uk (b+1)).map (Ŗ Ã Â)++[.tup [.str x,ej a]]=ĸ (wU Ã b x) (rU Â b a) (b+1):=by
 unfold ĸ;rw[Zg (n:=b+1),WU];congr 1;·refine WW λi d=>?_;have:=Wf.mp d;unfold Ŗ wU rU;rw[if_neg ()];cases i with|zero=>rfl|succ j=>dsimp!;rw[if_neg ()]
 ·simp[Ŗ,wU,rU]
def QG(x:Str)(a:al%0):Ÿ Ã Â b++[(x,Â b)]=Ÿ (wU Ã b x) (rU Â b a) (b+1):=by
 rw[La];congr 1;·refine WW λi d=>?_;have:=Wf.mp d;unfold wU rU;rw[if_neg (),if_neg ()]
 ·simp[wU,rU]
def QH(d:0<=m)(b:m<=3):Ö (.lst [.str "give",.str "sweep",.str "forget",.str "merge"]) (.int m)=.str (wY m)%3/\wY m∈w4:=by
 have a:m=0\/m=1\/m=2\/m=3:=by omega
 rcases a with rfl|rfl|rfl|rfl<;>exact⟨rfl,by simp[w4,wY]⟩
def TY{q:Int%0}{c:Nat}{p o g f e d a:Uv%1}(h:At Ã Â b n i j ι Ð c)(r:j<=b)(z:b<=100)(u:0<=Ε)(s:Ε<=3):vn n (ĉ q i c j m p o (.int Ε%7) g f e d a (ej k%7))=Z (.nx (ĉ q i n.length j m p o (.int Ε%7) g f e d a (ej k%7)) (n++[.lst (ĸ (wU Ã j (wY Ε)) (rU Â j k) (j+1))])):=by
 refine bx (Ï:=.inr n.length) ?_ rfl;have y:uq (Y 3) gp (eP (R cf (Y 4) (X 1))) (û n (ĉ q i c j m p o (.int Ε%7) g f e d a (ej k%7)))=.lst ((uk (j+1)).map (Ŗ Ã Â))%3:=by unfold uq;rw[Q5 h.rows rfl];show Z (Rs.ok (N.lst (zx (ĸ Ã Â b) U (Z ((j:Int)+1)))))=_;rw[QE r]
 have w:eU (aw (cT (bp (R Ö (eU (mS (Ø "give") (Ø "sweep") (Ø "forget") (Ø "merge"))) (Y 8)) (Y 14)))) (û n (ĉ q i c j m p o (.int Ε%7) g f e d a (ej k%7)))=.lst [.tup [.str (wY Ε),ej k]]%3:=ka (ac (io (ac ((ba (ka (E:=[.str "give",.str "sweep",.str "forget",.str "merge"]) rfl ∅) rfl).trans (QH u s).1) (ac rfl aq)) (by show 2<=100000;decide)) aq) ∅;have v:R cf (uq (Y 3) gp (eP (R cf (Y 4) (X 1)))) (eU (aw (cT (bp (R Ö (eU (mS (Ø "give") (Ø "sweep") (Ø "forget") (Ø "merge"))) (Y 8)) (Y 14))))) (û n (ĉ q i c j m p o (.int Ε%7) g f e d a (ej k%7)))=.lst (ĸ (wU Ã j (wY Ε)) (rU Â j k) (j+1))%3:=by refine(ba y w).trans ?_;show(if((uk (j+1)).map (Ŗ Ã Â)).length+[N.tup [.str (wY Ε),ej k]].length<=100000 then Z (Rs.ok (N.lst ((uk (j+1)).map (Ŗ Ã Â)++[N.tup [.str (wY Ε),ej k]])))else U)=_;rw[if_pos (by simp;omega),QF]
 unfold Q3;rw[v];exact if_pos (Cu (w:=wU Ã j (wY Ε)) (r:=rU Â j k) (uk (j+1+1)))
def Hc{r:Ŋ%1}(h:iN (eQ 1 eM 0 (fE 0) gA) n (T6 4 i (.str d) m)=r):bC n (T6 4 i (.str d) m)=r:=by refine(av (Ō (ķ 1 rfl))).trans ((av (Ō (ltN rfl))).trans ((av (Ō (ķ 1 rfl))).trans ?_));rw[<-h];unfold iN;rw[ul (δ:=L) (bd ((ba (i:=.int 4) (v:=.int 4) rfl rfl).trans rfl)),if_pos rfl]
def Hd{r:Ŋ%1}(h:iN (eQ 1 dk 0 (fE 0) gA) n (T6 5 i (.str d) m)=r):bC n (T6 5 i (.str d) m)=r:=by refine(av (Ō (ķ 1 rfl))).trans ((av (Ō (ltN rfl))).trans ((av (Ō (ķ 1 rfl))).trans ?_));rw[<-h];unfold iN;rw[ul (δ:=D) (bd ((ba (i:=.int 5) (v:=.int 4) rfl rfl).trans rfl)),if_neg q_]
def wZ{u:Int%0}{c:Nat}{s r p o g f:Uv%1}{d:Int}{q:Nat}(h:At Ã Â b n i j ι Ð c)(hM:b<=100)(I:Ε=4/\d=(j:Int)-1\/Ε=5/\d=(j:Int)+1)(hd:(0<=d/\d<(b:Int)+1/\(q:Int)=d/\∃a:Nat,(a:Int)=(if d<(j:Int)then(j:Int)else d)/\a<=b/\Ö (Ŗ Ã Â a) (.int ((0:Nat):Int))=v%3)\/(¬(0<=d/\d<(b:Int)+1)/\q=j/\v=ur 6))(pV:pl v=L):lO n (ĉ u i c j m s r (.int Ε%7) p o g U U f)=Z (.nx (ĉ u i c q m s r (.int Ε%7) p o g (.int d%7) (v%7) f) n):=by
 have hk:o_ (Ε>3)=L:=by rw[decide_eq_true_eq];rcases I with⟨e,_⟩|⟨e,_⟩<;>omega
 have c1:=QD (n:=n) (p:=u) (i:=i) (j:=c) (b:=j) (m:=m) (Ε:=Ε) (o:=s) (k:=r) (h:=p) (g:=o) (f:=g) (e:=U) (d:=U) (a:=f);rw[hk]at c1;refine(kr c1).trans ?_;have z1:vm n (ĉ u i c j m s r (.int Ε%7) p o g U U f)=Z (.nx (ĉ u i c j m s r (.int Ε%7) p o g (.int d%7) U f) n):=by
  refine bx (ah (i:=.int d) ?_ rfl) rfl;rw[jh (δ:=Ε==4) (bd ((ba (i:=.int Ε) (v:=.int 4) rfl rfl).trans rfl))];rcases I with⟨rfl,rfl⟩|⟨rfl,rfl⟩;·rfl
  ·rfl
 have ch:∀y:Uv%1,fB (kB ĩ Œ (X 0) (Y 12) (é fw (aw (Y 3)))) (û n (ĉ u i c j m s r (.int Ε%7) p o g (.int d%7) y f))=(o_ (0<=d)&&o_ (d<(b:Int)+1))%3:=λy=>by
  have H:é fw (aw (Y 3)) (û n (ĉ u i c j m s r (.int Ε%7) p o g (.int d%7) y f))=.int ((b:Int)+1)%3:=by refine(bR (ac (Q5 h.rows rfl) aq)).trans ?_;show Z (Rs.ok (N.int (((ĸ Ã Â b).length:Nat):Int)))=_;rw[Ct];rfl
  refine bd (δ:=o_ (0<=d)&&o_ (d<(b:Int)+1)) ?_;show Þ (ĩ (.int 0) (.int d)) (λz=>Þ (ą z) λk=>if k then Þ (é fw (aw (Y 3)) (û n (ĉ u i c j m s r (.int Ε%7) p o g (.int d%7) y f))) (λÃ=>Œ (.int d) Ã)else .bl D%3)=_;rw[H];show(if o_ (0<=d)=L then Z (Rs.ok (N.bl (o_ (d<(b:Int)+1))))else Z (Rs.ok (N.bl D)))=_;cases o_ (0<=d)<;>rfl
 refine(av z1).trans ?_;rcases hd with⟨E,g1,g2,a,g3,g4,g5⟩|⟨E,rfl,rfl⟩
 · have w:(o_ (0<=d)&&o_ (d<(b:Int)+1))=L:=by rw[decide_eq_true E,decide_eq_true g1];rfl
   have A:qR n (ĉ u i c j m s r (.int Ε%7) p o g (.int d%7) U f)=Z (.nx (ĉ u i c j m s r (.int Ε%7) p o g (.int d%7) (v%7) f) n):=by refine bx (ah (i:=v) ?_ pV) rfl;rw[jh (ch U),w,if_pos rfl];refine Lc (ι:=a) (Ð:=0) h.rows rfl ?_ g4 g5;refine(bR (ac (i:=.int (j:Nat)) rfl (ac (i:=.int d) rfl aq))).trans ?_;show Z (Rs.ok (N.int (if(j:Int)<d then d else(j:Int))))=_;rw[g3];congr 3;split<;>split<;>omega
   refine(av A).trans (bx (Ï:=.inl (.int (q:Nat))) (ah (i:=.int (q:Nat)) ?_ rfl) rfl);rw[jh (ch _),w,if_pos rfl,g2];rfl
 · have w:(o_ (0<=d)&&o_ (d<(b:Int)+1))=D:=by cases Q:o_ (0<=d)with|false=>rfl|true=>rw[decide_eq_true_eq]at Q;exact decide_eq_false λh2=>E ⟨Q,h2⟩
   have A:qR n (ĉ u i c q m s r (.int Ε%7) p o g (.int d%7) U f)=Z (.nx (ĉ u i c q m s r (.int Ε%7) p o g (.int d%7) (ur 6%7) f) n):=by refine bx (ah (i:=ur 6) ?_ rfl) rfl;rw[jh (ch U),w,if_neg q_];rfl
   refine(av A).trans (bx (Ï:=.inl (.int (q:Nat))) (ah (i:=.int (q:Nat)) ?_ rfl) rfl);rw[jh (ch _),w,if_neg q_];rfl
def UU(a:E∈lg ò):pl (.tup E)=L:=by
 have:(lg ò).all (λE=>pl (.tup E))=L:=by lk
 exact bb (p:=λE=>pl (.tup E)) this a
def Nxt(u:Int%0)(t:N%0)(k:Nat)(b:Int)(R:Ŋ%1):Prop:=∃p m n e d w v o a s r q j i h g f,R=Z (.nx (ĉ u (.tup t) o d a (.int (k:Nat)%7) s r q j i h g f) p)/\At m n e p (.tup t) d w v o/\Ok m n e (k+1)/\d<=e/\b<=a/\a<=b+3
abbrev QI:cq:=dJ qT (dJ nK (ĳ (cH qS) (iN (aJ (fC (.bl D)))) qr))
def Ok.up(O:Ok Ã Â b j):Ok Ã Â b (j+1):=⟨O.w,O.r,Nat.le_succ_of_le O.m⟩
def lZ{g:Int%0}{now:Int}{p o f a:Uv%1}{w':Nat->Str}{r':Nat->al%0}{M'  a' b':Nat}(q:pl i=L)(e:yp Μ m i (.str d) Ε=Z (.ok (.inl v) n))(u:Ě 3 v)(h:At w' r' M' n (.tup E) j a' b' ι)(O:Ok w' r' M' (b+1))(k:j<=M')(s:now<=Ε)(r:Ε<=now+3):Nxt g E b now (QI Μ (ĉ g (.tup E) ι j Ε (.int (b:Nat)%7) p (.int m%7) o (i%7) (.str d%7) f (v%7) a)):=⟨n,w',r',M',j,a',b',ι,Ε,_,_,_,_,_,_,_,_,(av (TX q e u)).trans (Qz h O k _ _ _ _ _ _ _ _ _),h,O,k,s,r⟩
def UV(h:d∈w4):Ě 3 (.str d):=rJ (jg (bb (p:=λd=>Wi (.str d)) GX h)) ()
def TZ{g:Int%0}{c k:Nat}(hl:g.length<=63)(ht:E∈lg ò)(hk:k<12)(O:Ok Ã Â b k)(h:At Ã Â b n (.tup E) j ι Ð c)(z:j<=b)(n0:0<=m)(n1:m<=3*k)(d:Uv%1):Nxt g E k m (nN n (ĉ g (.tup E) c j m (.int (k:Nat)%7) U U U U U U U d)):=by
 obtain⟨f,a,A,x,w,u,k0,k5,I,H,y,hw,hF⟩:=V4 hl ht (c:=c) (p:=j) hk n0 () d n;have e:=hF (dJ lO QI);have b':=O.m;have pT:=UU ht;rw[show nN n (ĉ g (.tup E) c j m (.int (k:Nat)%7) U U U U U U U d)=_ from e];by_cases k3:f<=3
 · have rp:=O.r j z;have W:=hw k3 (Â j) (Ÿ Ã Â j) (Ţ Ã Â b j) rp.1 rp.2 (by rw[Lb];omega);have a':o_ (f>3)=D:=decide_eq_false ();have c1:=QD (n:=n) (p:=g) (i:=.tup E) (j:=c) (b:=j) (m:=a) (Ε:=f) (o:=.int (k:Nat)%7) (k:=w) (h:=u) (g:=A%7) (f:=.str x%7) (e:=U) (d:=U) (a:=d);rw[a']at c1;rcases W with⟨v,p,iv,Jy,ly,en,et⟩|⟨i,en,et⟩
   · have z3:=QC (p:=g) (o:=.int (k:Nat)%7) (k:=w) (g:=u) (a:=U) (f:=d) h pT z y (en n);have z2:=TY (q:=g) (m:=a) (p:=.int (k:Nat)%7) (o:=w) (g:=u) (f:=A%7) (e:=.str x%7) (d:=U) (a:=v%7) (k:=p) h z () k0 k3;obtain⟨S2,s⟩:∃S2,S2=n++[ā.lst (ĸ (wU Ã j (wY f)) (rU Â j p) (j+1))]:=⟨_,rfl⟩;rw[<-s]at z2;have z6:lO n (ĉ g (.tup E) c j a (.int (k:Nat)%7) w (.int f%7) u (A%7) (.str x%7) U U d)=Z (.nx (ĉ g (.tup E) n.length (j+1) a (.int (k:Nat)%7) w (.int f%7) u (A%7) (.str x%7) U (v%7) (ej p%7)) S2):=by refine(Cd c1).trans ((av z3).trans ((kr (Μ:=n) (cO (bd ((ba (i:=ej p) (v:=.non) rfl rfl).trans rfl)))).trans ((av z2).trans (bx (Ï:=.inl (.int ((j+1:Nat):Int))) (ah (i:=.int ((j+1:Nat):Int)) ((ba (i:=.int (j:Nat)) (v:=.int 1) rfl rfl).trans rfl) rfl) rfl))))
     rw[av z6];have l2:S2.length=n.length+1:=by rw[s];simp
     have D2:DA S2 0 (.tup E) (Â j) (Ÿ Ã Â j) (Ţ Ã Â b j) ι Ð:=by rw[s];exact h.d.app _
     have r2:S2[n.length]?=Z (.lst (ĸ (wU Ã j (wY f)) (rU Â j p) (j+1))):=by rw[s];exact pM n _ []
     obtain⟨S',e5,D',C⟩:=et S2 ι Ð D2;have la:=jd h.d.d;have lb:=jd h.d.u;have lo:=jd h.d.o;refine lZ (w':=wU Ã j (wY f)) (r':=rU Â j p) (M':=j+1) (a':=ι) (b':=S2.length) y e5 iv ⟨?_,(C.h n.length () () () ()).trans r2,by omega,by omega,by omega⟩ ⟨λi hi=>?_,λi hi=>?_,by omega⟩ (rl _) I H;·rw[<-QG,show rU Â j p (j+1)=p from if_pos rfl,show Ţ (wU Ã j (wY f)) (rU Â j p) (j+1) (j+1)=[]by simp[Ţ]];exact D'
     · unfold wU;by_cases o:i=j;·rw[if_pos o];exact(QH k0 k3).2
       ·rw[if_neg o];exact O.w i ()
     · unfold rU;by_cases o:i=j+1;·rw[if_pos o];exact⟨Jy,ly⟩
       ·rw[if_neg o];exact O.r i ()
   ·have z3:=QC (p:=g) (o:=.int (k:Nat)%7) (k:=w) (g:=u) (a:=U) (f:=d) h pT z y (en n);have z6:lO n (ĉ g (.tup E) c j a (.int (k:Nat)%7) w (.int f%7) u (A%7) (.str x%7) U U d)=Z (.nx (ĉ g (.tup E) c j a (.int (k:Nat)%7) w (.int f%7) u (A%7) (.str x%7) U (ur i%7) (.non%7)) n):=(Cd c1).trans ((av z3).trans (nY (cO (bd ((ba (i:=.non) (v:=.non) rfl rfl).trans rfl)))));rw[av z6];exact lZ y (et n ι Ð h.d) (rJ (Cr i) ()) h O.up z I H
 · have hc:f=4\/f=5:=by omega
   rcases hc with rfl|rfl;·cases j with|zero=>rw[av (wZ (v:=ur 6) (d:=-1) (q:=0) h () (.inl ⟨rfl,rfl⟩) (.inr ⟨by omega,rfl,rfl⟩) rfl)];exact lZ y (pO (b:=8) #v[] (Hc (j8 ((bD (a:=[]) (aN rfl) h.d.o rfl rfl).trans (Qy h.d))))) (rJ (Cr 6) ()) h O.up z I H|succ q=>obtain⟨S',eb,h'⟩:=h.back O () ();rw[av (wZ (v:=.str (Ã q)) (d:=(q:Int)) (q:=q) h () (.inl ⟨rfl,by omega⟩) (.inl ⟨by omega,by omega,rfl,q+1,by rw[if_pos ()],z,rfl⟩) rfl)];exact lZ y (lR (Hc (cu ((bD (a:=[]) (aN rfl) h.d.o rfl rfl).trans eb)))) (UV (O.w q ())) h' O.up () I H
   · by_cases r:j<b;·obtain⟨S',eb,h'⟩:=h.forth O () r;rw[av (wZ (v:=.str (Ã j)) (d:=(j:Int)+1) (q:=j+1) h () (.inr ⟨rfl,rfl⟩) (.inl ⟨by omega,by omega,rfl,j+1,by rw[if_neg ()];rfl,r,rfl⟩) rfl)];exact lZ y (lR (Hd (cu ((bD (a:=[]) (aN rfl) h.d.o rfl rfl).trans eb)))) (UV (O.w j r)) h' O.up r I H
     · have Q:j=b:=by omega
       have hd:=h.d;rw[show Ţ Ã Â b j=[]by rw[Q];simp[Ţ]]at hd;rw[av (wZ (v:=ur 6) (d:=(j:Int)+1) (q:=j) h () (.inr ⟨rfl,rfl⟩) (.inr ⟨by omega,rfl,rfl⟩) rfl)];exact lZ y (pO (b:=8) #v[] (Hd (j8 ((bD (a:=[]) (aN rfl) h.d.o rfl rfl).trans (Ld hd))))) (rJ (Cr 6) ()) h O.up z I H
def QJ{ns:Int%0}{t:N%0}(hl:ns.length<=63)(ht:t∈lg ò):∀(n k:Nat)(S:á)(w:Nat->Str)(r:Nat->al%0)(M p a b c:Nat)(d:Int)(v u s q m j i g f:Uv%1),k+n<=12->0<=d->d<=3*k->Ok w r M k->At w r M S (.tup t) p a b c->p<=M->∃y A,oo 6 [6,7,8,9,10,11,12,13] nN 0 1 n k S (ĉ ns (.tup t) c p d v u s q m j i g f)=Z (.nx A y)|0,k,S,w,r,M,p,a,b,c,d,v,u,s,q,m,j,i,g,f,_,_,_,_,_,_=>⟨S,_,rfl⟩|n+1,k,S,w,r,M,p,a,b,c,d,v,u,s,q,m,j,i,g,f,hk,n0,n1,O,h,hp=>by obtain⟨y,w',r',M',p',a',b',c',o,z7,z8,z9,d',Q,I,H,E,e,h',O',e',m0,m1⟩:=TZ (d:=f) hl ht () O h hp n0 n1;obtain⟨S2,z,e2⟩:=QJ hl ht n (k+1) y w' r' M' p' a' b' c' o (.int (k:Nat)%7) z7 z8 z9 d' Q I H E () () () O' h' e';refine⟨S2,z,Eq.trans (K9 ?_) e2⟩;rw[show(0:Int)+(k:Int)*1=((k:Nat):Int)by omega];exact e
end J
open J
def QK(a:Ev):R è (dv [] (gm (cT (mS (fC .non) (eU (aw (Ø "uk"))) (cT (aw (Ø "*."))) (cT (bp (Ø "uk") (Ø "a")))))) U (Q1 (uOk (nq gE 1 (bq (fE 0) gA))))) (R QX (eU (aw (cT (bp (Ø "refused") (X 0))))) (X 4)) a=bo L:=by lk
def FP(a:Int%0)(s:a.length<=63):yd [.scr a]=.bl L%3:=by
 obtain⟨t,j,eT⟩:=EZ a s;have hT:=iK j;have g:=UU j;suffices h:∃f,yc [] [.scr a%7,U,U,U,U,U,U,U,U,U,U,U,U,U,U]=Z (.rt (.inl (.bl L)) f)by obtain⟨f,h⟩:=h;unfold yd QZ;show(match yc [] [.scr a%7,U,U,U,U,U,U,U,U,U,U,U,U,U,U]with|some (.rt (.inl d) _)=>Z (Rs.ok d)|_=>U)=_;rw[h]
 unfold yc;rw[av (É:=rg) (bx (a:=[.scr a%7,.tup t%7,U,U,U,U,U,U,U,U,U,U,U,U,U]) (ah (i:=.tup t) (gS fV (a:=.scr a) (b:=.int 0) rfl rfl eT) g) rfl)];have r:gE [] [.inl (.tup t)]=Z (.ok (.inr 0) ([]++[Ő (.tup t) [] (([]:á).length+1) (([]:á).length+2),.lst [],.lst []])):=fK (by show gD [] [.tup t%7,U]=_;unfold gD oq;rw[show ju [] [.tup t%7,U]=_ from cu (K1 (n:=[]) hT g (aB (aN rfl) rfl))];rfl);have u:=Qo (i:=.tup t) [];generalize p:([]:á)++[Ő (.tup t) [] (([]:á).length+1) (([]:á).length+2),.lst [],.lst []]=b at u r;have q:b.length=3:=by rw[<-p];rfl
 rw[av (É:=rf) (bx (a:=[.scr a%7,.tup t%7,0%6,U,U,U,U,U,U,U,U,U,U,U,U]) ((rL (a:=[.inl (.tup t)]) (aB (ah (i:=.tup t) rfl g) rfl) rfl).trans r) rfl)];have m:q9 b [.scr a%7,.tup t%7,0%6,U,U,U,U,U,U,U,U,U,U,U,U]=Z (.nx [.scr a%7,.tup t%7,0%6,3%6,U,U,U,U,U,U,U,U,U,U,U] (b++[.lst [.tup [.str "",.tup []]]])):=by refine bx (Ï:=.inr 3) ?_ rfl;unfold Bm kW;rw[aB (ah (i:=.tup [.str "",.tup []]) (io (ac rfl (ac rfl aq)) (by show 2<=100000;decide)) rfl) rfl];show Z (Ru.ok (aaX b.length) (b++[ā.lst [.tup [.str "",.tup []]]]))=_;rw[q]
 rw[av m,av (É:=q8) (a:=[.scr a%7,.tup t%7,0%6,3%6,.int 0%7,U,U,U,U,U,U,U,U,U,U]) (bx (ah (i:=.int 0) rfl rfl) rfl),av (É:=qZ) (a:=ĉ a (.tup t) 3 0 0 U U U U U U U U U) (bx (ah (i:=.int 0) rfl rfl) rfl)];obtain⟨n,y,w⟩:∃n:Nat,n<=12/\(aw (é Nv (bp (X 1) (é Lj (bp (X 12) (é fw (aw (Y 0)))))))) (û (b++[ā.lst [.tup [.str "",.tup []]]]) (ĉ a (.tup t) 3 0 0 U U U U U U U U U))=Z (.ok [.int (n:Nat)]):=by
  refine⟨if 1<(if a.length<12 then a.length else 12)then(if a.length<12 then a.length else 12)else 1,by split<;>split<;>omega,?_⟩;refine ac ((bR (ac (i:=.int 1) rfl (ac ((bR (ac (i:=.int 12) rfl (ac (i:=.int (a.length:Nat)) ?_ aq))).trans rfl) aq))).trans ?_) aq;·refine(bR (ac (i:=.scr a) rfl aq)).trans ?_;simp[fw]
  ·show Z (Rs.ok (N.int (if(if((a.length:Nat):Int)<12 then((a.length:Nat):Int)else 12)>1 then(if((a.length:Nat):Int)<12 then((a.length:Nat):Int)else 12)else 1)))=_;congr 3;split<;>split<;>split<;>split<;>omega
 obtain⟨f,k,e⟩:=QJ (ns:=a) s j n 0 (b++[ā.lst [.tup [.str "",.tup []]]]) (λ_=>b_ "") (λ_=>[]) 0 0 _ _ 3 0 U U U U U U U U U () () () ⟨λi v=>absurd v (),λi _=>⟨JS.nil,by simp⟩,by omega⟩ ⟨u.app _,by rw[Q_ (),q];rfl,by decide,by decide,by decide⟩ ();have o:qY (b++[ā.lst [.tup [.str "",.tup []]]]) (ĉ a (.tup t) 3 0 0 U U U U U U U U U)=Z (.nx k f):=FM (Qv (b:=n) w ()) e;rw[av o];exact⟨f,cu (ah (i:=.bl L) (QK _) rfl)⟩
def QL(b:QM h)(a:č q h e ν):SqF q h e ν:=by
 rcases a with(a|a)|a;·rcases b e with z|⟨o,d,z⟩<;>(rw[z]at a;cases a)
 ·exact .inl a
 ·exact .inr a
def walk{l:abS}{E:(Str->B%1)->O_->Prop}{n:y_->O_->Prop}{d:DefRec}{K:acb->d_}(p:l.most=Z 63)(i:d.params.defaults=[])(y:∀(w:y_)(h:O_),n w h->(K w.params).In h)(F:∀(w:y_)(g:Str->B%1)(m:O)(h:O_),(K w.params).In h->h.Ns E_ g->g d.name=Z (.ref m)->∃k:WE,(∀(b:h_)(u:B),abH b k ⟨[u],[]⟩ [("_law_script",u)])/\∀e:O_,(K w.params).In e->e.Ns E_ g->ö l.prog w (K w.params) g e Ĳ 14 m k ["_law_script"] (Ř (K w.params) yd 1)):ad4 s H E n l.row.toRowW d [] (λf o=>adM f o):=L2.walk_of (b:=63) (j:=14) (d:="_law_script") (CX:=λ_=>Ĳ) (sp:=λw=>Ř (K w.params) yd 1) p #v[] i ⟨rfl,by decide,by decide,rfl⟩ y F (λ_ _ a j q A hS=>⟨[.scr j],⟨.ref a,[],rfl,⟨a,rfl,QL A hS⟩,rfl⟩,rfl,by rw[FP j q];exactλv I _ r=>r⟩) λ_ _ _ _ _ z=>z
end G
variable{Κ:FD.N}{μ:Str}{Υ:Str%1}{τ:G.J.al}{k π:G.J.al%0}{Μ:FD.á}{Ξ Á:G.J.Sp%0}{Ã:Nat->Str}{Â:Nat->G.J.al%0}
open PySem.W
set_option maxRecDepth 100000 in
theorem PySem.Challenge.cw_notejar_k72_desks_holds : PySem.Challenge.rw_notejar_k72_desks.Holds := by
 refine G.hld fun b=>?_;refine PySem.W.holds_open (q:=G.VQ) (loose:=G.VL) (Xt:=fun s=>recOk [] s) (XP:=fun _ _=>True) (Yf:=Hook.obs (ad7 G.KK G.KA G.KA_ok)) (Ya:=Hook.val (ad7 G.KK G.KA G.KA_ok)) (YP:=Hook.says (ad7 G.KK G.KA G.KA_ok)) (N:=10704) G.left (Hook.of (ad7 G.KK G.KA G.KA_ok)) (Hook.keeps (ad7 G.KK G.KA G.KA_ok)) (fun _ _=>trivial) (fun _ _ _ _ _=>trivial) (by rfl) (by rfl) (by rfl) (fun s e=>recFacts_of e) (by rfl) (by first | assumption | decide +kernel) (by decide +kernel) G.hbr ?hw ?hc
 (case hw=>w_witness2)
 refine G.walk (l:=r9_) rfl rfl (fun w h Y=>PySem.W.kIn_of Y) ?F
 case F =>
  intro w g i h f d a;exact G.all_mk (C0:=44) (C1:=56) (C2:=68) (C3:=80) (C4:=92) (C5:=104) (C6:=116) (C8:=128) (CJ:=31) f d a (G.af 653) (G.af 660) (G.af 667) (G.af 679) (G.af 686) (G.af 698) (G.af 691) (G.af 135 "notejar.kinds" 342) (G.af 156 "notejar.names" 367) (G.af 161 "notejar.names" 367) (G.af 168 "notejar.names" 367) (G.af 173 "notejar.names" 367) (G.af 187 "notejar.names" 367) (G.af 717) (G.af 731) (G.af 710) (G.af 194 "notejar.names" 367) (G.af 419 "notejar.notes" 652) (G.af 441 "notejar.jars" 770) (G.af 436 "notejar.jars" 770) (G.af 142 "notejar.kinds" 342) (G.af 262 "notejar.asks" 505) (G.af 269 "notejar.asks" 505) (G.af 304 "notejar.giving" 565) (G.af 234 "notejar.paths" 469) (G.af 316 "notejar.giving" 565) (G.af 149 "notejar.kinds" 342) (G.af 309 "notejar.giving" 565) (G.af 384 "notejar.notes" 652) (G.af 431 "notejar.jars" 770) (G.af 448 "notejar.jars" 770) (G.af 180 "notejar.names" 367) (G.af 472 "notejar.jars" 770) (G.af 541 "notejar.comparing" 883) (G.af 534 "notejar.comparing" 883) (G.af 455 "notejar.jars" 770) (G.af 527 "notejar.comparing" 883) (G.af 520 "notejar.comparing" 883) (G.af 283 "notejar.asks" 505) (G.af 290 "notejar.asks" 505) (G.af 276 "notejar.asks" 505) (G.af 337 "notejar.giving" 565) (G.af 344 "notejar.giving" 565) (G.af 349 "notejar.giving" 565) (G.af 484 "notejar.jars" 770) (G.af 405 "notejar.notes" 652) (G.af 391 "notejar.notes" 652) (G.af 206 "notejar.names" 367) (G.af 199 "notejar.names" 367) (G.af 213 "notejar.names" 367) (G.af 220 "notejar.names" 367) (G.af 356 "notejar.notes" 652) (G.af 363 "notejar.notes" 652) (G.af 323 "notejar.giving" 565) (G.af 330 "notejar.giving" 565) (G.af 241 "notejar.paths" 469) (G.af 248 "notejar.paths" 469) (G.af 398 "notejar.notes" 652) (G.af 227 "notejar.names" 367) (G.af 297 "notejar.asks" 505) (G.af 370 "notejar.notes" 652) (G.af 377 "notejar.notes" 652) (G.af 412 "notejar.notes" 652) (G.af 477 "notejar.jars" 770) (G.af 426 "notejar.notes" 652) (G.af 467 "notejar.jars" 770) (G.af 255 "notejar.paths" 469) (G.af 503 "notejar.jars" 770) (G.af 496 "notejar.jars" 770) (G.af 513 "notejar.jars" 770) (G.af 508 "notejar.jars" 770) (G.af 491 "notejar.jars" 770) (G.af 738) (G.af 672) (G.af 705) (G.af 462 "notejar.jars" 770) (G.af 724) (FD.ck_mk (b:=1) (e:=642) (by lk) (by lk) (by lk) (by lk) (by lk) (by lk)) (G.am (G.amf 562 "notejar.desks" 918 561)) (G.am (G.amf 632 "notejar.desks" 918 631)) (G.amf 555 "notejar.desks" 918 554) ⟨by lk,by lk,by lk,by lk⟩ (G.am (G.amf 625 "notejar.desks" 918 624)) (G.am (G.amf 611 "notejar.desks" 918 610)) (G.am (G.amf 569 "notejar.desks" 918 568)) (G.am (G.amf 597 "notejar.desks" 918 596)) (G.am (G.amf 590 "notejar.desks" 918 589)) (G.am (G.amf 618 "notejar.desks" 918 617)) (G.am (G.amf 576 "notejar.desks" 918 575)) (G.am (G.amf 604 "notejar.desks" 918 603)) (G.am (G.amf 583 "notejar.desks" 918 582)) (G.af 743) (by lk) (by lk)
#print axioms PySem.Challenge.cw_notejar_k72_desks_holds
