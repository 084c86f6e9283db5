import PyProof.Rows.All
import Wide.All
import OpenK.AllK
import Wide.FinOn
import Lean
import PyProof.EqAt
import PyProof.EqKinds
import PyProof.TupleCall
import PySem.SetTable
import PyProof.SetKind
import PyProof.TupleKey
import PyProof.DictKinds
import PyProof.Rows.SetFrom
import PyProof.ZipIter
import KE.KIntText
import PyProof.EnumIter
import PyProof.Rows.SortStr
import PyProof.Rows.SortWalk
import PyProof.Rows.MinMaxN
import PyProof.ConsumeWalk
import PyProof.CollectWalk
import PyProof.WalksMore
import PyProof.CollectStr
import PyProof.Rows.SortShellK
import PyProof.Rows.SortRunsK
import PyProof.SeqI3
import KE.KSortKey
import PyProof.Rows.CallKwBuiltin
import PyProof.SumAny
import KE.KDictSum
import KE.KLam
import PyProof.StrLawsTight
import PyProof.Rows.StrDigits
import PySem.Challenge.RW_notejar_k76_again_and_shared
open Option renaming some->Z,none->U,map_eq_some_iff->YQ,all_some->Y9,map_some->Zp,isSome_iff_exists->ZV,bind_eq_some_iff->Z5,isSome_some->aef,getD_none->aeN
open PySem.Str renaming ofString->b_
open PySem renaming wpAny_bind->c_,Shared->ge,Value->B,wpAny_pure->i_,Addr->O,starEach->k_,Program->m_,Expr->s_,World->v_,wpAny->xy,Around->x_,model->B_,mainGlobals->E_,Heap->O_,foldedSetIterable->V_,behindInMarks->W_,backTo->Xv,wpAny_newObj_type->Xz,assignEach->XH,wpAny_call_entry->XN,wpAny_callSpecial?_slot->XO,wpAny_holding->XY,compareOp->XZ,wpAny_mono->X8,attributeBase->X_,swapsWith->Yb,wpAny_setState_of->Yc,Stmt->Yd,wpAny_setField_rec->Ym,FuncData->Yo,keywordEach->Yq,cellsFrom->Yu,bootBuiltins->Yz,wpAny_field->YF,wpAny_Call_Name_kw->YI,Scope->YJ,strKind->YL,wpAny_seqItems->YY,wpAny_attempt->YZ,wpAny_truthy_bool->Y7,backToKw->Y_,Keyword->Zc,Builtin->Zd,wpAny_typeNameOfWhole_valiter->Zf,rawInt->Zm,closureFor->Zn,wpAny_of_eq->Zs,wpAny_rule->Zw,codeAny_builtin->ZG,binaryOp->ZL,sysModules->ZQ,wpAny_setEntries_of->ZW,mem_of_lookup->ZX,wpAny_getItem_str_slice->ZZ,wpAny_askSetting->Z0,NameKind->Z1,Model->Z2,wpAny_typeOf->Z_,assign->ķ,wpAny_pyIter_list->aan,wpAny_fieldsOf->aat,call_meets->aau,wpAny_isInstance->aaC,wpAny_forIn_list->aaD,codeAny_mono->aaE,PassesOwn->aaG,wpAny_passesOwn->aaO,holding->ű,codeAny->ŭ,wpAny_pyIter_tuple->aaT,typeIs_str->aaU,sliceBounds->aa3,wpAny_storeSet_of->aa_,wpAny_setFlight_noneW->abp,wpAny_isOneOf_valiter->abq,wpAny_newList->aby,sizeLine_eq->abB,codeAny_call_builtin->abC,wpAny_loadPart'->abH,post_val_or_str->abI,letOwnedTupleGo->abJ,wpAny_setField->ab2,wpAny_call->ab3,isSubtype_stop->ab4,builtinsNs->ab5,IsPair->Ź,wpAny_pyIter_slot->acl,wpAny_loadPart_at->acm,wpAny_dictEntries->acn,wpAny_onRaise->acu,wpAny_handled->acv,wpAny_comprehension_free->acw,pyNext->K',plainId_quiet->acy,relayAll->acH,putSet_of->acI,pickOrder->acJ,noFill_tuple_add->acK,standAt->acZ,richCompare_meets_room->ac0,getItem->ac1,IsPart->ac7,wpAny_execs_nil->ade,wpAny_dictEpoch->adf,importedModules->adg,wpAny_eqIsQuiet_tuple->ado,wpAny_updateSeq_pair->adw,wpAny_throw->adx,wpAny_newTuple->ady,newFunctionEnv->adz,lookup_relabel_local->adA,Params->adC,tupleKind->adO,treeTable->adP,getMethod->adQ,callerA->adR,Fin->adT,evalArgs_none->adX,wpAny_standAt->ad5,swapsWithSole->ad6,swappedStores->ad7,setSearchFrom->ad8,seq_tuple_add->ad9,valueAt->aej,setNext->aek,notedBy->aem,list_append->aen,concat_meets->aeo,bindArgs->aep,Within->aeq,BindsTo->aex,typeOf->aeF,pyIter->aeG,Thread->aeI,Result->aeL,wpAny_letGo->aeQ,unsupported->aeR,subscripted->aeS,strIterType->aeT,seqIndex_of->aeU,IsZip->aeX,storeSet->afa,intText?->afb,call->afc,boot_len->afd,bindL->afe,bindC->aff,atKey->afg,Paired->afk,ItemsAre->afl,GenState->afm,CmpOp->afn
open PySem.W renaming Frag->d_,nsIn->X6,keepIn->Yv,findIn->YC,kia_one->YM,emptyDict->YV,hideAll_none->Y2,fnOf->Zb,instObj->Zo,kitOne->Zx,of_hideAll->aab,mg_of->aak,plainGet->aaF,hasDictIn->aba,codeIn->abb,plainGet_of->abP,hideAll_get->abQ,lookIn->ab6,callWith_K->ab7,plainOver->aco,methodObj->acp,isFn->ac2,cellsFrom_some->ac3,absHeap->ac4,takerIn->adh,OpenLaw->adi,methodCall_KW->adp,excIn->ad_,kitx_list->aer,kitx_dict->aes,handedIn->aeH,makesIn->ae0,hideAll->ae1,through->ae8,openEnds->afi,WalkO->afr,kHook->afv
open Bool renaming true->L,false->h_,and_eq_true->n_,false_ne_true->H_,and_eq_true_iff->Yl,eq_iff_iff->Yt,false_eq_true->YB,not_eq_true'->aar,or_false->acG,or_eq_true->ae6
open PySem.Heap renaming get?_push_of_some->l_,get?_push_size->rl,lt_size->uk,size_push->Xw,get?_update_self->YG,SameBut->YO,get?_update_ne->YS,get?_push_ne->Y8,get?_update_other->Zr,size_update->Z3,get?_none_of_le->abD,ExtBut->adD
open List renaming mem_cons_self->on,mem_cons_of_mem->pi,mem_cons->p_,mem_append_right->q_,getElem?_eq_getElem->r_,getElem?_eq_some_iff->u_,getElem?_append_left->w_,range->y_,getElem?_set_ne->z_,prefix_refl->C_,map_cons->F_,getElem?_append_right->G_,size_toArray->I_,not_mem_nil->J_,getElem?_set_self->K_,mem_map->L_,mem_of_getElem?->N_,getElem?_map->P_,mem_append_left->R_,mem_singleton->S_,length_map->T_,length_cons->Xu,pairwise_cons->Xy,mem_filter->XB,mem_append->XD,replicate->XF,append_assoc->XM,all_eq_true->XQ,length_set->XR,map_map->XS,lookup_cons->XV,getElem?_eq_none->X1,length_append->X2,mem_range->X5,length_filter_le->Yh,nodup_cons->Ys,map_append->YE,map_congr_left->YU,length_replicate->YX,all_cons->Y0,append_nil->Y1,length_eq_zero_iff->Y4,prefix_append->Za,any_cons->Ze,nodup_append->Zj,filter_cons_of_neg->Zk,drop_length->Zv,pairwise_iff_getElem->ZF,getD->ZK,getElem?_range->ZY,getElem_map->Z6,getElem?_replicate->Z7,filter_cons_of_pos->Z8,any_eq_true->Z9,lookup_append->aai,length_range->aaq,perm_append_singleton->aaA,getD_eq_getElem?_getD->aaB,getElem_mem->aaK,filterMap_cons->aaM,zip_cons_cons->aaX,set_cons_zero->aaY,set_cons_succ->aaZ,pairwise_singleton->aa7,lookup->aa8,take_of_length_le->abj,pairwise_map->abk,ext_getElem?->abl,length_drop->abv,countP_cons->abw,length->abG,foldl_cons->abN,filter_sublist->abR,map_nil->ab1,mem_filterMap->acf,length_eraseIdx_of_lt->acg,find?_eq_none->ach,filterMap_map->aci,filter_congr->act,getElem?_take_of_lt->acF,length_take->acU,getElem?_cons_succ->acV,ext_getElem->acW,cons_append->acX,range_succ_eq_map->adb,pairwise_lt_range->adc,range_succ->adk,of_mem_zip->adl,nil_append->adm,length_singleton->adt,dropLast_eq_take->adu,range_eq_range'->adH,pairwise_append->adI,not_lt->adJ,nodup_nil->adK,mem_iff_getElem->adL,lt_irrefl->adM,reverse_append->ad3,getElem_of_mem->ad4,lt_trans->aea,getElem_range->aeg,getElem?_drop->aeh,mapM_toArray->aeC,any_eq_false->aeD,le_antisymm->aeO,getElem_inj->aeP,length_nil->ae3,forIn_cons->ae4,find?_some->ae5
open Nat renaming le_refl->o_,ne_of_lt->D_,lt_of_lt_of_le->Q_,le_trans->Xx,zero_le->XG,lt_succ_of_lt->X7,le_of_ble_eq_true->Ye,eq_of_beq_eq_true->Yg,lt_irrefl->Yx,le_add_right->YR,lt_succ_self->Y3,le_of_lt_succ->ZN,zero_add->aaf,sub_self->aag,beq->Œ,le_succ->aaz,ne_of_gt->aaI,le_of_lt->aaJ,not_lt_zero->aaS,mod_lt->aaW,add_sub_cancel_left->aa6,succ_pos->abg,ne_of_beq_eq_false->abh,le_of_eq->abi,lt_trans->abZ,ble->M',lt_of_le_of_lt->ace,lt_trichotomy->acs,min_le_right->acT,add_left_cancel->ad2,succ_add->aeB
open PySem.Value renaming type->t_,none->M_,ref->U_,bool->XA,builtin->Y5,str->Zh,isStrOf->ZR,int->adS,isStrOf_shape->adY,float->aeV
open Decidable renaming decide->A_
open PySem.PyData renaming canLay0->XE,eqv->Yk,canLayAll0->YW,eqvAll->Zu,depthAll->ZI,depth->abc
open PySem.SetTable renaming insertAt->XJ,grown->Zy,insertAt_perm->ac6,tooFull->aeJ,advance->aeK,turns->aeW,layClean->afj,fits->afs,fill->afu
open PySem.Obj renaming mapSeq->XX,mk->YD,putSet->ZS,data_mapFields->aaV,isFreed_of_fields->ads,cls_mapFields->aeu
open PySem.Builtin.Str renaming occurrences->X0,strKind->Zq,glued->aew
open Option.some renaming inj->X3,injEq->aap
open PySem.Txt renaming startswith->X4,stripChars->Zg,partition->Zt,split->ZH,join->ſ,endswith->abV,slice_le->ac5,rfind->afw
open False renaming elim->X9
open PyProof.Rows renaming seqObj->Yi,callWith_type1->Yn,slot_tuple_getitem->Yp,SortSt->ZB,SortKind->ZM,callWith_builtin1->Z4,envOfC->ĸ,listUpdate_at->aal,get?_update_seq->aaR,listItems_at->abf,Keyed->ľ,size_push'->abu,boot_isinstance->abM,AllBare->X',seqEpoch_at->acr,arrOf->ţ,subscriptTail_builtinR->ac_,pairsOf_size->ada,entry_list_sort->adj,slot_list_sort->adF,failedOf->adG,pendingOf->adU,pairsOf->adV,oneLt'_eq->adW,lt_str->ad1,typeIs_bool'->aey,plain_sorted->aez,entry_sorted->aeA,strOf->aeY,kind_sorted->aeZ,StrsAre->ae9,IntsAre->ae_,IsTup->afp
open Array renaming length_toList->Yj,getElem?_eq_some_iff->Yw,size_map->ZC,getElem?_toList->ZD,mem_toList_iff->ZO,getD_eq_getD_getElem?->aas,getElem?_map->aa1,forIn_toList->aa2,toList_push->abn,append_assoc->aei,size_append->aeE,replicate->ae7
open PySem.F renaming slot_dict_valueiterator_next->Yr,plainAttrs_list->Zi,slot_tuple_iterator_next->Zz,called_set->aac,slot_list_append->aam,excBase_ValueError->aaw,args_dict_valueiterator_next_1->aax,entry_dict_valueiterator_next->aaH,args_tuple_add_2->aaN,entry_tuple_add->aa4,slot_str_split->aa9,slot_tuple_add->abd,slot_dict_get->abr,slot_dict_values_iter->abE,slot_zip_next->abK,args_tuple_iterator_next_1->abL,entry_tuple_iterator_next->abW,args_str_split_2->ab_,entry_str_split->acq,type_list_append->acB,slot_dict_values->acC,slot_str_partition->acM,slot_list_index->acN,slot_list_count->acO,plainAttrs_dict->acP,args_dict_get_3->acQ,entry_dict_get->ac8,args_list_append_2->adE,entry_list_append->adZ,slot_list_pop->aed
open Eq renaming trans->Yy
open PySem.ClassData renaming mk->YA
open Ne renaming symm->YH
open PySem.Data renaming fields->YK,dict->ZJ,cls->abe
open ForInStep renaming yield->YN
open PySem.Heap.SameBut renaming update->YT
open PySem.NameKind renaming free->Y6,cell->ZT
open Int renaming toNat_natCast->Zl,emod_lt_of_pos->aa0,emod_nonneg->abO
open PySem.Calls renaming spliced_cons->ZA,callWith_builtin->aad,spliced_nil->aao,evalArgs_plain->abF,Name_function_global->aca,call_function_entry->acj
open PySem.Builtin.Slice renaming slicePlaces->ZE,sliceAdjust->aaL,sliceApplied->acd
open True renaming intro->ZP
open PySem.Builtin.Tuple renaming tupleExact->ZU,tupleCompareSizes->abo,tupleItemsOf->acb
open PySem.Builtin.Dict_items renaming ownsTuple->aaj
open PySem.Around renaming under_plainId->aay,under->ac9
open PyProof.Rows.F renaming plain_set_update_loop->aa5,entry_set_update_loop->acS
open List.Pairwise renaming nil->abm
open LawfulBEq renaming eq_of_beq->abx
open PySem.SetTable.layClean renaming free->abz
open Function renaming comp->abA
open Sum renaming inl->P',inr->acY
open PySem.W.Fast renaming tw11892475500146522536->abT,tw10156331382660048174->abU,tw6613529449190102663->ab8
open PySem.Builtin.List renaming listExtendWith->abX,listSameRef->acD
open PySem.Builtin.SmallTypes renaming nextOf->ack,ownedTupleHandOut->ad0
open PySem.Shared renaming TypeIs->acz
open PySem.Paired renaming length->acA
open PySem.AutoSeq1 renaming sub_tuple_tuple->acE
open PySem.SetTable.probe renaming go->acL
open List.cons renaming injEq->adn
open PySem.StrLaws renaming glued_eq_join->adq
open PySem.SeqAt.EqAt renaming bool_bool->adB,str_int->aeb,int_str->aec
open List.Perm renaming swap->adN
open PySem.Code renaming quiet_builtin->aee,isFrame->aev
open PySem.pickOrder renaming go->ael
open PySem.SetTable.below renaming go->aet
open PySem.IsL renaming update->aeM
open PySem.Builtin.Frozenset renaming updateFrom->ae2,newClass->afo
open PySem.Walks renaming list->afh
open ForIn renaming forIn->afq
open PySem.Builtin.ObjectAttr renaming find->afx
open PyProof.Rows.IsTup renaming new->afy
set_option compiler.extract_closed false
set_option bootstrap.genMatcherCode false
set_option maxHeartbeats 4000000
set_option Elab.async false
open PySem.Challenge renaming pw_notejar_k76_again_and_shared->p9_,rw_notejar_k76_again_and_shared->r9_
local macro_rules|`(def $i $s:optDeclSig $v)=>`(noncomputable def $i $s:optDeclSig $v)
local macro_rules|`(tactic|lk)=>`(tactic|kernel_rfl)
local macro_rules|`(tactic|room)=>`(tactic|with_unfolding_all assumption)
set_option hygiene false
local macro_rules|`($x%0)=>`(List $x)|`($x%1)=>`(Option $x)|`($x%3)=>`(Z (.ok $x))|`($x%7)=>`(Z (.inl $x))|`($x%9)=>`(Z (.exc $x))|`($x%6)=>`(Z (.inr $x))|`($x%4)=>`(HA P w K mg base $x)|`($x%5)=>`(Ā P w K mg base $x)|`($x%8)=>`(k_ ($x ::s) a.env=(h_,eval $x a.env)::k_ s a.env)
local macro_rules|`(∅)=>`(by simp)
local macro_rules|`(#v[])=>`(by decide)
local macro_rules|`(tactic|dsimp!)=>`(tactic|dsimp only)
local macro_rules|`(tactic|simp![$a,*]$[$l:location]?)=>`(tactic|simp only[$a,*]$[$l:location]?)
local macro_rules|`(())=>`(by lia)
open Lean Parser.Term in
local macro_rules|`($f^$x)=>let f:=f.1;if f.isOfKind ``app then return f.modifyArg 1 (·.modifyArgs (·.push x.1)) else if f.isIdent||[``dotIdent,``explicit,``proj].contains f.getKind then `($(.mk f) $x) else Macro.throwUnsupported
local macro_rules(kind:=«term{_}»)|`({$a,*})=>`(⟨$a,*⟩)
set_option hygiene true
namespace TR
open PySem PySem.W
def lF(d:String->Zd%1)(p:m_)(w:v_)(a:Nat)(b:B%1):Nat->SharedT->aeI->SharedT%1|0,_,_=>U|n+1,s,t=>match ae8 t with|true=>Z s|false=>match stepOk a b t with|false=>U|true=>match stepT (denote d) p w s t with|some (f,e)=>lF d p w a b n f e|none=>U
def nq:Obj%0->BT->Nat->(BT×Nat)%1|[],t,n=>Z (t,n)|o::os,t,n=>match((t.ins n o).get n).isSome with|true=>nq os (t.ins n o) (n+1)|false=>U
def DJ(d:String->Zd%1)(p:m_)(w:v_)(N:Nat):ge%1:=(fencedOpening d p w N).bind λa=>match a.heap.isNs E_&&a.gens.size==0 with
 |true=>(nq a.heap.objs.toList .nil 0).bind λx=>(lF d p w a.heap.objs.size (a.heap.nsMap E_ "__annotations__") N ⟨x.1,x.2,a.heap.life,a.gens,a.drawn,a.toks,a.os⟩ (topStub p)).bind λb=>match staticsOk (adg p.main.body) a.heap b.abs.heap&&namesBound p b.abs.heap&&gensDone b.abs&&laidKept a.heap b.abs.heap with|true=>Z b.abs|false=>U
 |false=>U
def my{e:String->Zd%1}{p:m_}{w:v_}{a:Nat}{b:B%1}:∀(n:Nat)(s:SharedT)(t:aeI)(d:SharedT),lF e p w a b n s t=Z d->topRun e p w a b n s.abs t=Z d.abs|0,_,_,_,h=>by cases h|n+1,s,t,d,h=>by unfold lF at h;unfold topRun;cases g:ae8 t with|true=>rw[g]at h;cases h;rfl|false=>rw[g]at h;cases i:stepOk a b t with|false=>rw[i]at h;cases h|true=>rw[i]at h;cases f:stepT (denote e) p w s t with|none=>rw[f]at h;cases h|some x=>obtain⟨k,j⟩:=x;rw[f]at h;dsimp only at h⊢;rw[stepT_spec f];exact my n k j d h
def nu{a:Life}:∀(os:Obj%0)(t:BT)(n:Nat)(b:BT)(d:Nat),nq os t n=Z (b,d)->(ac4 b d a).objs=(ac4 t n a).objs++os.toArray|[],t,n,b,d,h=>by cases h;simp|o::os,t,n,b,d,h=>by unfold nq at h;cases e:((t.ins n o).get n).isSome with|false=>rw[e]at h;cases h|true=>rw[e]at h;rw[nu os _ _ _ _ h,absHeap_ins e];show(ac4 t n a).objs.push o++os.toArray=_;simp
variable{p:m_}{n:v_}{b:Nat}{f:ge}
def yf{q:String->Zd%1}(h:DJ q p n b=Z f):afi q p n b=Z f:=by unfold DJ at h;unfold afi;obtain⟨a,A,i⟩:=Z5.mp h;rw[A];show topFrom q p n b a=Z f;unfold topFrom;cases s:(a.heap.isNs E_&&a.gens.size==0)with|false=>rw[s]at i;cases i|true=>
 rw[s]at i;dsimp only at i⊢;obtain⟨⟨m,o⟩,z,y⟩:=Z5.mp i;obtain⟨I,w,v⟩:=Z5.mp y;have e:=nu (a:=a.heap.life) _ _ _ _ _ z;have H:ac4 m o a.heap.life=a.heap:=by
  have E:(ac4 m o a.heap.life).objs=a.heap.objs:=by rw[e];show(ac4 BT.nil 0 a.heap.life).objs++a.heap.objs.toList.toArray=_;simp[ac4,BT.list]
  obtain⟨⟨u,j⟩,g,d,k,os⟩:=a;show Heap.mk _ _=Heap.mk _ _;exact congrArg (Heap.mk · j) E
 have r:=my _ _ _ _ w;have D:(SharedT.abs ⟨m,o,a.heap.life,a.gens,a.drawn,a.toks,a.os⟩)=a:=by show Shared.mk (ac4 m o a.heap.life) _ _ _ _=a;rw[H]
 rw[D]at r;rw[r];exact v
variable{Q:Type}{Ò:Q}
def zn{a:String->Zd%1}{f:ge->Q}(h:(DJ a p n b).map f=Z Ò):(afi a p n b).map f=Z Ò:=by obtain⟨s,e,d⟩:=YQ.mp h;rw[yf e];exact congrArg Z d
def Sl(d:String->Zd%1)(p:m_)(w:v_)(a:Nat)(b:B%1)(n:Nat):SharedT->aeI->SharedT%1:=@Nat.rec (λ_=>SharedT->aeI->SharedT%1) (λ_ _=>U) (λ_ e s t=>@Bool.rec (λ_=>SharedT%1) (@Bool.rec (λ_=>SharedT%1) U (@Option.rec (SharedT×aeI) (λ_=>SharedT%1) U (λx=>e x.1 x.2) (abU (abT d) p w s t)) (ab8 a b t)) (Z s) (ae8 t)) n
def zo{d:String->Zd%1}{p:m_}{w:v_}{a:Nat}{b:B%1}:∀(n:Nat)(s:SharedT)(t:aeI),Sl d p w a b n s t=lF d p w a b n s t|0,_,_=>rfl|n+1,s,t=>by show@Bool.rec (λ_=>SharedT%1) (@Bool.rec (λ_=>SharedT%1) U (@Option.rec (SharedT×aeI) (λ_=>SharedT%1) U (λx=>Sl d p w a b n x.1 x.2) (abU (abT d) p w s t)) (ab8 a b t)) (Z s) (ae8 t)=_;unfold lF;rw[<-Fast.te10156331382660048174,<-Fast.te11892475500146522536,<-Fast.te6613529449190102663];cases ae8 t with|true=>rfl|false=>cases stepOk a b t with|false=>rfl|true=>cases stepT (denote d) p w s t with|none=>rfl|some x=>exact zo n x.1 x.2
def openQ(d:String->Zd%1)(p:m_)(w:v_)(N:Nat):ge%1:=(fencedOpening d p w N).bind λa=>match a.heap.isNs E_&&a.gens.size==0 with
 |true=>(nq a.heap.objs.toList .nil 0).bind λx=>(Sl d p w a.heap.objs.size (a.heap.nsMap E_ "__annotations__") N ⟨x.1,x.2,a.heap.life,a.gens,a.drawn,a.toks,a.os⟩ (topStub p)).bind λb=>match staticsOk (adg p.main.body) a.heap b.abs.heap&&namesBound p b.abs.heap&&gensDone b.abs&&laidKept a.heap b.abs.heap with|true=>Z b.abs|false=>U
 |false=>U
def openQ_map{a:String->Zd%1}{f:ge->Q}(h:(openQ a p n b).map f=Z Ò):(afi a p n b).map f=Z Ò:=by refine zn ?_;unfold openQ at h;unfold DJ;simp![zo]at h;exact h
end TR
variable{p:m_}{n:v_}{b:Nat}{f:ge}{Q:Type}{Ò:Q}
namespace G
open PySem PySem.W PyProof.Rows
def hT(i:Nat):Yd:=p9_.main.body.getD i (.Pass ⟨0,0,0,0⟩)
def hA(s:Yd):Arguments:=match s with|.FunctionDef _ a _ _ _ _ _ _ _ _=>a|_=>{posonlyargs:=[],args:=[],vararg:=U,kwonlyargs:=[],kw_defaults:=[],kwarg:=U,defaults:=[]}
def hB(s:Yd):Yd%0:=match s with|.FunctionDef _ _ b _ _ _ _ _ _ _=>b|_=>[]
def hS(s:Yd):YJ:=match s with|.FunctionDef _ _ _ _ _ _ a _ _ _=>a|_=>{kind:=.function,names:=[],isGenerator:=h_,isCoroutine:=h_}
noncomputable abbrev kS(s:String)(t:Nat):B:=.str (b_ s) t
noncomputable abbrev kR(a:Nat):B:=.ref a
noncomputable abbrev kI(i:Int)(t:Nat):B:=.int i t
noncomputable abbrev kE(P:adC)(s:String)(t:Nat)(v:B):DictEntry:=⟨PySem.PyData.keyHash P (b_ s),.str (b_ s) t,v⟩
def kF(x:String)(i:Nat)(m:String)(t c:Nat):Obj:=YD (t_ "function") U (Data.func (fnOf (b_ x) (b_ x) (hA (hT i)) (hB (hT i)) (hS (hT i)) .none M_ M_ (kS m t) U (kR c) M_)) #[]
def Ţ(x:String)(i c:Nat):=kF x i "law_notejar_k76_again_and_shared" 1134 c
def hC(s:Yd)(j:Nat):Yd:=match s with|.ClassDef _ _ _ b _ _ _ _ _ _ _=>b.getD j (.Pass ⟨0,0,0,0⟩)|_=>.Pass ⟨0,0,0,0⟩
def kM(x q:String)(i j:Nat)(m:String)(t c:Nat):Obj:=YD (t_ "function") U (Data.func (fnOf (b_ x) (b_ q) (hA (hC (hT i) j)) (hB (hC (hT i) j)) (hS (hC (hT i) j)) .none M_ M_ (kS m t) U (kR c) M_)) #[]
def kC(x:String)(a b c:Nat)(d e f:Int)(g:Nat)(h:Int)(i j:Nat)(k l:Int)(m:Nat):Obj:=YD (t_ "code") U (YK #[kS x a,kS x b,kS "/claim/cut.py" c,kI d 0,kI e 0,kI 0 0,kI 0 0,kI f 0,kR g,XA L,kI h 0,kR i,M_,M_,M_,kR j,kI k 0,kI l 0,kS "/claim/cut.py" m]) #[]
def kD(x:String)(a b c:Nat)(d e f:Int)(g:Nat)(h:Int)(i u v j:Nat)(k l:Int)(m:Nat):Obj:=YD (t_ "code") U (YK #[kS x a,kS x b,kS "/claim/cut.py" c,kI d 0,kI e 0,kI 0 0,kI 0 0,kI f 0,kR g,XA L,kI h 0,kR i,M_,kR u,kR v,kR j,kI k 0,kI l 0,kS "/claim/cut.py" m]) #[]
def KKa(P:adC):Frag:=[(2,YD M_ U (ZJ #[]) #[]),(3,YD (t_ "dict") U (ZJ #[kE P "__name__" 165 (kS "law_notejar_k76_again_and_shared" 1134),kE P "__doc__" 166 M_,kE P "__package__" 167 M_,kE P "__loader__" 168 (Y5 "__main__.__loader__#opaque"),kE P "__spec__" 169 M_,kE P "__annotations__" 170 (kR 6),kE P "__builtins__" 171 (kR 4),kE P "__file__" 173 (kS "/claim/cut.py" 172),kE P "__cached__" 174 M_,kE P "_wall" 193 (kR 21),kE P "JarError" 213 (kR 31),kE P "NoName" 229 (kR 44),kE P "NoTable" 245 (kR 56),kE P "NoPath" 261 (kR 68),kE P "NoAsk" 277 (kR 80),kE P "NoNote" 293 (kR 92),kE P "NoJar" 309 (kR 104),kE P "NoNumber" 325 (kR 116),kE P "NoStep" 341 (kR 128),kE P "is_text_of" 349 (kR 135),kE P "is_whole_number" 358 (kR 142),kE P "is_tuple_of" 366 (kR 149),kE P "FIGURES" 370 (kS "0123456789" 369),kE P "LABEL_SIGNS" 372 (kS "abcdefghijklmnopqrstuvwxyz0123456789-" 371),kE P "LONGEST_LABEL" 374 (kI 8 373),kE P "MOST_LABELS" 376 (kI 5 375),kE P "MOST_RULES" 378 (kI 8 377),kE P "is_label" 385 (kR 156),kE P "is_name" 391 (kR 161),kE P "is_rule" 398 (kR 168),kE P "is_table" 404 (kR 173),kE P "need_name" 411 (kR 180),kE P "need_table" 418 (kR 187),kE P "lies_within" 426 (kR 194),kE P "ends_longest_first" 432 (kR 199),kE P "behind_first_dot" 439 (kR 206),kE P "is_told_open" 447 (kR 213),kE P "find_open_end" 457 (kR 220),kE P "find_own_end" 468 (kR 227),kE P "PATH_SIGNS" 472 (kS "abcdefghijklmnopqrstuvwxyz0123456789-_./" 471),kE P "LONGEST_PATH" 474 (kI 20 473),kE P "is_path" 481 (kR 234),kE P "need_path" 488 (kR 241),kE P "folder" 496 (kR 248),kE P "lies_under" 504 (kR 255),kE P "LAST_MOMENT" 508 (kI 9999 507),kE P "ASK_SAFE" 510 (kI 0 509),kE P "ASK_HOUSE" 512 (kI 1 511),kE P "ASK_PATH" 514 (kI 2 513),kE P "ASK_ORIGIN" 516 (kI 3 515),kE P "ASK_PARTS" 518 (kI 4 517),kE P "is_moment" 525 (kR 262),kE P "is_moment_or_none" 532 (kR 269),kE P "need_moment" 539 (kR 276),kE P "is_ask" 546 (kR 283),kE P "need_ask" 553 (kR 290),kE P "comes_from_near" 564 (kR 297),kE P "NOTE_NAME_SIGNS" 568 (kS "abcdefghijklmnopqrstuvwxyzABCDEFGHIJKLMNOPQRSTUVWXYZ0123456789-_" 567),kE P "LONGEST_NOTE_NAME" 570 (kI 10 569),kE P "NO_WORTH_SIGNS" 572 (kS ";,=" 571),kE P "LONGEST_WORTH" 574 (kI 12 573),kE P "MOST_FIGURES" 576 (kI 4 575),kE P "GIVEN_NAME" 578 (kI 0 577),kE P "GIVEN_WORTH" 580 (kI 1 579),kE P "GIVEN_HOUSE" 582 (kI 2 581),kE P "GIVEN_PATH" 584 (kI 3 583),kE P "GIVEN_UNTIL" 586 (kI 4 585),kE P "GIVEN_LASTS" 588 (kI 5 587),kE P "GIVEN_SAFE" 590 (kI 6 589),kE P "GIVEN_REACH" 592 (kI 7 591),kE P "GIVEN_PARTS" 594 (kI 8 593),kE P "is_note_name" 601 (kR 304),kE P "is_worth" 607 (kR 309),kE P "is_reach" 614 (kR 316),kE P "is_given" 621 (kR 323),kE P "need_given" 628 (kR 330),kE P "is_written_moment" 635 (kR 337),kE P "what_is_told" 645 (kR 344),kE P "read_given" 651 (kR 349),kE P "NOTE_NAME" 655 (kI 0 654),kE P "NOTE_WORTH" 657 (kI 1 656),kE P "NOTE_HOUSE" 659 (kI 2 658),kE P "NOTE_EXACT" 661 (kI 3 660),kE P "NOTE_PATH" 663 (kI 4 662),kE P "NOTE_ENDS" 665 (kI 5 664),kE P "NOTE_SAFE" 667 (kI 6 666),kE P "NOTE_REACH" 669 (kI 7 668),kE P "NOTE_MADE" 671 (kI 8 670),kE P "NOTE_USED" 673 (kI 9 672),kE P "NOTE_PARTS" 675 (kI 10 674),kE P "is_open" 683 (kR 356),kE P "is_exact" 693 (kR 363),kE P "keeps_its_mark" 703 (kR 370),kE P "why_refused" 713 (kR 377),kE P "is_note" 720 (kR 384),kE P "house_for" 728 (kR 391),kE P "path_for" 736 (kR 398),kE P "end_for" 744 (kR 405),kE P "made" 754 (kR 412),kE P "key" 761 (kR 419),kE P "has_ended" 769 (kR 426),kE P "is_for" 777 (kR 433),kE P "goes" 787 (kR 440),kE P "MOST_NOTES" 791 (kI 20 790),kE P "is_jar" 797 (kR 445),kE P "is_by_made" 803 (kR 450),kE P "has_no_key_twice" 809 (kR 455),kE P "need_jar" 816 (kR 462),kE P "need_no_more_than_a_jar_has" 823 (kR 469),kE P "swept" 831 (kR 476),kE P "without_ended" 837 (kR 481),kE P "forgotten" 843 (kR 486),kE P "put" 849 (kR 491),kE P "read_what_is_given" 861 (kR 498),kE P "verdict" 873 (kR 505),kE P "word_of" 879 (kR 510),kE P "shadows" 888 (kR 517),kE P "taken" 894 (kR 522),kE P "take_in" 900 (kR 527),kE P "changed" 908 (kR 532),kE P "merged" 919 (kR 539),kE P "place_of" 926 (kR 546),kE P "later_of" 934 (kR 553),kE P "when_last" 941 (kR 560),kE P "Desk" 1076 (kR 661),kE P "group_of" 1087 (kR 672),kE P "groups" 1093 (kR 677),kE P "MOST_ASKS" 1097 (kI 9 1096),kE P "by_group" 1103 (kR 682),kE P "keys_of_group" 1109 (kR 687),kE P "ending" 1115 (kR 692),kE P "is_list_of_asks" 1121 (kR 697),kE P "along" 1127 (kR 702),kE P "asks_of" 1133 (kR 707),kE P "_law_cell" 1143 (kR 714),kE P "_law_drawn" 1153 (kR 721),kE P "_law_name" 1162 (kR 728),kE P "_law_table" 1168 (kR 733),kE P "_law_path" 1177 (kR 740),kE P "_law_ask" 1186 (kR 747),kE P "_law_jar" 1192 (kR 752),kE P "_law_given" 1209 (kR 759),kE P "_law_text" 1227 (kR 766),kE P "_law_step" 1242 (kR 773),kE P "_law_told" 1256 (kR 780),kE P "_law_refuses" 1265 (kR 787),kE P "law" 1271 (kR 792)] 147) #[]),(20,kD "_wall" 187 188 189 1 1 3 15 181 16 17 18 19 191 1 192),(30,YD (t_ "dict") U (ZJ #[kE P "__module__" 203 (kS "notejar.errors" 194),kE P "__firstlineno__" 207 (kI 5 206),kE P "__static_attributes__" 208 (kR 29),kE P "__weakref__" 210 (kR 32),kE P "__doc__" 211 M_] 3) #[]),(31,YD (t_ "type") U (abe (YA (b_ "JarError") [t_ "ValueError"] [kR 31,t_ "ValueError",t_ "Exception",t_ "BaseException",t_ "object"] 30 (b_ "JarError") L [] [kR 44,kR 56,kR 68,kR 80,kR 92,kR 104,kR 116,kR 128] h_ U h_)) #[Z (kR 22),U,Z (kS "JarError" 196),Z (kS "JarError" 204),Z (Y5 "ValueError.__new__"),Z (XA L)]),(43,YD (t_ "dict") U (ZJ #[kE P "__module__" 221 (kS "notejar.errors" 194),kE P "__firstlineno__" 225 (kI 7 224),kE P "__static_attributes__" 226 (kR 42),kE P "__doc__" 227 M_] 2) #[]),(44,YD (t_ "type") U (abe (YA (b_ "NoName") [kR 31] [kR 44,kR 31,t_ "ValueError",t_ "Exception",t_ "BaseException",t_ "object"] 43 (b_ "NoName") L [] [] h_ U h_)) #[Z (kR 35),U,Z (kS "NoName" 214),Z (kS "NoName" 222),Z (Y5 "ValueError.__new__"),Z (XA L)]),(55,YD (t_ "dict") U (ZJ #[kE P "__module__" 237 (kS "notejar.errors" 194),kE P "__firstlineno__" 241 (kI 9 240),kE P "__static_attributes__" 242 (kR 54),kE P "__doc__" 243 M_] 2) #[]),(56,YD (t_ "type") U (abe (YA (b_ "NoTable") [kR 31] [kR 56,kR 31,t_ "ValueError",t_ "Exception",t_ "BaseException",t_ "object"] 55 (b_ "NoTable") L [] [] h_ U h_)) #[Z (kR 47),U,Z (kS "NoTable" 230),Z (kS "NoTable" 238),Z (Y5 "ValueError.__new__"),Z (XA L)]),(67,YD (t_ "dict") U (ZJ #[kE P "__module__" 253 (kS "notejar.errors" 194),kE P "__firstlineno__" 257 (kI 11 256),kE P "__static_attributes__" 258 (kR 66),kE P "__doc__" 259 M_] 2) #[]),(68,YD (t_ "type") U (abe (YA (b_ "NoPath") [kR 31] [kR 68,kR 31,t_ "ValueError",t_ "Exception",t_ "BaseException",t_ "object"] 67 (b_ "NoPath") L [] [] h_ U h_)) #[Z (kR 59),U,Z (kS "NoPath" 246),Z (kS "NoPath" 254),Z (Y5 "ValueError.__new__"),Z (XA L)]),(79,YD (t_ "dict") U (ZJ #[kE P "__module__" 269 (kS "notejar.errors" 194),kE P "__firstlineno__" 273 (kI 13 272),kE P "__static_attributes__" 274 (kR 78),kE P "__doc__" 275 M_] 2) #[]),(80,YD (t_ "type") U (abe (YA (b_ "NoAsk") [kR 31] [kR 80,kR 31,t_ "ValueError",t_ "Exception",t_ "BaseException",t_ "object"] 79 (b_ "NoAsk") L [] [] h_ U h_)) #[Z (kR 71),U,Z (kS "NoAsk" 262),Z (kS "NoAsk" 270),Z (Y5 "ValueError.__new__"),Z (XA L)]),(91,YD (t_ "dict") U (ZJ #[kE P "__module__" 285 (kS "notejar.errors" 194),kE P "__firstlineno__" 289 (kI 15 288),kE P "__static_attributes__" 290 (kR 90),kE P "__doc__" 291 M_] 2) #[]),(92,YD (t_ "type") U (abe (YA (b_ "NoNote") [kR 31] [kR 92,kR 31,t_ "ValueError",t_ "Exception",t_ "BaseException",t_ "object"] 91 (b_ "NoNote") L [] [] h_ U h_)) #[Z (kR 83),U,Z (kS "NoNote" 278),Z (kS "NoNote" 286),Z (Y5 "ValueError.__new__"),Z (XA L)]),(103,YD (t_ "dict") U (ZJ #[kE P "__module__" 301 (kS "notejar.errors" 194),kE P "__firstlineno__" 305 (kI 17 304),kE P "__static_attributes__" 306 (kR 102),kE P "__doc__" 307 M_] 2) #[]),(104,YD (t_ "type") U (abe (YA (b_ "NoJar") [kR 31] [kR 104,kR 31,t_ "ValueError",t_ "Exception",t_ "BaseException",t_ "object"] 103 (b_ "NoJar") L [] [] h_ U h_)) #[Z (kR 95),U,Z (kS "NoJar" 294),Z (kS "NoJar" 302),Z (Y5 "ValueError.__new__"),Z (XA L)]),(115,YD (t_ "dict") U (ZJ #[kE P "__module__" 317 (kS "notejar.errors" 194),kE P "__firstlineno__" 321 (kI 19 320),kE P "__static_attributes__" 322 (kR 114),kE P "__doc__" 323 M_] 2) #[]),(116,YD (t_ "type") U (abe (YA (b_ "NoNumber") [kR 31] [kR 116,kR 31,t_ "ValueError",t_ "Exception",t_ "BaseException",t_ "object"] 115 (b_ "NoNumber") L [] [] h_ U h_)) #[Z (kR 107),U,Z (kS "NoNumber" 310),Z (kS "NoNumber" 318),Z (Y5 "ValueError.__new__"),Z (XA L)]),(127,YD (t_ "dict") U (ZJ #[kE P "__module__" 333 (kS "notejar.errors" 194),kE P "__firstlineno__" 337 (kI 21 336),kE P "__static_attributes__" 338 (kR 126),kE P "__doc__" 339 M_] 2) #[]),(128,YD (t_ "type") U (abe (YA (b_ "NoStep") [kR 31] [kR 128,kR 31,t_ "ValueError",t_ "Exception",t_ "BaseException",t_ "object"] 127 (b_ "NoStep") L [] [] h_ U h_)) #[Z (kR 119),U,Z (kS "NoStep" 326),Z (kS "NoStep" 334),Z (Y5 "ValueError.__new__"),Z (XA L)]),(134,kC "is_text_of" 344 345 346 24 4 3 131 181 132 133 347 24 348),(135,kF "is_text_of" 12 "notejar.kinds" 342 134),(141,kD "is_whole_number" 350 351 352 30 3 3 136 181 137 138 139 140 356 30 357),(142,kF "is_whole_number" 13 "notejar.kinds" 342 141),(148,kD "is_tuple_of" 359 360 361 34 2 3 143 181 144 145 146 147 364 34 365),(149,kF "is_tuple_of" 14 "notejar.kinds" 342 148),(155,kD "is_label" 379 380 381 42 1 3 150 181 151 152 153 154 383 42 384),(156,kF "is_label" 21 "notejar.names" 367 155),(160,kC "is_name" 386 387 388 46 1 3 157 181 158 159 389 46 390),(161,kF "is_name" 22 "notejar.names" 367 160),(167,kD "is_rule" 392 393 394 53 1 3 162 181 163 164 165 166 396 53 397),(168,kF "is_rule" 23 "notejar.names" 367 167),(172,kC "is_table" 399 400 401 61 1 3 169 181 170 171 402 61 403),(173,kF "is_table" 24 "notejar.names" 367 172),(179,kD "need_name" 405 406 407 67 1 3 174 181 175 176 177 178 409 67 410),(180,kF "need_name" 25 "notejar.names" 367 179),(186,kD "need_table" 412 413 414 70 1 3 181 181 182 183 184 185 416 70 417),(187,kF "need_table" 26 "notejar.names" 367 186),(193,kD "lies_within" 419 420 421 73 2 3 188 181 189 190 191 192 424 73 425),(194,kF "lies_within" 27 "notejar.names" 367 193),(198,kC "ends_longest_first" 427 428 429 75 1 3 195 181 196 197 430 75 431),(199,kF "ends_longest_first" 28 "notejar.names" 367 198),(205,kD "behind_first_dot" 433 434 435 78 1 3 200 181 201 202 203 204 437 78 438),(206,kF "behind_first_dot" 29 "notejar.names" 367 205),(212,kD "is_told_open" 440 441 442 80 2 3 207 181 208 209 210 211 445 80 446),(213,kF "is_told_open" 30 "notejar.names" 367 212),(219,kD "find_open_end" 448 449 450 84 2 3 214 181 215 216 217 218 455 84 456),(220,kF "find_open_end" 31 "notejar.names" 367 219),(226,kD "find_own_end" 458 459 460 93 2 3 221 181 222 223 224 225 466 93 467),(227,kF "find_own_end" 32 "notejar.names" 367 226),(233,kD "is_path" 475 476 477 103 1 3 228 181 229 230 231 232 479 103 480),(234,kF "is_path" 36 "notejar.paths" 469 233),(240,kD "need_path" 482 483 484 105 1 3 235 181 236 237 238 239 486 105 487),(241,kF "need_path" 37 "notejar.paths" 469 240),(247,kD "folder" 489 490 491 108 1 3 242 181 243 244 245 246 494 108 495),(248,kF "folder" 38 "notejar.paths" 469 247),(254,kD "lies_under" 497 498 499 114 2 3 249 181 250 251 252 253 502 114 503),(255,kF "lies_under" 39 "notejar.paths" 469 254),(261,kD "is_moment" 519 520 521 127 1 3 256 181 257 258 259 260 523 127 524),(262,kF "is_moment" 47 "notejar.asks" 505 261),(268,kD "is_moment_or_none" 526 527 528 129 1 3 263 181 264 265 266 267 530 129 531),(269,kF "is_moment_or_none" 48 "notejar.asks" 505 268),(275,kD "need_moment" 533 534 535 131 1 3 270 181 271 272 273 274 537 131 538),(276,kF "need_moment" 49 "notejar.asks" 505 275),(282,kD "is_ask" 540 541 542 134 1 3 277 181 278 279 280 281 544 134 545),(283,kF "is_ask" 50 "notejar.asks" 505 282),(289,kD "need_ask" 547 548 549 138 1 3 284 181 285 286 287 288 551 138 552),(290,kF "need_ask" 51 "notejar.asks" 505 289),(296,kD "comes_from_near" 554 555 556 141 2 3 291 181 292 293 294 295 562 141 563),(297,kF "comes_from_near" 52 "notejar.asks" 505 296),(303,kD "is_note_name" 595 596 597 163 1 3 298 181 299 300 301 302 599 163 600),(304,kF "is_note_name" 68 "notejar.giving" 565 303),(308,kC "is_worth" 602 603 604 165 1 3 305 181 306 307 605 165 606),(309,kF "is_worth" 69 "notejar.giving" 565 308),(315,kD "is_reach" 608 609 610 169 1 3 310 181 311 312 313 314 612 169 613),(316,kF "is_reach" 70 "notejar.giving" 565 315),(322,kD "is_given" 615 616 617 171 1 3 317 181 318 319 320 321 619 171 620),(323,kF "is_given" 71 "notejar.giving" 565 322),(329,kD "need_given" 622 623 624 175 1 3 324 181 325 326 327 328 626 175 627),(330,kF "need_given" 72 "notejar.giving" 565 329),(336,kD "is_written_moment" 629 630 631 178 1 3 331 181 332 333 334 335 633 178 634),(337,kF "is_written_moment" 73 "notejar.giving" 565 336),(343,kD "what_is_told" 636 637 638 180 1 3 338 181 339 340 341 342 643 180 644),(344,kF "what_is_told" 74 "notejar.giving" 565 343),(348,kC "read_given" 646 647 648 197 1 3 345 181 346 347 649 197 650),(349,kF "read_given" 75 "notejar.giving" 565 348),(355,kD "is_open" 676 677 678 222 2 3 350 181 351 352 353 354 681 222 682),(356,kF "is_open" 88 "notejar.notes" 652 355),(362,kD "is_exact" 684 685 686 224 3 3 357 181 358 359 360 361 691 224 692),(363,kF "is_exact" 89 "notejar.notes" 652 362),(369,kD "keeps_its_mark" 694 695 696 229 3 3 364 181 365 366 367 368 701 229 702),(370,kF "keeps_its_mark" 90 "notejar.notes" 652 369),(376,kD "why_refused" 704 705 706 236 3 3 371 181 372 373 374 375 711 236 712),(377,kF "why_refused" 91 "notejar.notes" 652 376),(383,kD "is_note" 714 715 716 252 1 3 378 181 379 380 381 382 718 252 719),(384,kF "is_note" 92 "notejar.notes" 652 383),(390,kD "house_for" 721 722 723 258 2 3 385 181 386 387 388 389 726 258 727),(391,kF "house_for" 93 "notejar.notes" 652 390),(397,kD "path_for" 729 730 731 262 2 3 392 181 393 394 395 396 734 262 735),(398,kF "path_for" 94 "notejar.notes" 652 397),(404,kD "end_for" 737 738 739 266 2 3 399 181 400 401 402 403 742 266 743),(405,kF "end_for" 95 "notejar.notes" 652 404),(411,kD "made" 745 746 747 270 4 3 406 181 407 408 409 410 752 270 753),(412,kF "made" 96 "notejar.notes" 652 411),(418,kD "key" 755 756 757 278 1 3 413 181 414 415 416 417 759 278 760),(419,kF "key" 97 "notejar.notes" 652 418),(425,kD "has_ended" 762 763 764 280 2 3 420 181 421 422 423 424 767 280 768),(426,kF "has_ended" 98 "notejar.notes" 652 425),(432,kD "is_for" 770 771 772 282 2 3 427 181 428 429 430 431 775 282 776)]
def KKb(P:adC):Frag:=[(433,kF "is_for" 99 "notejar.notes" 652 432),(439,kD "goes" 778 779 780 286 4 3 434 181 435 436 437 438 785 286 786),(440,kF "goes" 100 "notejar.notes" 652 439),(444,kC "is_jar" 792 793 794 296 1 3 441 181 442 443 795 296 796),(445,kF "is_jar" 103 "notejar.jars" 788 444),(449,kC "is_by_made" 798 799 800 302 1 3 446 181 447 448 801 302 802),(450,kF "is_by_made" 104 "notejar.jars" 788 449),(454,kC "has_no_key_twice" 804 805 806 304 1 3 451 181 452 453 807 304 808),(455,kF "has_no_key_twice" 105 "notejar.jars" 788 454),(461,kD "need_jar" 810 811 812 307 1 3 456 181 457 458 459 460 814 307 815),(462,kF "need_jar" 106 "notejar.jars" 788 461),(468,kD "need_no_more_than_a_jar_has" 817 818 819 310 1 3 463 181 464 465 466 467 821 310 822),(469,kF "need_no_more_than_a_jar_has" 107 "notejar.jars" 788 468),(475,kD "swept" 824 825 826 313 2 3 470 181 471 472 473 474 829 313 830),(476,kF "swept" 108 "notejar.jars" 788 475),(480,kC "without_ended" 832 833 834 317 2 3 477 181 478 479 835 317 836),(481,kF "without_ended" 109 "notejar.jars" 788 480),(485,kC "forgotten" 838 839 840 319 2 3 482 181 483 484 841 319 842),(486,kF "forgotten" 110 "notejar.jars" 788 485),(490,kC "put" 844 845 846 323 2 3 487 181 488 489 847 323 848),(491,kF "put" 111 "notejar.jars" 788 490),(497,kD "read_what_is_given" 850 851 852 329 5 3 492 181 493 494 495 496 859 329 860),(498,kF "read_what_is_given" 112 "notejar.jars" 788 497),(504,kD "verdict" 862 863 864 336 5 3 499 181 500 501 502 503 871 336 872),(505,kF "verdict" 113 "notejar.jars" 788 504),(509,kC "word_of" 874 875 876 339 5 3 506 181 507 508 877 339 878),(510,kF "word_of" 114 "notejar.jars" 788 509),(516,kD "shadows" 880 881 882 349 3 3 511 181 512 513 514 515 886 349 887),(517,kF "shadows" 115 "notejar.jars" 788 516),(521,kC "taken" 889 890 891 355 5 3 518 181 519 520 892 355 893),(522,kF "taken" 116 "notejar.jars" 788 521),(526,kC "take_in" 895 896 897 362 5 3 523 181 524 525 898 362 899),(527,kF "take_in" 117 "notejar.jars" 788 526),(531,kC "changed" 903 904 905 372 2 3 528 181 529 530 906 372 907),(532,kF "changed" 119 "notejar.comparing" 901 531),(538,kD "merged" 909 910 911 381 2 3 533 181 534 535 536 537 917 381 918),(539,kF "merged" 120 "notejar.comparing" 901 538),(545,kD "place_of" 920 921 922 392 1 3 540 181 541 542 543 544 924 392 925),(546,kF "place_of" 121 "notejar.comparing" 901 545),(552,kD "later_of" 927 928 929 394 2 3 547 181 548 549 550 551 932 394 933),(553,kF "later_of" 122 "notejar.comparing" 901 552),(559,kD "when_last" 935 936 937 398 1 3 554 181 555 556 557 558 939 398 940),(560,kF "when_last" 123 "notejar.comparing" 901 559),(573,YD (t_ "code") U (YK #[kS "__init__" 956,kS "Desk.__init__" 957,kS "/claim/cut.py" 958,kI 403 0,kI 2 0,kI 0 0,kI 0 0,kI 3 0,kR 568,XA L,kI 181 0,kR 569,M_,kR 570,kR 571,kR 572,kI 961 0,kI 403 0,kS "/claim/cut.py" 962]) #[]),(574,kM "__init__" "Desk.__init__" 125 0 "notejar.desks" 942 573),(580,YD (t_ "code") U (YK #[kS "notes" 964,kS "Desk.notes" 965,kS "/claim/cut.py" 966,kI 410 0,kI 1 0,kI 0 0,kI 0 0,kI 3 0,kR 575,XA L,kI 181 0,kR 576,M_,kR 577,kR 578,kR 579,kI 968 0,kI 410 0,kS "/claim/cut.py" 969]) #[]),(581,kM "notes" "Desk.notes" 125 1 "notejar.desks" 942 580),(587,YD (t_ "code") U (YK #[kS "do_step" 971,kS "Desk.do_step" 972,kS "/claim/cut.py" 973,kI 413 0,kI 3 0,kI 0 0,kI 0 0,kI 3 0,kR 582,XA L,kI 181 0,kR 583,M_,kR 584,kR 585,kR 586,kI 977 0,kI 413 0,kS "/claim/cut.py" 978]) #[]),(588,kM "do_step" "Desk.do_step" 125 2 "notejar.desks" 942 587),(594,YD (t_ "code") U (YK #[kS "give" 980,kS "Desk.give" 981,kS "/claim/cut.py" 982,kI 418 0,kI 4 0,kI 0 0,kI 0 0,kI 3 0,kR 589,XA L,kI 181 0,kR 590,M_,kR 591,kR 592,kR 593,kI 989 0,kI 418 0,kS "/claim/cut.py" 990]) #[]),(595,kM "give" "Desk.give" 125 3 "notejar.desks" 942 594),(601,YD (t_ "code") U (YK #[kS "sweep" 992,kS "Desk.sweep" 993,kS "/claim/cut.py" 994,kI 424 0,kI 2 0,kI 0 0,kI 0 0,kI 3 0,kR 596,XA L,kI 181 0,kR 597,M_,kR 598,kR 599,kR 600,kI 997 0,kI 424 0,kS "/claim/cut.py" 998]) #[]),(602,kM "sweep" "Desk.sweep" 125 4 "notejar.desks" 942 601),(608,YD (t_ "code") U (YK #[kS "forget" 1000,kS "Desk.forget" 1001,kS "/claim/cut.py" 1002,kI 427 0,kI 2 0,kI 0 0,kI 0 0,kI 3 0,kR 603,XA L,kI 181 0,kR 604,M_,kR 605,kR 606,kR 607,kI 1005 0,kI 427 0,kS "/claim/cut.py" 1006]) #[]),(609,kM "forget" "Desk.forget" 125 5 "notejar.desks" 942 608),(615,YD (t_ "code") U (YK #[kS "do_and_count" 1008,kS "Desk.do_and_count" 1009,kS "/claim/cut.py" 1010,kI 430 0,kI 3 0,kI 0 0,kI 0 0,kI 3 0,kR 610,XA L,kI 181 0,kR 611,M_,kR 612,kR 613,kR 614,kI 1015 0,kI 430 0,kS "/claim/cut.py" 1016]) #[]),(616,kM "do_and_count" "Desk.do_and_count" 125 6 "notejar.desks" 942 615),(622,YD (t_ "code") U (YK #[kS "merge" 1018,kS "Desk.merge" 1019,kS "/claim/cut.py" 1020,kI 435 0,kI 2 0,kI 0 0,kI 0 0,kI 3 0,kR 617,XA L,kI 181 0,kR 618,M_,kR 619,kR 620,kR 621,kI 1024 0,kI 435 0,kS "/claim/cut.py" 1025]) #[]),(623,kM "merge" "Desk.merge" 125 7 "notejar.desks" 942 622),(629,YD (t_ "code") U (YK #[kS "back" 1027,kS "Desk.back" 1028,kS "/claim/cut.py" 1029,kI 440 0,kI 1 0,kI 0 0,kI 0 0,kI 3 0,kR 624,XA L,kI 181 0,kR 625,M_,kR 626,kR 627,kR 628,kI 1031 0,kI 440 0,kS "/claim/cut.py" 1032]) #[]),(636,YD (t_ "code") U (YK #[kS "forth" 1034,kS "Desk.forth" 1035,kS "/claim/cut.py" 1036,kI 443 0,kI 1 0,kI 0 0,kI 0 0,kI 3 0,kR 631,XA L,kI 181 0,kR 632,M_,kR 633,kR 634,kR 635,kI 1038 0,kI 443 0,kS "/claim/cut.py" 1039]) #[]),(637,kM "forth" "Desk.forth" 125 9 "notejar.desks" 942 636),(643,YD (t_ "code") U (YK #[kS "move" 1041,kS "Desk.move" 1042,kS "/claim/cut.py" 1043,kI 446 0,kI 3 0,kI 0 0,kI 0 0,kI 3 0,kR 638,XA L,kI 181 0,kR 639,M_,kR 640,kR 641,kR 642,kI 1048 0,kI 446 0,kS "/claim/cut.py" 1049]) #[]),(644,kM "move" "Desk.move" 125 10 "notejar.desks" 942 643),(650,YD (t_ "code") U (YK #[kS "steps" 1051,kS "Desk.steps" 1052,kS "/claim/cut.py" 1053,kI 454 0,kI 1 0,kI 0 0,kI 0 0,kI 3 0,kR 645,XA L,kI 181 0,kR 646,M_,kR 647,kR 648,kR 649,kI 1055 0,kI 454 0,kS "/claim/cut.py" 1056]) #[]),(651,kM "steps" "Desk.steps" 125 11 "notejar.desks" 942 650),(657,YD (t_ "code") U (YK #[kS "twin" 1058,kS "Desk.twin" 1059,kS "/claim/cut.py" 1060,kI 457 0,kI 1 0,kI 0 0,kI 0 0,kI 3 0,kR 652,XA L,kI 181 0,kR 653,M_,kR 654,kR 655,kR 656,kI 1062 0,kI 457 0,kS "/claim/cut.py" 1063]) #[]),(660,YD (t_ "dict") U (ZJ #[kE P "__module__" 951 (kS "notejar.desks" 942),kE P "__firstlineno__" 955 (kI 401 954),kE P "__init__" 963 (kR 574),kE P "notes" 970 (kR 581),kE P "do_step" 979 (kR 588),kE P "give" 991 (kR 595),kE P "sweep" 999 (kR 602),kE P "forget" 1007 (kR 609),kE P "do_and_count" 1017 (kR 616),kE P "merge" 1026 (kR 623),kE P "back" 1033 (kR 630),kE P "forth" 1040 (kR 637),kE P "move" 1050 (kR 644),kE P "steps" 1057 (kR 651),kE P "twin" 1064 (kR 658),kE P "__static_attributes__" 1069 (kR 659),kE P "__dict__" 1071 (kR 662),kE P "__weakref__" 1073 (kR 663),kE P "__doc__" 1074 M_] 4) #[]),(661,YD (t_ "type") U (abe (YA (b_ "Desk") [t_ "object"] [kR 661,t_ "object"] 660 (b_ "Desk") L [] [] h_ U h_)) #[U,U,Z (kS "Desk" 944),Z (kS "Desk" 952),Z (Y5 "object.__new__"),Z (XA L)]),(671,kD "group_of" 1079 1080 1081 460 2 3 666 181 667 668 669 670 1085 460 1086),(672,kF "group_of" 127 "notejar.room" 1077 671),(676,kC "groups" 1088 1089 1090 465 2 3 673 181 674 675 1091 465 1092),(677,kF "groups" 128 "notejar.room" 1077 676),(681,kC "by_group" 1098 1099 1100 472 2 3 678 181 679 680 1101 472 1102),(682,kF "by_group" 131 "notejar.looking" 1094 681),(686,kC "keys_of_group" 1104 1105 1106 474 3 3 683 181 684 685 1107 474 1108),(687,kF "keys_of_group" 132 "notejar.looking" 1094 686),(691,kC "ending" 1110 1111 1112 476 3 3 688 181 689 690 1113 476 1114),(692,kF "ending" 133 "notejar.looking" 1094 691),(696,kC "is_list_of_asks" 1116 1117 1118 481 1 3 693 181 694 695 1119 481 1120),(697,kF "is_list_of_asks" 134 "notejar.looking" 1094 696),(701,kC "along" 1122 1123 1124 485 4 3 698 181 699 700 1125 485 1126),(702,kF "along" 135 "notejar.looking" 1094 701),(706,kC "asks_of" 1128 1129 1130 492 4 3 703 181 704 705 1131 492 1132),(707,kF "asks_of" 136 "notejar.looking" 1094 706),(713,kD "_law_cell" 1136 1137 1138 495 2 3 708 181 709 710 711 712 1141 495 1142),(714,Ţ "_law_cell" 138 713),(720,kD "_law_drawn" 1144 1145 1146 499 3 3 715 181 716 717 718 719 1151 499 1152),(721,Ţ "_law_drawn" 139 720),(727,kD "_law_name" 1154 1155 1156 503 2 3 722 181 723 724 725 726 1160 503 1161),(728,Ţ "_law_name" 140 727),(732,kC "_law_table" 1163 1164 1165 507 2 3 729 181 730 731 1166 507 1167),(733,Ţ "_law_table" 141 732),(739,kD "_law_path" 1169 1170 1171 510 2 3 734 181 735 736 737 738 1175 510 1176),(740,Ţ "_law_path" 142 739),(746,kD "_law_ask" 1178 1179 1180 513 2 3 741 181 742 743 744 745 1184 513 1185),(747,Ţ "_law_ask" 143 746),(751,kC "_law_jar" 1187 1188 1189 516 3 3 748 181 749 750 1190 516 1191),(752,Ţ "_law_jar" 144 751),(758,kD "_law_given" 1193 1194 1195 534 3 3 753 181 754 755 756 757 1207 534 1208),(759,Ţ "_law_given" 145 758),(765,kD "_law_text" 1210 1211 1212 545 1 3 760 181 761 762 763 764 1225 545 1226),(766,Ţ "_law_text" 146 765),(772,kD "_law_step" 1228 1229 1230 553 4 3 767 181 768 769 770 771 1240 553 1241),(773,Ţ "_law_step" 147 772),(779,kD "_law_told" 1243 1244 1245 569 4 3 774 181 775 776 777 778 1254 569 1255),(780,Ţ "_law_told" 148 779),(786,kD "_law_refuses" 1257 1258 1259 577 2 3 781 181 782 783 784 785 1263 577 1264),(787,Ţ "_law_refuses" 149 786),(791,kC "law" 1266 1267 1268 590 1 3 788 181 789 790 1269 590 1270),(792,Ţ "law" 150 791)]
def KK(P:adC):Frag:=KKa P++KKb P
def KAa:O%0:=[2,3,20,30,31,43,44,55,56,67,68,79,80,91,92,103,104,115,116,127,128,134,135,141,142,148,149,155,156,160,161,167,168,172,173,179,180,186,187,193,194,198,199,205,206,212,213,219,220,226,227,233,234,240,241,247,248,254,255,261,262,268,269,275,276,282,283,289,290,296,297,303,304,308,309,315,316,322,323,329,330,336,337,343,344,348,349,355,356,362,363,369,370,376,377,383,384,390,391,397,398,404,405,411,412,418,419,425,426,432]
def KAb:O%0:=[433,439,440,444,445,449,450,454,455,461,462,468,469,475,476,480,481,485,486,490,491,497,498,504,505,509,510,516,517,521,522,526,527,531,532,538,539,545,546,552,553,559,560,573,574,580,581,587,588,594,595,601,602,608,609,615,616,622,623,629,636,637,643,644,650,651,657,660,661,671,672,676,677,681,682,686,687,691,692,696,697,701,702,706,707,713,714,720,721,727,728,732,733,739,740,746,747,751,752,758,759,765,766,772,773,779,780,786,787,791,792]
def KA:O%0:=KAa++KAb
def KA_ok(P:adC):KA=(KK P).map (·.1):=by lk
def VQ:m_:=view p9_ [150]
def hbr:r9_.row.prog.bare:=⟨rfl,rfl,rfl,rfl,rfl,by decide+kernel⟩
def slo:PySem.W.looksOpen r9_.row.prog=L:=by lk
set_option maxRecDepth 100000 in
def sd1:r9_.row.wellSaid=L:=by unfold PySem.W.OpenRow.wellSaid PySem.W.OpenRow.partSaid;rw[slo];lk
set_option maxRecDepth 100000 in
def sd:r9_.wellSaid=L:=by unfold PySem.W.OpenLaw.wellSaid;rw[sd1];lk
def hld(h:r9_.row.wellSaid=L->r9_.row.Holds):r9_.Holds:=PySem.W.holds_law sd h
def VL:Str%0:=(["_wall","JarError","NoName","NoTable","NoPath","NoAsk","NoNote","NoJar","NoNumber","NoStep","is_text_of","is_whole_number","is_tuple_of","FIGURES","LABEL_SIGNS","LONGEST_LABEL","MOST_LABELS","MOST_RULES","is_label","is_name","is_rule","is_table","need_name","need_table","lies_within","ends_longest_first","behind_first_dot","is_told_open","find_open_end","find_own_end","PATH_SIGNS","LONGEST_PATH","is_path","need_path","folder","lies_under","LAST_MOMENT","ASK_SAFE","ASK_HOUSE","ASK_PATH","ASK_ORIGIN","ASK_PARTS","is_moment","is_moment_or_none","need_moment","is_ask","need_ask","comes_from_near","NOTE_NAME_SIGNS","LONGEST_NOTE_NAME","NO_WORTH_SIGNS","LONGEST_WORTH","MOST_FIGURES","GIVEN_NAME","GIVEN_WORTH","GIVEN_HOUSE","GIVEN_PATH","GIVEN_UNTIL","GIVEN_LASTS","GIVEN_SAFE","GIVEN_REACH","GIVEN_PARTS","is_note_name","is_worth","is_reach","is_given","need_given","is_written_moment","what_is_told","read_given","NOTE_NAME","NOTE_WORTH","NOTE_HOUSE","NOTE_EXACT","NOTE_PATH","NOTE_ENDS","NOTE_SAFE","NOTE_REACH","NOTE_MADE","NOTE_USED","NOTE_PARTS","is_open","is_exact","keeps_its_mark","why_refused","is_note","house_for","path_for","end_for","made","key","has_ended","is_for","goes","MOST_NOTES","is_jar","is_by_made","has_no_key_twice","need_jar","need_no_more_than_a_jar_has","swept","without_ended","forgotten","put","read_what_is_given","verdict","word_of","shadows","taken","take_in","changed","merged","place_of","later_of","when_last","Desk","group_of","groups","MOST_ASKS","by_group","keys_of_group","ending","is_list_of_asks","along","asks_of","_law_cell","_law_drawn","_law_name","_law_table","_law_path","_law_ask","_law_jar","_law_given","_law_text","_law_step","_law_told","_law_refuses"].map b_)
def Wp{e d:Type}{o:Q%1}{f:Q->e}{g:Q->d}{a:e}{b:d}(h:o.map f=Z a)(i:o.map g=Z b):o.map (λs=>(f s,g s))=Z (a,b):=by cases o with|none=>cases h|some x=>cases h;cases i;rfl
set_option maxRecDepth 100000 in
def Sm(w:v_):(TR.openQ adP p9_ w 11256).map (openSeen VQ VL (adg p9_.main.body) (λs=>recOk [] s) L)=Z (openGood VQ VL):=by lk
set_option maxRecDepth 100000 in
def MV(w:v_):(TR.openQ adP p9_ w 11256).map (λs=>KAa.map s.heap.get?)=Z ((KKa w.params).map λp=>Z p.2):=by lk
set_option maxRecDepth 100000 in
def MW(w:v_):(TR.openQ adP p9_ w 11256).map (λs=>KAb.map s.heap.get?)=Z ((KKb w.params).map λp=>Z p.2):=by lk
def DK{b a:Type}{o:Q%1}{f:Q->b->a}{A B:b%0}{X Y:a%0}(d:o.map (λs=>A.map (f s))=Z X)(e:o.map (λs=>B.map (f s))=Z Y):o.map (λs=>(A++B).map (f s))=Z (X++Y):=by cases o with|none=>cases d|some x=>cases d;cases e;simp
def Sn(w:v_):(TR.openQ adP p9_ w 11256).map (λs=>KA.map s.heap.get?)=Z ((KK w.params).map λp=>Z p.2):=by show(TR.openQ adP p9_ w 11256).map (λs=>(KAa++KAb).map s.heap.get?)=Z ((KKa w.params++KKb w.params).map λp=>Z p.2);rw[YE];exact DK (f:=λs:ge=>s.heap.get?) (MV w) (MW w)
def left:LeftO p9_ VQ VL (λs=>recOk [] s) (Hook.obs (afv KK KA KA_ok)) (Hook.val (afv KK KA KA_ok)) 11256:=λw=>TR.openQ_map (Wp (Sm w) (Sn w))
end G
set_option Elab.async false
set_option linter.all false
set_option maxRecDepth 100000
noncomputable section
open PySem PySem.Spec PyProof.Rows
namespace L2
abbrev þ:=Sum Int Str
def yg:þ->B->Bool|.inl k,v=>Value.isInt k v|.inr x,v=>ZR x v
def Wq(w:v_):þ->Int|.inl k=>hashInt k|.inr x=>hashStr w x
def cj:∀{k:þ}{v:B},yg k v=L->(∃i t,k=P' i/\v=adS i t)\/(∃x t,k=acY x/\v=Zh x t)|.inl i,v,h=>by obtain⟨t,e⟩:=Value.isInt_shape (k:=i) (v:=v) h;exact .inl ⟨i,t,rfl,e⟩|.inr x,v,h=>by obtain⟨t,e⟩:=adY (x:=x) (v:=v) h;exact .inr ⟨x,t,rfl,e⟩
def zp(i:Int)(t:Tok):yg (.inl i) (.int i t)=L:=by simp[yg,Value.isInt]
def zq(x:Str)(t:Tok):yg (.inr x) (.str x t)=L:=by simp[yg,ZR]
def MX(a b:Int):A_ ((P' a:þ)=P' b)=(a==b):=by
 by_cases e:a=b;·subst e;simp
 ·have h:¬(P' a:þ)=P' b:=λq=>e (Sum.inl.inj q);rw[decide_eq_false h];exact(beq_eq_false_iff_ne.mpr e).symm
def MY(a b:Str):A_ ((acY a:þ)=acY b)=A_ (a=b):=by
 by_cases e:a=b;·subst e;simp
 ·have h:¬(acY a:þ)=acY b:=λq=>e (Sum.inr.inj q);rw[decide_eq_false h,decide_eq_false e]
def MZ(a:Int)(b:Str):A_ ((P' a:þ)=acY b)=h_:=decide_eq_false (λq=>nomatch q)
def M1(a:Str)(b:Int):A_ ((acY a:þ)=P' b)=h_:=decide_eq_false (λq=>nomatch q)
def eI(f:m_)(w:v_):PySem.KeyKind f w þ where
 is:=yg;hash:=Wq w;inj:=λv a b o m=>by
  rcases cj o with⟨i,t,rfl,rfl⟩|⟨x,t,rfl,rfl⟩
  · rcases cj m with⟨j,u,rfl,e⟩|⟨y,u,rfl,e⟩;·injection e with d _;rw[d]
    ·exact nomatch e
  · rcases cj m with⟨j,u,rfl,e⟩|⟨y,u,rfl,e⟩;·exact nomatch e
    ·injection e with d _;rw[d]
 byValue:=λk v h=>by rcases cj h with⟨i,t,rfl,rfl⟩|⟨x,t,rfl,rfl⟩<;>rfl
 pyHash:=λg h=>by
  rcases cj g with⟨i,t,rfl,rfl⟩|⟨x,t,rfl,rfl⟩;·exact wpAny_pyHash_int h
  ·exact wpAny_pyHash_str h
 eqBool:=λn g h=>by
  rcases cj n with⟨i,t,rfl,rfl⟩|⟨x,t,rfl,rfl⟩
  · rcases cj g with⟨j,u,rfl,rfl⟩|⟨y,u,rfl,rfl⟩;·rw[MX]at h;exact wpAny_eqBool_int h
    ·rw[MZ]at h;exact aec i t y u _ _ _ _ h
  · rcases cj g with⟨j,u,rfl,rfl⟩|⟨y,u,rfl,rfl⟩;·rw[M1]at h;exact aeb x t j u _ _ _ _ h
    ·rw[MY]at h;exact wpAny_eqBool_str h
 «strs»:=λk x t v h=>by
  rcases cj h with⟨i,u,rfl,e⟩|⟨y,u,rfl,e⟩;·exact nomatch e
  ·injection e with d _;subst d;cases v<;>rfl
def u0(a:m_)(w:v_)(i:Int)(t:Tok):(eI a w).is (.inl i) (.int i t)=L:=zp i t
def u5(a:m_)(w:v_)(x:Str)(t:Tok):(eI a w).is (.inr x) (.str x t)=L:=zq x t
inductive V where|non|bl(b:Bool)|int(i:Int)|str(x:Str)|byt(b:Array UInt8)|flt(b:UInt64)|ref(a:O)|ty(n:String)deriving DecidableEq
def ß:V->B->Prop|.non,u=>u=M_|.bl b,u=>u=XA b|.int i,u=>∃t,u=adS i t|.str x,u=>∃t,u=Zh x t|.byt b,u=>∃t,u=Value.bytes b t|.flt b,u=>∃t,u=aeV b t|.ref a,u=>u=U_ a|.ty n,u=>u=t_ n
abbrev Ö:V%0->B%0->Prop:=afk ß
variable{ζ:V%0}{P:B%0}
def Ö.length(r:Ö ζ P):ζ.length=P.length:=acA r
def Ö.get:∀{a:V%0}{b:B%0}{i:Nat}{x:V},Ö a b->a[i]?=Z x->∃u,b[i]?=Z u/\ß x u|_,_,_,_,.nil,e=>by simp at e|_,_,0,_,.cons r _,e=>by simp at e;subst e;exact⟨_,rfl,r⟩|_,_,i+1,x,.cons _ t,e=>by obtain⟨u,f,d⟩:=Ö.get (i:=i) (x:=x) t (by simpa using e);exact⟨u,by simpa using f,d⟩
def Ö.set{x:V}{u:B}(r:ß x u):∀{a:V%0}{b:B%0}(i:Nat),Ö a b->Ö (a.set i x) (b.set i u)|_,_,_,.nil=>.nil|_,_,0,.cons _ t=>.cons r t|_,_,i+1,.cons q t=>.cons q (Ö.set r i t)
def Ö.append:∀{b a:V%0}{e d:B%0},Ö b e->Ö a d->Ö (b++a) (e++d)|_,_,_,_,.nil,s=>s|_,_,_,_,.cons r t,s=>.cons r (Ö.append t s)
def Ö.take:∀{a:V%0}{b:B%0}(n:Nat),Ö a b->Ö (a.take n) (b.take n)|_,_,0,_=>.nil|_,_,_+1,.nil=>.nil|_,_,n+1,.cons r t=>.cons r (Ö.take n t)
def Ö.drop:∀{a:V%0}{b:B%0}(n:Nat),Ö a b->Ö (a.drop n) (b.drop n)|_,_,0,r=>r|_,_,_+1,.nil=>.nil|_,_,n+1,.cons _ t=>Ö.drop n t
def đ:V%1->B%1->Prop|some v,Z u=>ß v u|none,U=>True|_,_=>False
def KV:(Q×V)%0->(Q×B)%0->Prop:=afk λ(p:Q×V)(q:Q×B)=>p.1=q.1/\ß p.2 q.2
def kV:þ->V|.inl i=>.int i|.inr x=>.str x
inductive HO where|lst(xs:V%0)|tup(xs:V%0)|dK(kvs:(þ×V)%0)|dT(kvs:(þ%0×V)%0)|set(S:Int->Bool)(n:Nat)|ins(C dx:O)(fs:(Str×V)%0)|own(x:O)|xd(fs:(Str×V)%0)|met(f x:O)|rng(lo hi:Int)|frz(o:Obj)(u:HO)|tbl(ps:Array B)|ext(φ:O_->Prop)
abbrev Hp:=O->HO%1
def å(H:Hp)(a:O)(o:HO):Hp:=λb=>if b=a then Z o else H b
variable{g:Hp}{e:O}{Î:HO}
def ao:å g e Î e=Z Î:=by unfold å;rw[if_pos rfl]
variable{A:O}
def aq(h:A≠e):å g e Î A=g A:=by unfold å;rw[if_neg h]
def zr{u:HO}:å (å g e Î) e u=å g e u:=by funext b;unfold å;split<;>rfl
def So{u:HO}(h:g e=Z Î)(b:g A=Z u)(d:Î≠u):e≠A:=by intro a;subst a;rw[h]at b;exact d (X3 b)
def aA(h:g e=Z Î)(b:g A=U):e≠A:=by intro a;subst a;rw[h]at b;cases b
def ð(P:m_)(w:v_)(H:Hp)(h:O_)(a:O):HO->Prop|.lst e=>e.length<=sizeLine/\∃(d:B%0)(n:Nat),Ö e d/\h.get? a=Z {cls:=.type "list",data:=.seq d.toArray n}|.tup e=>e.length<=sizeLine/\∃d:B%0,Ö e d/\afp h a d.toArray|.dK b=>b.length<=sizeLine/\(a==ZQ)=h_/\∃i,KV b i/\h.DictOf (eI P w) a i|.dT b=>b.length<=sizeLine/\(a==ZQ)=h_/\∃e:(þ%0×O×B)%0,afk (λ(p:þ%0×V)(q:þ%0×O×B)=>p.1=q.1/\H q.2.1=Z (.tup (p.1.map kV))/\ß p.2 q.2.2) b e/\∃o z I,h.get? a=Z o/\o.ExactDict/\o.data=.dict z I/\z.toList=e.map (entryOfKey (adO (eI P w)))/\(e.map (·.1)).Nodup|.set S n=>h.SetOf (intKind P w) a S n|.ins C j fs=>H j=Z (.own a)/\fs.length<=1000/\j≠a/\h.get? a=Z (Zo C j)/\∃g,h.Ns1 j g/\(∀f,đ (fs.lookup f) (g f))/\aeq g (fs.map (·.1))|.own _=>∃o,h.get? a=Z o|.xd fs=>∃g,h.Ns1 a g/\∀f,đ (fs.lookup f) (g f)|.rng lo E=>∃t u v,h.get? a=Z {cls:=.type "range",data:=.fields #[.int lo t,.int E u,.int 1 v]}|.frz o u=>h.get? a=Z o/\ð P w H h a u|.tbl D=>∃m:Array B,h.get? a=Z {cls:=.none,data:=.fields m}/\TriplesOk m.toList/\∀pos v,codeAmong pos m.toList=Z v->∃c r i q t A,v=.ref c/\H c=Z (.frz r (.ext λ_=>True))/\r.data=.fields i/\i[1]?=Z (.str q t)/\D[0]?=Z (.str q A)|.met f x=>h.get? a=Z (acp (.ref f) (.ref x))|.ext k=>k h/\(∃o,h.get? a=Z o)/\∀y s:O_,k y->(∀o,y.get? a=Z o->s.get? a=Z o)->k s
def č(P:m_)(w:v_)(H:Hp)(h:O_):Prop:=∀a o,H a=Z o->ð P w H h a o
variable{I:O_}
def ð.lt(x:ð p n g I e Î):e<I.objs.size:=by cases Î with|lst i=>obtain⟨_,_,_,_,a⟩:=x;exact uk a|tup i=>obtain⟨_,_,_,b⟩:=x;exact b.lt|dK h=>obtain⟨_,_,_,_,Î,_,_,a,_⟩:=x;exact uk a|dT h=>obtain⟨_,_,_,_,Î,_,_,a,_⟩:=x;exact uk a|set S d=>obtain⟨Î,_,_,_,a,_⟩:=x;exact uk a|ins C q fs=>obtain⟨_,_,_,a,_⟩:=x;exact uk a|own y=>obtain⟨_,a⟩:=x;exact uk a|xd fs=>obtain⟨_,⟨_,_,_,a,_⟩,_⟩:=x;exact uk a|rng lo o=>obtain⟨_,_,_,a⟩:=x;exact uk a|frz m u=>obtain⟨a,_⟩:=x;exact uk a|tbl k=>obtain⟨_,a,_⟩:=x;exact uk a|met f y=>exact uk (show I.get? e=Z _ from x)|ext j=>obtain⟨_,⟨_,a⟩,_⟩:=x;exact uk a
def Paired.mapP{h g:Type}{F G:h->g->Prop}:∀{e:h%0}{d:g%0},afk F e d->(∀a b,F a b->G a b)->afk G e d|_,_,.nil,_=>.nil|_,_,.cons r t,f=>.cons (f _ _ r) (Paired.mapP t f)
variable{ξ:Hp}
def ð.stay{H:O_}(x:ð p n g I e Î)(k:∀b u,(b=e\/g b=Z (.own e))->I.get? b=Z u->H.get? b=Z u)(ho:∀b,g b=Z (.own e)->ξ b=Z (.own e))(ht:∀b w,g b=Z (.tup w)->ξ b=Z (.tup w))(hf:∀b Î u,g b=Z (.frz Î u)->ξ b=Z (.frz Î u):=by first|exactλ_ _ _ q=>q|(intro c _ _ q;rw[aq (aA q (by assumption))];exact q)):ð p n ξ H e Î:=by induction Î with|lst w=>obtain⟨z,s,i,r,a⟩:=x;exact⟨z,s,i,r,k _ _ (.inl rfl) a⟩|tup w=>obtain⟨z,s,r,j,a,c⟩:=x;exact⟨z,s,r,j,k _ _ (.inl rfl) a,c⟩|dK Q=>obtain⟨z,y,A,r,j,m,o,a,c⟩:=x;exact⟨z,y,A,r,j,m,o,k _ _ (.inl rfl) a,c⟩|dT Q=>obtain⟨z,y,w,r,j,m,o,a,c⟩:=x;exact⟨z,y,w,Paired.mapP r λh q z=>⟨z.1,ht _ _ z.2.1,z.2.2⟩,j,m,o,k _ _ (.inl rfl) a,c⟩|set S i=>obtain⟨j,m,o,t,a,c⟩:=x;exact⟨j,m,o,t,k _ _ (.inl rfl) a,c⟩|ins C dx fs=>obtain⟨d,z,ne,a,E,⟨D,m,o,P,c⟩,r⟩:=x;exact⟨ho _ d,z,ne,k _ _ (.inl rfl) a,E,⟨D,m,o,k _ _ (.inr d) P,c⟩,r⟩|own y=>obtain⟨j,a⟩:=x;exact⟨j,k _ _ (.inl rfl) a⟩|xd fs=>obtain⟨E,⟨D,m,o,a,c⟩,r⟩:=x;exact⟨E,⟨D,m,o,k _ _ (.inl rfl) a,c⟩,r⟩|rng lo hi=>obtain⟨t,u,v,a⟩:=x;exact⟨t,u,v,k _ _ (.inl rfl) a⟩|frz j u ih=>obtain⟨a,q⟩:=x;exact⟨k _ _ (.inl rfl) a,ih q⟩|tbl ps=>obtain⟨qs,a,tr,ch⟩:=x;exact⟨qs,k e _ (.inl rfl) a,tr,λpos v hv=>let⟨c,oc,A,q,t,t',e1,P,r⟩:=ch pos v hv;⟨c,oc,A,q,t,t',e1,hf _ _ _ P,r⟩⟩|met f y=>have a:I.get? e=Z (acp (.ref f) (.ref y)):=x;show H.get? e=Z (acp (.ref f) (.ref y));exact k e _ (.inl rfl) a|ext φ=>obtain⟨h,⟨Î,a⟩,st⟩:=x;exact⟨st _ _ h λÎ q=>k _ _ (.inl rfl) q,⟨Î,k _ _ (.inl rfl) a⟩,st⟩
def č.lt{P:m_}{w:v_}{H:Hp}{h:O_}{a:O}{o:HO}(x:č P w H h)(e:H a=Z o):a<h.objs.size:=(x a o e).lt
def č.fresh(x:č p n g I)(a:I.objs.size<=e):g e=U:=by cases q:g e with|none=>rfl|some u=>exact absurd (Q_ (x.lt q) a) (Yx _)
def č.kept{h':O_}(x:č p n g I)(k:∀b u,I.get? b=Z u->h'.get? b=Z u):č p n g h':=λa o e=>(x a o e).stay (λb u _ q=>k b u q) (λ_ q=>q) λ_ _ q=>q
def č.laid{h':O_}{a:O}{o:HO}(x:č p n g I)(k:∀b u,I.get? b=Z u->h'.get? b=Z u)(i:I.objs.size<=a)(d:ð p n (å g a o) h' a o):č p n (å g a o) h':=λb u e=>by
 have f:=x.fresh i;by_cases h:b=a;·subst h;rw[ao]at e;cases e;exact d
 ·rw[aq h]at e;exact(x b u e).stay (λc v _ q=>k c v q) (λc q=>by rw[aq (aA q f)];exact q) λc j q=>by rw[aq (aA q f)];exact q
def Rd(H:Hp)(a:O)(u:HO):Prop:=H a=Z u\/∃o,H a=Z (.frz o u)
def Rd.ok(r:Rd g e Î)(x:č p n g I):ð p n g I e Î:=by
 rcases r with r|⟨o,r⟩;·exact x e Î r
 ·obtain⟨_,q⟩:=x e _ r;exact q
def Mut:HO%1->Prop|some (.lst _)=>True|some (.dK _)=>True|some (.dT _)=>True|some (.set _ _)=>True|some (.ins _ _ _)=>True|some (.ext _)=>True|_=>False
def č.write{h':O_}{x e:O}(D:č p n g I)(f:Mut (g x))(A:e=x\/g e=Z (.own x))(k:∀b u,b≠e->I.get? b=Z u->h'.get? b=Z u)(s:∃u,h'.get? e=Z u)(o:ð p n (å g x Î) h' x Î):č p n (å g x Î) h':=λb u q=>by
 have d:∀c y,g c=Z (.own y)->c≠x:=λc y r z=>by subst z;rw[r]at f;exact f
 have h:∀c i,g c=Z (.tup i)->c≠x:=λc i r z=>by subst z;rw[r]at f;exact f
 by_cases m:b=x;·subst m;rw[ao]at q;cases q;exact o
 · rw[aq m]at q;by_cases a:b=e
   · have w:g b=Z (.own x):=by
      rcases A with z|z;·exact absurd (a.trans z) m
      ·rw[a];exact z
     rw[q]at w;cases w;obtain⟨v,E⟩:=s;exact⟨v,by rw[a];exact E⟩
   · refine(D b u q).stay (λc v j r=>k c v ?_ r) (λc r=>by rw[aq (d c b r)];exact r) (λc i r=>by rw[aq (h c i r)];exact r) λc _ _ r=>by rw[aq (λz=>by subst z;rw[r]at f;exact f)];exact r
     rcases j with rfl|j;·exact a
     · rintro rfl;rcases A with z|z;·exact d c b j z
       ·rw[j]at z;cases z;exact m rfl
structure Un(fs ex:O%0)(H H':Hp)(h h':O_):Prop where
 keep:∀b o,h.get? b=Z o->H b=U->b∉fs->b∉ex->h'.get? b=Z o
 slot:∀b o,h.get? b=Z o->H b=U->b∈fs->b∉ex->∃sl,h'.get? b=Z {o with slots:=sl}free:∀b o,h.get? b=Z o->H b=U->b∉ex->H' b=U
 there:∀b o,h.get? b=Z o->b∉ex->∃o',h'.get? b=Z o'
 tups:∀b xs,H b=Z (.tup xs)->H' b=Z (.tup xs)frzs:∀b o u,H b=Z (.frz o u)->H' b=Z (.frz o u)tbls:∀b ps,H b=Z (.tbl ps)->∃more,H' b=Z (.tbl (ps++more))
variable{η:O%0}
def Un.any{h:O%0}{f:O_}(u:Un η h g ξ I f){b:O}{a:Obj}(q:I.get? b=Z a)(n:g b=U)(d:b∉h):∃i,f.get? b=Z {a with slots:=i}:=by
 by_cases e:b∈η;·exact u.slot b a q n e d
 ·exact⟨a.slots,u.keep b a q n e d⟩
def Un.kept{d:O%0}{h':O_}(k:∀b u,I.get? b=Z u->h'.get? b=Z u):Un η d g g I h':=⟨λb a q _ _ _=>k b a q,λb a q _ _ _=>⟨a.slots,k b a q⟩,λ_ _ _ n _=>n,λb a q _=>⟨a,k b a q⟩,λ_ _ q=>q,λ_ _ _ q=>q,λ_ e q=>⟨#[],by rw[q];simp⟩⟩
def Un.refl{a:O%0}:Un η a g g I I:=Un.kept λ_ _ q=>q
def Un.laid{h:O%0}{h':O_}{a:O}{o:HO}(k:∀b u,I.get? b=Z u->h'.get? b=Z u)(f:I.objs.size<=a)(d:g a=U):Un η h g (å g a o) I h' where
 keep:=λb u q _ _ _=>k b u q;slot:=λb u q _ _ _=>⟨u.slots,k b u q⟩;free:=λb u q n _=>by rw[aq (D_ (Q_ (uk q) f))];exact n
 there:=λb u q _=>⟨u,k b u q⟩;tups:=λb e q=>by rw[aq (aA q d)];exact q
 frzs:=λb u e q=>by rw[aq (aA q d)];exact q
 tbls:=λb i q=>⟨#[],by rw[aq (aA q d),q];simp⟩
def Un.write{v:O%0}{h':O_}{x e:O}{o:HO}(d:Mut (g x))(s:e=x\/g e=Z (.own x))(k:∀b u,b≠e->I.get? b=Z u->h'.get? b=Z u)(h:∃u,h'.get? e=Z u):Un η v g (å g x o) I h':=by
 have i:∀b,g b=U->b≠x:=λb n z=>by subst z;rw[n]at d;exact d
 have j:∀b,g b=U->b≠e:=λb n z=>by
  subst z;rcases s with r|r;·exact i b n r
  ·rw[n]at r;cases r
 have f:∀b u,g b=Z u->¬Mut (Z u)->b≠x:=λb u q p z=>by subst z;rw[q]at d;exact p d
 refine⟨λb u q n _ _=>k b u (j b n) q,λb u q n _ _=>⟨u.slots,k b u (j b n) q⟩,λb u q n _=>by rw[aq (i b n)];exact n,λb u q _=>?_,λb m q=>by rw[aq (f b _ q λz=>z)];exact q,λb u m q=>by rw[aq (f b _ q λz=>z)];exact q,λb w q=>⟨#[],by rw[aq (f b _ q λz=>z),q];simp⟩⟩;by_cases a:b=e;·subst a;exact h
 ·exact⟨u,k b u a q⟩
def trk(h:O_)(H:Hp):O%0:=(y_ h.objs.size).filter λa=>(H a).isSome
def DM(h:O_)(H:Hp):O_:=ae1 h (trk h H)
def zt(h:O_)(H:Hp):(DM h H).objs.size=h.objs.size:=PySem.W.hideAll_size _ _
variable{Ä:Obj}
def DN(a:I.get? e=Z Ä)(n:g e=U):(DM I g).get? e=Z Ä:=abQ _ a λb=>by have q:(g e).isSome=L:=(XB.mp b).2;rw[n]at q;simp at q
def IH(a:(DM I g).get? e=Z Ä):I.get? e=Z Ä/\g e=U:=by have b:I.get? e=Z Ä:=aab (trk I g) a;refine⟨b,?_⟩;cases q:g e with|none=>rfl|some x=>have d:e∈trk I g:=XB.mpr ⟨X5.mpr (uk b),by simp[q]⟩;have z:(DM I g).get? e=U:=Y2 (trk I g) d;rw[z]at a;cases a
def II(g h:O_)(b:O):(O×Obj)%0:=(y_ h.objs.size).filterMap λa=>if a=b\/(g.get? a).isSome=L then U else(h.get? a).map λo=>(a,o)
def rest(g h:O_)(a d:O):(O×Obj)%0:=(II g h a).filter λp=>A_ (p.1≠d)
structure Mod(K:d_)(mg:Str->B%1)(base:O_):Prop where
 kin:K.In base
 glob:base.Ns E_ mg
 blt:∃mb,base.Ns ab5 mb/\∀x:Str,x≠"__name__"->mb x=Yz x
 nolimit:base.NoLimit
structure C where
 prog:m_
 w:v_
 K:d_
 mg:Str->B%1
 base:O_
 A:x_
 N:Str%0
 s₀:ge
 H₀:Hp
 env:Env
 outer:Env%0
 stack:Env%0
 ex:O%0
 fn:Str->Bool
 calm:Bool
 pn:List (O×Obj)xe:B->ge->Prop
def frs(l:Env%0):O%0:=l.filterMap (·.frame)
abbrev C.fs(X:C):O%0:=frs X.outer
def Vis(a:YJ)(x:Str):Prop:=a.names.lookup x=Z .local\/a.names.lookup x=Z .cell\/a.names.lookup x=Z .free
def ŋ(a:YJ)(x:Str):Prop:=a.names.lookup x=Z .local\/a.names.lookup x=Z .cell
def Wr(a:Env)(h:O_)(m:Str->B%1)(x:Str)(u:B):Prop:=(a.kindOf x=Z .local/\m x=Z u)\/((a.kindOf x=Z .cell\/a.kindOf x=Z .free)/\∃c,a.cells.lookup x=Z c/\h.IsCell c (Z u))
structure C.Ok(X:C):Prop where
 mod:Mod X.K X.mg X.base
 kind:X.env.scope.kind=.function
 glob:X.env.globals=E_
 blt:X.env.builtins=ab5
 above:X.s₀.heap.objs.size<=X.env.locals
 inj:∀x y c,X.env.cells.lookup x=Z c->X.env.cells.lookup y=Z c->x=y
 has:∀x,(X.env.kindOf x=Z .cell\/X.env.kindOf x=Z .free)->∃c,X.env.cells.lookup x=Z c
 cab:∀x c,X.fn x=L->X.env.cells.lookup x=Z c->X.s₀.heap.objs.size<=c
 hd:X.calm=L->X.A.handled=U
 frames:X.A.frames=Z X.stack
 stk:X.stack=X.outer\/(X.stack=X.env::X.outer/\X.env.frame=Z X.env.locals)exf:∀b∈X.ex,b≠X.env.locals/\∀x c,X.env.cells.lookup x=Z c->c≠b
 bs:∀b o,X.base.get? b=Z o->X.s₀.heap.get? b=Z o/\X.H₀ b=U
 bsz:X.base.objs.size<=X.s₀.heap.objs.size
 noex:∀b o,X.base.get? b=Z o->b∉X.ex
 exfs:∀b∈X.ex,b∉X.fs
 funs:X.s₀.heap.FunFrames X.base X.outer
 frf:∀b∈X.fs,X.H₀ b=U
structure N(X:C)(f':(O×Obj)%0)(σ:Option V%0)(H:Hp)(s:ge):Prop where
 ok:X.Ok
 os:s.os=X.s₀.os
 bare:X' s.gens
 base:Un X.fs X.ex X.H₀ H X.s₀.heap s.heap
 loc:∃m,s.heap.Ns X.env.locals m/\∀(i:Nat)(x:Str)(v:V),X.N[i]?=Z x->σ[i]?=Z (Z v)->Vis X.env.scope x->∃u,ß v u/\Wr X.env s.heap m x u
 cell:∀x c,X.env.cells.lookup x=Z c->∃v,s.heap.IsCell c v
 free:H X.env.locals=U
 freeC:∀x c,X.env.cells.lookup x=Z c->H c=U
 pin:∀p∈X.pn++f',s.heap.get? p.1=Z p.2/\H p.1=U/\p.1≠X.env.locals/\p.1∉X.fs/\∀v,p.2.data≠.cell v
 hok:č X.prog X.w H s.heap
 len:σ.length=X.N.length
variable{a:C}
def C.Ok.nofr(d:a.Ok){b:O}{o:Obj}(e:a.base.get? b=Z o):b∉a.fs:=λf=>by have:=(d.funs.mem f).1;rw[e]at this;cases this
variable{δ:(O×Obj)%0}{É:Option V%0}
def N.bs(I:N a δ É g f):∀b o,a.base.get? b=Z o->f.heap.get? b=Z o/\g b=U:=λb o e=>⟨I.base.keep b o (I.ok.bs b o e).1 (I.ok.bs b o e).2 (I.ok.nofr e) (I.ok.noex b o e),I.base.free b o (I.ok.bs b o e).1 (I.ok.bs b o e).2 (I.ok.noex b o e)⟩
def N.bk(I:N a δ É g f):∀b o,a.base.get? b=Z o->f.heap.get? b=Z o:=λb o e=>(I.bs b o e).1
def N.mod(I:N a δ É g f):Mod a.K a.mg a.base:=I.ok.mod
def N.kIn(I:N a δ É g f):a.K.In f.heap:=I.ok.mod.kin.keeps I.bk
def N.lt(I:N a δ É g f):a.env.locals<f.heap.objs.size:=let⟨_,b,_⟩:=I.loc;b.lt
def N.sz(I:N a δ É g f):a.s₀.heap.objs.size<=f.heap.objs.size:=Xx I.ok.above (aaJ I.lt)
def N.nofs(I:N a δ É g f){b:O}(h:f.heap.objs.size<=b):b∉a.fs:=λe=>by obtain⟨_,o,d,_⟩:=I.ok.funs.mem e;exact absurd (Q_ (uk d) (Xx I.sz h)) (Yx _)
def N.cne(I:N a δ É g f):∀x c,a.env.cells.lookup x=Z c->c≠a.env.locals:=λx c e z=>by obtain⟨v,o,h,i⟩:=I.cell x c e;obtain⟨m,⟨j,k,n,b,d,_⟩,_⟩:=I.loc;rw[z,b]at h;cases h;rw[d]at i;cases i
def N.funs(I:N a δ É g f):f.heap.FunFrames a.base a.outer:=by
 have all:∀(l:Env%0),(∀b∈frs l,b∈a.fs)->a.s₀.heap.FunFrames a.base l->f.heap.FunFrames a.base l:=by intro l;induction l with|nil=>intro _ _;trivial|cons w r m=>intro k s;obtain⟨u,⟨d,o,h,q,p,v⟩,n⟩:=s;have j:d∈a.fs:=k d (by unfold frs;rw[aaM,h];exact on);obtain⟨y,e⟩:=I.base.slot d o p (I.ok.frf d j) j λz=>I.ok.exfs d z j;exact⟨u,⟨d,_,h,q,e,v⟩,m (λb i=>k b (by unfold frs;rw[aaM,h];exact pi _ i)) n⟩
 exact all a.outer (λ_ i=>i) I.ok.funs
def N.stack(I:N a δ É g f):f.heap.FunFrames a.base a.stack:=by
 rcases I.ok.stk with e|⟨e,d⟩;·rw[e];exact I.funs
 ·rw[e];obtain⟨m,b,_⟩:=I.loc;refine .cons (by rw[I.ok.kind];decide) d b ?_ I.funs;exact abD (Xx I.ok.bsz I.ok.above)
def N.stkSub(I:N a δ É g f):∀b∈frs a.stack,b∈a.env.locals::a.fs:=λb d=>by
 rcases I.ok.stk with e|⟨e,h⟩;·rw[e]at d;exact pi _ d
 ·rw[e]at d;unfold frs at d;rw[aaM,h]at d;exact d
def N.stkFree(I:N a δ É g f):∀b∈frs a.stack,g b=U:=λb d=>by
 rcases p_.mp (I.stkSub b d)with e|d;·rw[e];exact I.free
 ·obtain⟨_,o,h,_⟩:=I.ok.funs.mem d;exact I.base.free b o h (I.ok.frf b d) λz=>I.ok.exfs b z d
def N.step{g':Array afm}{d':Drawn}{ch:O%0}(j:N a δ É g f)(A:∀h∈ch,(h∈a.ex\/a.s₀.heap.objs.size<=h)/\h≠a.env.locals/\(∀x c,a.env.cells.lookup x=Z c->c≠h)/\∀p∈a.pn++δ,p.1≠h)(D:∀h o,h≠a.env.locals->h∉a.fs->h∉ch->f.heap.get? h=Z o->g h=U->I.get? h=Z o)(a':∀h o,h≠a.env.locals->h∈a.fs->h∉ch->f.heap.get? h=Z o->g h=U->∃sl,I.get? h=Z {o with slots:=sl})(w:∀h o,h∉ch->f.heap.get? h=Z o->g h=U->ξ h=U)(b':∀h o,h∉ch->f.heap.get? h=Z o->∃o',I.get? h=Z o')(e':∀h Q,g h=Z (.tup Q)->ξ h=Z (.tup Q))(l':∀h o u,g h=Z (.frz o u)->ξ h=Z (.frz o u))(i':∀h ps,g h=Z (.tbl ps)->∃k',ξ h=Z (.tbl (ps++k')))(ns:∀m,f.heap.Ns a.env.locals m->I.Ns a.env.locals m)(n':č a.prog a.w ξ I)(hg:X' g'):N a δ É ξ {f with heap:=I,gens:=g',drawn:=d',toks:=b}:=by
 have c':∀h o,a.s₀.heap.get? h=Z o->h≠a.env.locals:=λh o e=>D_ (Q_ (uk e) j.ok.above);have P:∀h o,a.s₀.heap.get? h=Z o->h∉a.ex->h∉ch:=λh o e s hb=>by
  rcases(A h hb).1 with z|z;·exact s z
  ·exact absurd (Q_ (uk e) z) (Yx _)
 have E:∀x c,a.env.cells.lookup x=Z c->∀v,f.heap.IsCell c v->I.IsCell c v:=λx c e v⟨o,ho,hd⟩=>by
  have y:c∉ch:=λz=>(A c z).2.2.1 x c e rfl;by_cases hc:c∈a.fs;·obtain⟨sl,q⟩:=a' c o (j.cne x c e) hc y ho (j.freeC x c e);exact⟨_,q,hd⟩
  ·exact⟨o,D c o (j.cne x c e) hc y ho (j.freeC x c e),hd⟩
 refine⟨j.ok,j.os,hg,⟨λh o e n hb s=>?_,λh o e n hb s=>?_,λh o e n s=>?_,λh o e s=>?_,λh Q e=>e' h Q (j.base.tups h Q e),λh o Q e=>l' h o Q (j.base.frzs h o Q e),λh ps e=>?_⟩,?_,λx c e=>?_,?_,λx c e=>?_,λp hp=>?_,n',j.len⟩;·exact D h o (c' h o e) hb (P h o e s) (j.base.keep h o e n hb s) (j.base.free h o e n s)
 ·obtain⟨sl,H⟩:=j.base.slot h o e n hb s;obtain⟨m',e2⟩:=a' h _ (c' h o e) hb (P h o e s) H (j.base.free h o e n s);exact⟨m',e2⟩
 ·obtain⟨o',H⟩:=j.base.there h o e s;exact w h o' (P h o e s) H (j.base.free h o e n s)
 ·obtain⟨o',H⟩:=j.base.there h o e s;exact b' h o' (P h o e s) H
 ·obtain⟨m1,H⟩:=j.base.tbls h ps e;obtain⟨m2,e2⟩:=i' h _ H;exact⟨m1++m2,by rw[e2,aei]⟩
 · obtain⟨m,hn,hl⟩:=j.loc;refine⟨m,ns m hn,λi x v H e2 e3=>?_⟩;obtain⟨u,r,l⟩:=hl i x v H e2 e3;refine⟨u,r,?_⟩;rcases l with l|⟨k,c,e,z⟩;·exact .inl l
   ·exact .inr ⟨k,c,e,E x c e _ z⟩
 ·obtain⟨v,z⟩:=j.cell x c e;exact⟨v,E x c e v z⟩
 ·obtain⟨m,⟨o,_,_,ho,_⟩,_⟩:=j.loc;exact w _ o (λz=>(A _ z).2.1 rfl) ho j.free
 ·obtain⟨v,o,ho,hd⟩:=j.cell x c e;exact w c o (λz=>(A c z).2.2.1 x c e rfl) ho (j.freeC x c e)
 ·obtain⟨e,n,ne,nf,d⟩:=j.pin p hp;have y:p.1∉ch:=λz=>(A p.1 z).2.2.2 p hp rfl;exact⟨D p.1 p.2 ne nf y e n,w p.1 p.2 y e n,ne,nf,d⟩
def N.un{h':O_}{t':Nat}(I:N a δ É g f)(u:Un a.fs [] g ξ f.heap h')(i:č a.prog a.w ξ h'):N a δ É ξ {f with heap:=h',toks:=t'}:=by obtain⟨m,⟨o,D,E,p,r⟩,_⟩:=id I.loc;obtain⟨w,v⟩:=u.any p I.free ∅;exact I.step (g':=f.gens) (d':=f.drawn) (ch:=[]) (λ_ z=>nomatch z) (λb o _ h _ e n=>u.keep b o e n h ∅) (λb o _ h _ e n=>u.slot b o e n h ∅) (λb o _ e n=>u.free b o e n ∅) (λb o _ e=>u.there b o e ∅) u.tups u.frzs u.tbls (λA s=>by obtain⟨y,j,k,d,q⟩:=s;rw[p]at d;cases d;exact⟨_,j,k,v,q⟩) i I.bare
def N.call{h':O_}{g':Array afm}{t':Nat}{d':Drawn}{ch:O%0}(I:N a δ É g f)(u:Un (frs a.stack) ch g ξ f.heap h')(k:č a.prog a.w ξ h')(A:X' g')(i:∀b∈ch,(b∈a.ex\/a.s₀.heap.objs.size<=b)/\b≠a.env.locals/\(∀x c,a.env.cells.lookup x=Z c->c≠b)/\∀p∈a.pn++δ,p.1≠b):N a δ É ξ {f with heap:=h',gens:=g',drawn:=d',toks:=t'}:=by obtain⟨m,⟨o,Q,ep,v,r⟩,_⟩:=id I.loc;obtain⟨E,j⟩:=u.any v I.free λz=>(i _ z).2.1 rfl;exact I.step (ch:=ch) i (λb o j D d e n=>u.keep b o e n (λz=>(p_.mp (I.stkSub b z)).elim j D) d) (λb o _ _ d e n=>u.any e n d) (λb o d e n=>u.free b o e n d) (λb o d e=>u.there b o e d) u.tups u.frzs u.tbls (λP y=>by obtain⟨H,q,s,h,w⟩:=y;rw[v]at h;cases h;exact⟨_,q,s,j,w⟩) k A
def N.turned{h':O_}{t':Nat}{it:O}(I:N a δ É g f)(k:∀b o,b≠it->f.heap.get? b=Z o->h'.get? b=Z o)(s:g it=U)(i:it≠a.env.locals)(E:it∈a.ex\/a.s₀.heap.objs.size<=it)(D:∀x c,a.env.cells.lookup x=Z c->c≠it)(A:∀p∈a.pn++δ,p.1≠it):N a δ É g {f with heap:=h',toks:=t'}:=by
 have h:∀b u,g b=Z u->b≠it:=λb u e z=>by rw[z,s]at e;cases e
 refine I.step (g':=f.gens) (d':=f.drawn) (ch:=[it]) (λb y=>?_) (λb o _ _ d e _=>k b o (λz=>d (by simp[z])) e) (λb o _ _ d e _=>⟨o.slots,k b o (λz=>d (by simp[z])) e⟩) (λ_ _ _ _ n=>n) (λb o d e=>⟨o,k b o (λz=>d (by simp[z])) e⟩) (λ_ _ e=>e) (λ_ _ _ e=>e) (λb Q e=>⟨#[],by rw[e];simp⟩) (λm w=>?_) (λb u e=>?_) I.bare
 · have e:b=it:=by simpa using y
   subst e;exact⟨E,i,D,A⟩
 ·obtain⟨o,H,P,j,r⟩:=w;exact⟨o,H,P,k _ o (YH i) j,r⟩
 · refine(I.hok b u e).stay (λc v d q=>k c v ?_ q) (λ_ q=>q) λ_ _ q=>q;rcases d with z|z;·rw[z];exact h b u e
   ·exact h c _ z
def N.tok(I:N a δ É g f)(t:Nat):N a δ É g {f with toks:=t}:=I.un (h':=f.heap) (t':=t) Un.refl I.hok
def N.kept{h':O_}{t':Nat}(I:N a δ É g f)(k:∀b u,f.heap.get? b=Z u->h'.get? b=Z u):N a δ É g {f with heap:=h',toks:=t'}:=I.un (Un.kept k) (I.hok.kept k)
def N.laid{X:C}{g:(O×Obj)%0}{f:Option V%0}{H:Hp}{s:ge}{h':O_}{a:O}{o:HO}{t':Nat}(I:N X g f H s)(k:∀b u,s.heap.get? b=Z u->h'.get? b=Z u)(d:s.heap.objs.size<=a)(e:ð X.prog X.w (å H a o) h' a o):N X g f (å H a o) {s with heap:=h',toks:=t'}:=I.un (Un.laid k d (I.hok.fresh d)) (I.hok.laid k d e)
def N.write{h':O_}{x e:O}{o:HO}{t':Nat}(I:N a δ É g f)(i:Mut (g x))(j:e=x\/g e=Z (.own x))(k:∀b u,b≠e->f.heap.get? b=Z u->h'.get? b=Z u)(d:∃u,h'.get? e=Z u)(h:ð a.prog a.w (å g x o) h' x o):N a δ É (å g x o) {f with heap:=h',toks:=t'}:=I.un (Un.write i j k d) (I.hok.write i j k d h)
def N.pins_of{pins':(O×Obj)%0}(I:N a δ É g f)(h:∀p∈pins',f.heap.get? p.1=Z p.2/\g p.1=U/\p.1≠a.env.locals/\p.1∉a.fs/\∀v,p.2.data≠.cell v):N a pins' É g f:=⟨I.ok,I.os,I.bare,I.base,I.loc,I.cell,I.free,I.freeC,λp b=>(XD.mp b).elim (λz=>I.pin p (R_ _ z)) (h p),I.hok,I.len⟩
variable{E:Str%0}
def qF(d:E.Nodup){i j:Nat}{x:Str}(a:E[i]?=Z x)(b:E[j]?=Z x):i=j:=by obtain⟨h,f⟩:=u_.mp a;obtain⟨g,e⟩:=u_.mp b;exact(aeP d).mp (f.trans e.symm)
variable{Ì:Z2}{D:x_}{ν:B->ge->Prop}{d:Str}{υ:V}{ω:B}
def zu{Q:Unit->ge->Prop}(I:N a δ É g f)(hN:a.N.Nodup)(hi:a.N[b]?=Z d)(H:ŋ a.env.scope d)(r:ß υ ω)(h:∀s',N a δ (É.set b (Z υ)) g s'->(∃s,YO s f.heap s'.heap/\(s=a.env.locals\/a.env.cells.lookup d=Z s))->Q Unit.unit s')(hf:a.fn d=L\/a.env.scope.names.lookup d=Z .local:=by first|exact .inl rfl|exact .inr rfl|assumption):xy Ì D (storeName a.env d ω) Q ν f:=by
 obtain⟨m,hn,hl⟩:=id I.loc;have k':(a.env.scope.kind==.class||(a.env.scope.kind==.module&&a.env.locals !=a.env.globals))=h_:=by rw[I.ok.kind];rfl
 have a':b<É.length:=by rw[I.len];exact(u_.mp hi).1
 have cne:=I.cne;have A:∀{s:O}{h':O_},(∃o,f.heap.get? s=Z o/\g s=U)->YO s f.heap h'->č a.prog a.w g h':=λ{s h'}ha v i ob e=>by
  obtain⟨_,_,P⟩:=ha;refine(I.hok i ob e).stay (λc w' E q=>(v.2 c ?_).trans q) (λ_ q=>q) λ_ _ q=>q;rintro rfl;rcases E with rfl|E;·rw[P]at e;cases e
  ·rw[P]at E;cases E
 rcases H with hk|hk
 · refine wpAny_storeName_local hk hn (λh' m' v=>?_) k';obtain⟨oL,_,_,l',_⟩:=id hn;refine h _ ⟨I.ok,I.os,I.bare,⟨λi o e n hb H=>?_,λi o e n hb H=>?_,I.base.free,λi o e H=>?_,I.base.tups,I.base.frzs,I.base.tbls⟩,⟨_,m',λj y v' w e2 e3=>?_⟩,λy c e=>?_,I.free,I.freeC,λp hp=>?_,A ⟨oL,l',I.free⟩ v,by simpa using I.len⟩ ⟨_,v,.inl rfl⟩;·exact(v.2 i (D_ (Q_ (uk e) I.ok.above))).trans (I.base.keep i o e n hb H)
   ·obtain⟨sl,w⟩:=I.base.slot i o e n hb H;exact⟨sl,(v.2 i (D_ (Q_ (uk e) I.ok.above))).trans w⟩
   ·obtain⟨o',w⟩:=I.base.there i o e H;exact⟨o',(v.2 i (D_ (Q_ (uk e) I.ok.above))).trans w⟩
   · by_cases hj:j=b;·subst hj;rw[hi]at w;cases w;rw[K_ a']at e2;cases e2;exact⟨ω,r,.inl ⟨hk,by simp⟩⟩
     · rw[z_ (YH hj)]at e2;obtain⟨u',r',q⟩:=hl j y v' w e2 e3;refine⟨u',r',?_⟩;rcases q with⟨k,e⟩|⟨k,c,e,z⟩;·refine .inl ⟨k,?_⟩;have:y≠d:=λe=>hj (qF hN w (e▸hi));simp[this,e]
       ·exact .inr ⟨k,c,e,z.sameBut v (cne y c e)⟩
   ·obtain⟨w',z⟩:=I.cell y c e;exact⟨w',z.sameBut v (cne y c e)⟩
   ·obtain⟨e,n,ne,nf,u⟩:=I.pin p hp;exact⟨(v.2 p.1 ne).trans e,n,ne,nf,u⟩
 · have b':a.fn d=L:=by
    rcases hf with z|z;·exact z
    ·rw[z]at hk;cases hk
   obtain⟨c,E⟩:=I.ok.has d (.inl hk);obtain⟨w',z⟩:=I.cell d c E;refine wpAny_storeName_cell I.ok.kind hk E z (λh' g' v=>?_);obtain⟨oc,d',i'⟩:=id z;refine h {f with heap:=h'} ⟨I.ok,I.os,I.bare,⟨λi o e n hb H=>?_,λi o e n hb H=>?_,I.base.free,λi o e H=>?_,I.base.tups,I.base.frzs,I.base.tbls⟩,⟨m,hn.sameBut v (YH (cne d c E)),λj y v' w e2 e3=>?_⟩,λy c' e=>?_,I.free,I.freeC,λp hp=>?_,A ⟨oc,d',I.freeC d c E⟩ v,by simpa using I.len⟩ ⟨c,v,.inr E⟩;·exact(v.2 i (D_ (Q_ (uk e) (I.ok.cab d c b' E)))).trans (I.base.keep i o e n hb H)
   ·obtain⟨sl,w⟩:=I.base.slot i o e n hb H;exact⟨sl,(v.2 i (D_ (Q_ (uk e) (I.ok.cab d c b' E)))).trans w⟩
   ·obtain⟨o',w⟩:=I.base.there i o e H;exact⟨o',(v.2 i (D_ (Q_ (uk e) (I.ok.cab d c b' E)))).trans w⟩
   · by_cases hj:j=b;·subst hj;rw[hi]at w;cases w;rw[K_ a']at e2;cases e2;exact⟨ω,r,.inr ⟨.inl hk,c,E,g'⟩⟩
     · rw[z_ (YH hj)]at e2;obtain⟨u',r',q⟩:=hl j y v' w e2 e3;refine⟨u',r',?_⟩;rcases q with q|⟨k,c',e,z'⟩;·exact .inl q
       ·refine .inr ⟨k,c',e,z'.sameBut v ?_⟩;rintro rfl;exact hj (qF hN w (I.ok.inj _ _ _ e E▸hi))
   · by_cases e':c'=c;·subst e';exact⟨_,g'⟩
     ·obtain⟨w2,z2⟩:=I.cell y c' e;exact⟨w2,z2.sameBut v e'⟩
   ·obtain⟨e,n,ne,nf,u⟩:=I.pin p hp;refine⟨(v.2 p.1 ?_).trans e,n,ne,nf,u⟩;intro q;rw[q,d']at e;have q':oc=p.2:=X3 e;exact u w' (by rw[<-q'];exact i')
def mP{Q:Unit->ge->Prop}(I:N a δ É g f)(m:a.N.Nodup)(j:a.N[b]?=Z d)(i:ŋ a.env.scope d)(r:ß υ ω)(h:∀e,N a δ (É.set b (Z υ)) g e->Q Unit.unit e)(k:a.fn d=L\/a.env.scope.names.lookup d=Z .local:=by first|exact .inl rfl|exact .inr rfl|assumption):xy Ì D (storeName a.env d ω) Q ν f:=zu I m j i r (λe n _=>h e n) k
def N.call'{s':ge}{ch:O%0}(I:N a δ É g f)(k:s'.os=f.os)(u:Un (frs a.stack) ch g ξ f.heap s'.heap)(d:č a.prog a.w ξ s'.heap)(m:X' s'.gens)(h:∀b∈ch,(b∈a.ex\/a.s₀.heap.objs.size<=b)/\b≠a.env.locals/\(∀x c,a.env.cells.lookup x=Z c->c≠b)/\∀p∈a.pn++δ,p.1≠b):N a δ É ξ s':=by obtain⟨q,n,o,i,j⟩:=s';have e:j=f.os:=k;subst e;exact I.call (g':=n) (t':=i) (d':=o) u d m h
abbrev XK:=B->O%1->Hp->Prop
abbrev St:=Option V%0
abbrev VK:=V->Hp->Prop
abbrev TE:=St->Hp->VK->Prop
abbrev TT:=St->Hp->(Bool->Hp->Prop)->Prop
abbrev TA:=St->Hp->(V%0->Hp->Prop)->Prop
structure oU where
 nx:St->Hp->Prop
 rt:VK
 bk:St->Hp->Prop:=λ_ _=>False
 ct:St->Hp->Prop:=λ_ _=>False
abbrev TS:=oU->St->Hp->Prop
inductive EP(X:C)(f':(O×Obj)%0)(σ:St)(Q:VK)(u:B)(s':ge):Prop|mk(v:V)(H':Hp)(i:N X f' σ H' s')(r:ß v u)(q:Q v H'):EP X f' σ Q u s'
inductive TP(X:C)(f':(O×Obj)%0)(σ:St)(Q:Bool->Hp->Prop)(b:Bool)(s':ge):Prop|mk(H':Hp)(i:N X f' σ H' s')(q:Q b H'):TP X f' σ Q b s'
inductive AP(X:C)(f':(O×Obj)%0)(σ:St)(Q:V%0->Hp->Prop)(us:B%0)(s':ge):Prop|mk(vs:V%0)(H':Hp)(i:N X f' σ H' s')(r:Ö vs us)(q:Q vs H'):AP X f' σ Q us s'
inductive NP(X:C)(f':(O×Obj)%0)(k:St->Hp->Prop)(s':ge):Prop|mk(σ':St)(H':Hp)(i:N X f' σ' H' s')(q:k σ' H'):NP X f' k s'
inductive RP(X:C)(f':(O×Obj)%0)(k:VK)(u:B)(s':ge):Prop|mk(v:V)(σ':St)(H':Hp)(i:N X f' σ' H' s')(r:ß v u)(q:k v H'):RP X f' k u s'
def SP(X:C)(b:(O×Obj)%0)(D:oU)(f:Flow)(a:ge):Prop:=match f with|.next=>NP X b D.nx a|.brk=>NP X b D.bk a|.cont=>NP X b D.ct a|.ret u=>RP X b D.rt u a
def PE(X:C)(e:s_)(t:TE):Prop:=∀(b:(O×Obj)%0)(s:ge)(a:St)(H:Hp)(Q:VK),N X b a H s->t a H Q->xy (B_ X.prog X.w) X.A (eval e X.env) (EP X b a Q) X.xe s
def PT(X:C)(e:s_)(t:TT):Prop:=∀(b:(O×Obj)%0)(s:ge)(a:St)(H:Hp)(Q:Bool->Hp->Prop),N X b a H s->t a H Q->xy (B_ X.prog X.w) X.A (isTrue e X.env (eval e X.env)) (TP X b a Q) X.xe s
def PW(X:C)(e:s_)(t:TT):Prop:=∀(ý:Sem B)(b:(O×Obj)%0)(s:ge)(a:St)(H:Hp)(Q:Bool->Hp->Prop),N X b a H s->t a H Q->xy (B_ X.prog X.w) X.A (isTrue e X.env ý) (TP X b a Q) X.xe s
def PA(X:C)(d:s_%0)(t:TA):Prop:=∀(pos:Pos)(b:(O×Obj)%0)(s:ge)(a:St)(H:Hp)(Q:V%0->Hp->Prop),N X b a H s->t a H Q->xy (B_ X.prog X.w) X.A (spliced (Xv pos (k_ d X.env))) (AP X b a Q) X.xe s
def PS(X:C)(d:Yd)(t:TS):Prop:=∀(b:(O×Obj)%0)(s:ge)(a:St)(H:Hp)(D:oU),N X b a H s->t D a H->xy (B_ X.prog X.w) X.A (exec d X.env) (SP X b D) X.xe s
def Ł(X:C)(d:Yd%0)(t:TS):Prop:=∀(b:(O×Obj)%0)(s:ge)(a:St)(H:Hp)(D:oU),N X b a H s->t D a H->xy (B_ X.prog X.w) X.A (execs d X.env) (SP X b D) X.xe s
def í{t:Sem Q}{b d:Q->ge->Prop}(h:xy Ì D t b ν f)(e:∀a f,b a f->d a f):xy Ì D t d ν f:=X8 h e λ_ _ x=>x
def zv(i:Nat):TE:=λa H Q=>∃v,a[i]?=Z (Z v)/\Q v H
def tC(v:V):TE:=λ_ H Q=>Q v H
variable{k:Pos}
def zw(A:a.N[b]?=Z d)(q:Vis a.env.scope d)(j:(d==("__debug__":Str))=h_:=by decide)(n:(d==("__classdict__":Str))=h_:=by decide):PE a (.Name d k) (zv b):=by
 intro D s p H Q I h;obtain⟨v,e,h⟩:=h;obtain⟨m,w,z⟩:=I.loc;obtain⟨u,r,l⟩:=z b d v A e q;have i:EP a D p Q u s:=⟨v,H,I,r,h⟩;rcases l with⟨g,y⟩|⟨g,c,o,f⟩;·exact wpAny_Name (wpAny_loadName_local I.ok.kind g w y i) j
 · rcases g with g|g;·exact wpAny_Name (wpAny_loadName_cell I.ok.kind g o f i) j
   ·exact wpAny_Name (wpAny_loadName_free I.ok.kind g o f i n) j
def M3{i j b}:PE a (.Constant (.int i) j b) (tC (.int i)):=λ_ _ _ H _ I h=>wpAny_Constant_int ⟨.int i,H,I.tok _,⟨_,rfl⟩,h⟩
def Sq{b j d}:PE a (.Constant (.bool b) j d) (tC (.bl b)):=λ_ _ _ H _ I h=>Constant_bool ⟨.bl b,H,I,rfl,h⟩
def M4{j b}:PE a (.Constant .none j b) (tC .non):=λ_ _ _ H _ I h=>Constant_none ⟨.non,H,I,rfl,h⟩
def M5{x j b}:PE a (.Constant (.str x) j b) (tC (.str x)):=λ_ _ _ H _ I h=>Calls.Constant_str ⟨.str x,H,I.tok _,⟨_,rfl⟩,h⟩
def Gl(X:C)(x:Str):Prop:=X.env.kindOf x=Z .globalImplicit
variable{Τ:St}{Å:B->ge->Prop}
def lG(I:N a δ Τ g f)(e:Gl a d)(b:a.mg d=Z ω)(h:Å ω f)(i:(d==("__debug__":Str))=h_:=by decide):xy (B_ a.prog a.w) a.A (eval (.Name d k) a.env) Å ν f:=aca I.ok.kind e (Calls.loadGlobal_global (by rw[I.ok.glob];exact I.mod.glob.keeps I.bk) b h) i
def jf(I:N a δ Τ g f)(j:Gl a d)(i:a.mg d=U)(b:Yz d=Z ω)(h:Å ω f)(e:d≠"__name__":=by decide)(m:(d==("__debug__":Str))=h_:=by decide):xy (B_ a.prog a.w) a.A (eval (.Name d k) a.env) Å ν f:=by obtain⟨p,o,n⟩:=I.mod.blt;exact aca I.ok.kind j (Calls.loadGlobal_builtin (by rw[I.ok.glob];exact I.mod.glob.keeps I.bk) i (by rw[I.ok.blt];exact o.keeps I.bk) ((n d e).trans b) h) m
def zx(e:Gl a d)(b:a.mg d=Z ω)(r:ß υ ω)(f:(d==("__debug__":Str))=h_:=by decide):PE a (.Name d k) (tC υ):=λ_ _ _ H _ I h=>lG I e b ⟨υ,H,I,r,h⟩ f
def zy(g:Gl a d)(f:a.mg d=U)(b:Yz d=Z ω)(r:ß υ ω)(e:d≠"__name__":=by decide)(i:(d==("__debug__":Str))=h_:=by decide):PE a (.Name d k) (tC υ):=λ_ _ _ H _ I h=>jf I g f b ⟨υ,H,I,r,h⟩ e i
def tB(t:TE):TT:=λa H Q=>t a H λx b=>∃c,x=.bl c/\Q c b
variable{h:s_}{Ρ:TE}
def GZ(b:PE a h Ρ)(j:∀ý,isTrue h a.env ý=(do let v<-ý;acZ h.pos;ű [v] (truthy v)):=by intro _;rfl):PT a h (tB Ρ):=by intro k s e H Q I i;refine isTrue_plain (í (b k s e H _ I i) λv o⟨x,n,m,f,g⟩=>?_) (j _);obtain⟨d,rfl,q⟩:=g;cases f;exact Y7 ⟨n,m,q⟩
def Ws(t u:TT):TT:=λa H Q=>t a H λc b=>if c=L then u a b Q else Q h_ b
def tOr(t u:TT):TT:=λa H Q=>t a H λc b=>if c=L then Q L b else u a b Q
def Wu(t:TT):TT:=λa H Q=>t a H λc b=>Q (!c) b
def IJ{d:TT}(g:PT a h d):PW a (.BoolOp .And [h] k) d:=by intro j i s f H Q I b;refine isTrue_and (í (g i s f H Q I b) λc m e=>?_);cases c with|true=>exact isTrue_and_nil e|false=>exact e
def G0{d:TT}(g:PT a h d):PW a (.BoolOp .Or [h] k) d:=by intro j i s f H Q I b;refine isTrue_or (í (g i s f H Q I b) λc m e=>?_);cases c with|false=>exact isTrue_or_nil e|true=>exact e
variable{v:s_}{s:s_%0}
def M6{g e:TT}(r:PT a h g)(q:PW a (.BoolOp .And (v::s) k) e):PW a (.BoolOp .And (h::v::s) k) (Ws g e):=by intro o j b f H Q I d;refine isTrue_and (í (r j b f H _ I d) λc p⟨n,m,i⟩=>?_);cases c with|true=>exact q o j p f n Q m i|false=>exact⟨n,m,i⟩
def M7{g e:TT}(r:PT a h g)(q:PW a (.BoolOp .Or (v::s) k) e):PW a (.BoolOp .Or (h::v::s) k) (tOr g e):=by intro o j b f H Q I d;refine isTrue_or (í (r j b f H _ I d) λc p⟨n,m,i⟩=>?_);cases c with|true=>exact⟨n,m,i⟩|false=>exact q o j p f n Q m i
def Ha{e:TT}(g:PT a h e):PT a (.UnaryOp .Not h k) (Wu e):=by intro i s f H Q I d;exact isTrue_not (X8 (g i s f H (λc j=>Q (!c) j) I d) (λ_ _⟨h,b,c⟩=>⟨h,b,c⟩) λ_ _ z=>z)
def Sr(e d:TE):TE:=λa H Q=>e a H λx b=>∃c,x=.bl c/\if c=L then d a b Q else Q (.bl h_) b
def Wv(e d:TE):TE:=λa H Q=>e a H λx b=>∃c,x=.bl c/\if c=L then Q (.bl L) b else d a b Q
def Ss(b:TE):TE:=λa H Q=>b a H λx d=>∃c,x=.bl c/\Q (.bl (!c)) d
def M8{e}(b:PE a h Ρ):PE a (.BoolOp e [h] k) Ρ:=λg s d H Q I f=>BoolOp_one (b g s d H Q I f)
def Hb{i:TE}(r:PE a h Ρ)(q:PE a (.BoolOp .And (v::s) k) i):PE a (.BoolOp .And (h::v::s) k) (Sr Ρ i):=by intro j b g H Q I d;refine BoolOp_and (í (r j b g H _ I d) λe o⟨x,n,m,p,f⟩=>?_);obtain⟨c,rfl,f⟩:=f;cases p;refine Y7 ?_;cases c with|true=>exact q j o g n Q m f|false=>exact⟨.bl h_,n,m,rfl,f⟩
def Su{i:TE}(r:PE a h Ρ)(q:PE a (.BoolOp .Or (v::s) k) i):PE a (.BoolOp .Or (h::v::s) k) (Wv Ρ i):=by intro j b g H Q I d;refine BoolOp_or (í (r j b g H _ I d) λe o⟨x,n,m,p,f⟩=>?_);obtain⟨c,rfl,f⟩:=f;cases p;refine Y7 ?_;cases c with|false=>exact q j o g n Q m f|true=>exact⟨.bl L,n,m,rfl,f⟩
def M9(g:PE a h Ρ):PE a (.UnaryOp .Not h k) (Ss Ρ):=by intro i s e H Q I b;refine UnaryOp_ (í (g i s e H _ I b) λv n⟨x,m,j,f,d⟩=>?_);obtain⟨c,rfl,d⟩:=d;cases f;exact not_of (Y7 ⟨.bl (!c),m,j,rfl,d⟩)
def tIf(t:TT)(e d:TE):TE:=λa H Q=>t a H λc b=>if c=L then e a b Q else d a b Q
def DO{g:TE}{i:TT}{c:s_}(p:PT a c i)(r:PE a h Ρ)(q:PE a v g):PE a (.IfExp c h v k) (tIf i Ρ g):=by intro f s e H Q I b;refine wpAny_IfExp (í (p f s e H _ I b) λd j⟨o,n,m⟩=>?_);cases d with|true=>exact r f j e o Q n m|false=>exact q f j e o Q n m
def ā(K:d_)(H:Hp)(a:O)(d:V%0):Prop:=Rd H a (.lst d)\/∃(o:Obj)(b:Array B)(n:Nat),K.lookup a=Z o/\o.cls=.type "list"/\o.dict=U/\o.data=.seq b n/\b.size<=sizeLine/\Ö d b.toList
def û(K:d_)(H:Hp)(a:O)(d:V%0):Prop:=Rd H a (.tup d)\/∃(o:Obj)(b:Array B)(n:Nat),K.lookup a=Z o/\o.cls=.type "tuple"/\o.data=.seq b n/\b.size<=sizeLine/\Ö d b.toList
def Ww:B->V%1|.none=>Z .non|.bool b=>Z (.bl b)|.int i _=>Z (.int i)|.str x _=>Z (.str x)|.bytes b _=>Z (.byt b)|.float b _=>Z (.flt b)|.ref a=>Z (.ref a)|.type n=>Z (.ty n)|_=>U
def ß.abs(r:ß υ ω):Ww ω=Z υ:=by cases υ with|non=>cases r;rfl|bl _=>cases r;rfl|int _=>obtain⟨t,rfl⟩:=r;rfl|str _=>obtain⟨t,rfl⟩:=r;rfl|byt _=>obtain⟨t,rfl⟩:=r;rfl|flt _=>obtain⟨t,rfl⟩:=r;rfl|ref _=>cases r;rfl|ty _=>cases r;rfl
def ß.inj{y:V}(r:ß υ ω)(q:ß y ω):υ=y:=X3 (r.abs.symm.trans q.abs)
def Ö.inj:∀{b a:V%0}{d:B%0},Ö b d->Ö a d->b=a|_,_,_,.nil,.nil=>rfl|_,_,_,.cons r t,.cons f e=>by rw[r.inj f,Ö.inj t e]
variable{q:d_}
def ā.of(h:g e=Z (.lst ζ)):ā q g e ζ:=.inl (.inl h)
def û.of(h:g e=Z (.tup ζ)):û q g e ζ:=.inl (.inl h)
def N.list(I:N a δ Τ g f)(h:ā a.K g e ζ):∃d:B%0,Ö ζ d/\PlainL f.heap e d.toArray/\ζ.length<=sizeLine:=by
 rcases h with h|⟨o,d,n,j,m,k,i,p,r⟩;·obtain⟨z,d,n,r,b⟩:=h.ok I.hok;exact⟨d,r,⟨_,n,b,rfl,rfl,rfl⟩,z⟩
 ·refine⟨d.toList,r,⟨o,n,I.kIn e o j,m,k,by simpa using i⟩,?_⟩;have b:=r.length;simp![Yj]at b;lia
def N.tuple(I:N a δ Τ g f)(h:û a.K g e ζ):∃d:B%0,Ö ζ d/\afp f.heap e d.toArray/\ζ.length<=sizeLine:=by
 rcases h with h|⟨o,d,n,j,k,i,m,r⟩;·obtain⟨z,d,r,p⟩:=h.ok I.hok;exact⟨d,r,p,z⟩
 ·refine⟨d.toList,r,⟨o,I.kIn e o j,k,n,by simpa using i⟩,?_⟩;have b:=r.length;simp![Yj]at b;lia
def N.list_inj{k:V%0}(I:N a δ Τ g f)(h:ā a.K g e ζ)(s:ā a.K g e k):ζ=k:=by
 obtain⟨j,r,⟨o,n,b,_,_,d⟩,_⟩:=I.list h;obtain⟨i,q,⟨v,w,m,_,_,p⟩,_⟩:=I.list s;rw[b]at m;cases m;rw[d]at p;injection p with u _;have:j=i:=by simpa using congrArg Array.toList u
 subst this;exact r.inj q
def N.tuple_inj{k:V%0}(I:N a δ Τ g f)(h:û a.K g e ζ)(s:û a.K g e k):ζ=k:=by
 obtain⟨j,r,⟨o,b,_,n,d⟩,_⟩:=I.tuple h;obtain⟨i,q,⟨v,m,_,w,p⟩,_⟩:=I.tuple s;rw[b]at m;cases m;rw[d]at p;injection p with u _;have:j=i:=by simpa using congrArg Array.toList u
 subst this;exact r.inj q
abbrev C.wish(X:C)(E:B->ge->Prop):C:={X with xe:=E}
abbrev C.nox(X:C):C:=X.wish λ_ _=>False
def C.Ok.wish(b:a.Ok)(E:B->ge->Prop):(a.wish E).Ok:=⟨b.mod,b.kind,b.glob,b.blt,b.above,b.inj,b.has,b.cab,b.hd,b.frames,b.stk,b.exf,b.bs,b.bsz,b.noex,b.exfs,b.funs,b.frf⟩
def C.Ok.unwish(b:(a.wish ν).Ok):a.Ok:=⟨b.mod,b.kind,b.glob,b.blt,b.above,b.inj,b.has,b.cab,b.hd,b.frames,b.stk,b.exf,b.bs,b.bsz,b.noex,b.exfs,b.funs,b.frf⟩
def N.wish(I:N a δ Τ g f)(E:B->ge->Prop):N (a.wish E) δ Τ g f:=⟨I.ok.wish E,I.os,I.bare,I.base,I.loc,I.cell,I.free,I.freeC,I.pin,I.hok,I.len⟩
def N.unwish(I:N (a.wish ν) δ Τ g f):N a δ Τ g f:=⟨I.ok.unwish,I.os,I.bare,I.base,I.loc,I.cell,I.free,I.freeC,I.pin,I.hok,I.len⟩
def SP.unwish{D:oU}{b:Flow}(h:SP (a.wish ν) δ D b f):SP a δ D b f:=by cases b with|next=>obtain⟨d,e,I,q⟩:=h;exact⟨d,e,I.unwish,q⟩|brk=>obtain⟨d,e,I,q⟩:=h;exact⟨d,e,I.unwish,q⟩|cont=>obtain⟨d,e,I,q⟩:=h;exact⟨d,e,I.unwish,q⟩|ret u=>obtain⟨v,d,e,I,r,q⟩:=h;exact⟨v,d,e,I.unwish,r,q⟩
variable{Υ:Yd%0}
def Ł.nox{t:TS}(h:Ł a.nox Υ t):Ł a Υ t:=λe s b H D I d=>X8 (h e s b H D (I.wish _) d) (λ_ _ q=>q.unwish) λ_ _ z=>X9 z
def Sv:TS:=λD a H=>D.nx a H
def Wx(t u:TS):TS:=λD a H=>t {D with nx:=u D} a H
def u8:Ł a [] Sv:=λ_ _ b H _ I h=>ade ⟨b,H,I,h⟩
variable{Γ:Yd}
def gM{t u:TS}(j:PS a Γ t)(i:Ł a Υ u):Ł a (Γ::Υ) (Wx t u):=by intro d s e H D I h;refine wpAny_execs_cons (í (j d s e H {D with nx:=u D} I h) λf g q=>?_);cases f with|next=>obtain⟨b,m,k,q⟩:=q;exact i d g b m D k q|ret v=>exact q|brk=>exact q|cont=>exact q
def qG{t:TS}(d:PS a Γ t):Ł a [Γ] t:=by intro e s b H D I h;refine wpAny_execs_cons (í (d e s b H D I h) λf g q=>?_);cases f with|next=>exact ade q|ret v=>exact q|brk=>exact q|cont=>exact q
def N.quiet(I:N a δ Τ g f):interactive a.env=h_:=by simp[interactive,I.ok.kind]
def Sw(b:TE):TS:=λD a H=>b a H λ_ d=>D.nx a d
def u9(g:PE a h Ρ)(f:Yb h U k.line a.env=pure h_:=by rfl):PS a (.Expr h k) (Sw Ρ):=by intro i s d H D I b;exact wpAny_Expr_any (í (g i s d H _ I b) λv n⟨x,m,j,o,e⟩=>⟨d,m,j,e⟩) I.quiet f
def Wy(b:TE):TS:=λD a H=>b a H D.rt
def zC(g:PE a h Ρ):PS a (.Return (Z h) k) (Wy Ρ):=by intro i s d H D I b;exact wpAny_Return_some (í (g i s d H _ I b) λv n⟨x,m,j,e,f⟩=>⟨x,d,m,j,e,f⟩)
def Wz(c:TT)(t u:TS):TS:=λD a H=>c a H λb d=>if b=L then t D a d else u D a d
def DP{t u:TS}{b:Yd%0}{i:TT}(p:PT a h i)(r:Ł a Υ t)(q:Ł a b u):PS a (.If h Υ b k) (Wz i t u):=by intro g s f H D I e;refine wpAny_If (í (p g s f H _ I e) λd j⟨o,n,m⟩=>?_);cases d with|true=>exact r g j f o D n m|false=>exact q g j f o D n m
abbrev TG:=V->St->Hp->(St->Hp->Prop)->Prop
abbrev TGs:=V%0->St->Hp->(St->Hp->Prop)->Prop
def PG(X:C)(a:s_)(t:TG):Prop:=∀(d:(O×Obj)%0)(s:ge)(b:St)(H:Hp)(v:V)(u:B)(Q:St->Hp->Prop),N X d b H s->ß v u->t v b H Q->xy (B_ X.prog X.w) X.A (ķ a X.env u) (λ_ e=>NP X d Q e) X.xe s
def ū(X:C)(f:s_%0)(t:TGs):Prop:=∀(e:(O×Obj)%0)(s:ge)(a:St)(H:Hp)(b:V%0)(d:B%0)(Q:St->Hp->Prop),N X e a H s->Ö b d->t b a H Q->xy (B_ X.prog X.w) X.A (assignInOrder ((XH f X.env).map (·.2)) d) (λ_ g=>NP X e Q g) X.xe s
abbrev Sx:=V->V->V->Hp->(Hp->Prop)->Prop
def VE(X:C)(t:Sx):Prop:=∀(e:(O×Obj)%0)(s:ge)(a:St)(H:Hp)(o i v:V)(b d u:B)(Q:Hp->Prop),N X e a H s->ß o b->ß i d->ß v u->t o i v H Q->xy (B_ X.prog X.w) X.A (setItem b d u) (λ_ g=>∃f,N X e a f g/\Q f) X.xe s
def qH(i:Nat):TG:=λv a H Q=>Q (a.set i (Z v)) H
def gZ(i:a.N.Nodup)(f:a.N[b]?=Z d)(e:ŋ a.env.scope d)(g:a.fn d=L\/a.env.scope.names.lookup d=Z .local:=by first|exact .inl rfl|exact .inr rfl|assumption):PG a (.Name d k) (qH b):=by intro o s m H v u Q I r h;exact wpAny_assign_Name (mP I i f e r (λn j=>⟨_,H,j,h⟩) g)
def WA:TGs:=λb a H Q=>b=[]/\Q a H
def Sy(t:TG)(u:TGs):TGs:=λd b H Q=>∃v r,d=v::r/\t v b H λa e=>u r a e Q
def zD:ū a [] WA:=by intro g s b H d f Q I r h;obtain⟨e,h⟩:=h;subst e;cases r;exact assignInOrder_nil ⟨b,H,I,h⟩
def qI{t:TG}{u:TGs}(o:PG a h t)(n:ū a s u)(m:(XH (h::s) a.env).map (·.2)=ķ h a.env::(XH s a.env).map (·.2):=by rfl):ū a (h::s) (Sy t u):=by intro f d g H y A Q I r b;obtain⟨v,z,p,b⟩:=b;subst p;cases r with|cons r j=>rw[m];refine assignInOrder_cons (í (o f d g H _ _ _ I r b) λ_ i⟨e,w,q,k⟩=>?_);exact n f i e w _ _ Q q j k
def WB(K:d_)(n:Nat)(t:TGs):TG:=λv d H Q=>∃a b,v=.ref a/\û K H a b/\b.length=n/\t b d H Q
variable{o:Nat}
def Hc{t:TGs}(P:a.calm=L)(h:ū a s t)(D:(XH s a.env).length=o:=by rfl)(m:(XH s a.env).findIdx? (·.1)=U:=by rfl):PG a (.Tuple s b k) (WB a.K o t):=by intro q d n H v u Q I r j;obtain⟨i,w,e1,A,E,j⟩:=j;subst e1;cases r;obtain⟨a',p,z,hz⟩:=I.tuple A;refine assign_Tuple_tuple (I.ok.hd P) z (by simp[D,<-E,p.length]) m λh' y=>?_;have I1:N a q n H {d with heap:=h'}:=I.kept (t':=d.toks) λg f e=>y g f (D_ (uk e)) e;exact h q _ n H w _ Q I1 (by simpa using p) j
def WC(b d:TE)(t:Sx):TG:=λv a H Q=>b a H λo g=>d a g λi f=>t o i v f λe=>Q a e
def Na{j:TE}{t:Sx}(D:PE a h Ρ)(E:PE a v j)(A:VE a t)(P:∀b,ķ (.Subscript h v k) a.env b=(do
 let e<-ű [b] (eval h a.env)let f<-ű [b,e] (eval v a.env)acZ k
 ű [b,e,f] (setItem e f b)release [b,e,f] []):=by intro _;rfl):PG a (.Subscript h v k) (WC Ρ j t):=by intro i s g H b u Q I r d;rw[P];refine c_ (XY (í (D i s g H _ I d) λe n⟨x,H1,I1,p,z⟩=>?_));refine c_ (XY (í (E i n g H1 _ I1 z) λf m⟨y,H2,I2,o,w⟩=>?_));refine c_ (ad5 (c_ (XY (í (A i m g H2 x y b e f u _ I2 p o r w) λ_ s3⟨H3,I3,q⟩=>?_))));exact wpAny_release ⟨g,H3,I3,q⟩
def VF(b:TE)(g:TG):TS:=λD a H=>b a H λx d=>g x a d D.nx
def Hd{g:TG}(r:PE a v Ρ)(p:PG a h g)(o:ad6 [h] v k.line a.env=pure h_:=by rfl)(n:ad7 [h] v a.env=pure U:=by rfl)(u:(XH [h] a.env).map (·.2)=[ķ h a.env]:=by rfl):PS a (.Assign [h] v k) (VF Ρ g):=by intro f s e H D I d;refine wpAny_Assign_stores (í (r f s e H _ I d) λb i⟨x,y,w,j,m⟩=>?_) o n;rw[u];exact í (p f i e y x b _ w j m) λ_ z q=>q
variable{w:Pos}
def pB(q:a.N.Nodup)(n:a.N[b]?=Z d)(j:ŋ a.env.scope d)(p:PE a h Ρ)(m:Yb h (Z (.Name d w)) k.line a.env=pure h_:=by rfl)(o:a.fn d=L\/a.env.scope.names.lookup d=Z .local:=by first|exact .inl rfl|exact .inr rfl|assumption):PS a (.Assign [.Name d w] h k) (VF Ρ (qH b)):=by intro r s f H D I e;refine wpAny_Assign_Name (í (p r s f H _ I e) λv P⟨y,A,z,g,i⟩=>?_) m;exact mP z q n j g (λE u=>⟨_,A,u,i⟩) o
structure It where
 go:Nat->Hp->Prop
 yld:Nat->Hp->V->Hp->Prop
 stop:Nat->Hp->Prop
def wF(X:C)(a:(O×Obj)%0)(H:Hp)(b:O):Prop:=H b=U/\b≠X.env.locals/\b∉X.fs/\(b∈X.ex\/X.s₀.heap.objs.size<=b)/\(∀x c,X.env.cells.lookup x=Z c->c≠b)/\∀p∈X.pn++a,p.1≠b
def N.fpOk{H':Hp}(I:N a δ Τ g f)(d:f.heap.objs.size<=e)(i:H' e=U):wF a δ H' e:=by
 refine⟨i,aaI (Q_ I.lt d),I.nofs d,.inr (Xx I.sz d),λx c b z=>?_,λp h z=>?_⟩;·obtain⟨v,q⟩:=I.cell x c b;exact absurd (Q_ q.lt (by rw[z];exact d)) (Yx _)
 ·exact absurd (Q_ (uk (I.pin p h).1) (by rw[z];exact d)) (Yx _)
structure DQ(P:m_)(w:v_)(K:d_)(tg:s_)(J:It)(fp:O%0)(it:O)(tn:Nat->O_->Prop):Prop where
 mem:it∈fp
 obj:∀i h,tn i h->∀b∈fp,∃o,h.get? b=Z o/\∀v,o.data≠.cell v
 keep:∀i h h',tn i h->(∀b∈fp,∀o,h.get? b=Z o->h'.get? b=Z o)->tn i h'
 item:∀(X:C),X.prog=P->X.w=w->X.K=K->X.calm=L->∀(i:Nat)(f':(O×Obj)%0)(s:ge)(σ:St)(H:Hp)(E:B->ge->Prop),N X f' σ H s->(∀b∈fp,wF X f' H b)->tn i s.heap->J.go i H->xy (B_ P w) X.A (K' (.ref it)) (λr s1=>∃u,r=Z u/\xy (B_ P w) X.A (abJ tg (.ref it) u) (λ_ s2=>∃x H',N X f' σ H' s2/\ß x u/\J.yld i H x H'/\tn (i+1) s2.heap/\∀b∈fp,H' b=U) E s1) E s
 done:∀(X:C),X.prog=P->X.w=w->X.K=K->X.calm=L->∀(i:Nat)(f':(O×Obj)%0)(s:ge)(σ:St)(H:Hp)(E:B->ge->Prop),N X f' σ H s->(∀b∈fp,wF X f' H b)->tn i s.heap->J.stop i H->xy (B_ P w) X.A (K' (.ref it)) (λr s1=>r=U/\N X f' σ H s1) E s
 self:∀(A:x_)(i:Nat)(s:ge)(Q:B->ge->Prop)(E:B->ge->Prop),tn i s.heap->Q (.ref it) s->xy (B_ P w) A (aeG (.ref it)) Q E s
abbrev TI:=St->Hp->(It->Hp->Prop)->Prop
inductive PIE(X:C)(f':(O×Obj)%0)(σ:St)(tg:s_)(R:It->Hp->Prop)(itv:B)(s2:ge):Prop|mk(it:O)(fp:O%0)(tn:Nat->O_->Prop)(J:It)(H':Hp)(a:itv=.ref it)(b:N X f' σ H' s2)(c:DQ X.prog X.w X.K tg J fp it tn)(d:tn 0 s2.heap)(e:∀b∈fp,wF X f' H' b)(q:R J H'):PIE X f' σ tg R itv s2
def PI(X:C)(f a:s_)(e:TI):Prop:=∀(d:(O×Obj)%0)(s:ge)(b:St)(H:Hp)(R:It->Hp->Prop),N X d b H s->e b H R->xy (B_ X.prog X.w) X.A (eval a X.env) (λv g=>xy (B_ X.prog X.w) X.A (aeG v) (PIE X d b f R) X.xe g) X.xe s
variable{Κ:Array B}
def yh{s:ge}{n:String}{Q:Unit->ge->Prop}(d:s.heap.get? e=Z Ä)(i:Ä.cls=.type n)(g:Ä.data=.fields Κ)(f:["enumerate","zip","dict_itemiterator","dict_reverseitemiterator","odict_iterator","itertools.zip_longest","itertools.pairwise"].contains n=h_)(b:Q Unit.unit s):xy Ì D (abJ h (.ref e) ω) Q ν s:=by unfold abJ;cases h<;>first|exact i_ b|(cases ω<;>first|exact i_ b|(refine c_ (wpAny_load d ?_);rw[i,g];show xy Ì D (if(["enumerate","zip","dict_itemiterator","dict_reverseitemiterator","odict_iterator","itertools.zip_longest","itertools.pairwise"].contains n&&Κ[0]?==Z (Zm _))=L then _ else _) Q ν s;rw[if_neg (by intro a;rw[f,Bool.false_and]at a;cases a)];exact i_ b))
def Itl(K:d_)(a:O):It:=⟨λi H=>∃b x,ā K H a b/\b[i]?=Z x,λi H x d=>d=H/\∀b,ā K H a b->b[i]?=Z x,λi H=>∃b,ā K H a b/\b.length<=i⟩
def Itt(K:d_)(a:O):It:=⟨λi H=>∃b x,û K H a b/\b[i]?=Z x,λi H x d=>d=H/\∀b,û K H a b->b[i]?=Z x,λi H=>∃b,û K H a b/\b.length<=i⟩
def Itr(a:Int)(n:Nat):It:=⟨λi _=>i<n,λi H x b=>b=H/\x=.int (a+i),λi _=>n<=i⟩
def su(a j:O):DQ p n q h (Itl q a) [j] j (λi f=>f.IsListIter j a i)where
 mem:=by simp
 obj:=λi f st b m=>by
  have e:b=j:=by simpa using m
  subst e;obtain⟨o,e,c,d⟩:=st;exact⟨o,e,λv z=>by rw[d]at z;cases z⟩
 keep:=λi f A st k=>st.at λo e=>k j ∅ o e;item:=by intro X hP Q hK hc i f' s σ H E I y st hg;subst hP Q hK;obtain⟨xs,x,w,P⟩:=hg;obtain⟨a',D,g,hz⟩:=I.list w;obtain⟨u,hu,ru⟩:=D.get P;obtain⟨f0,f1,R,f3,f4,f5⟩:=y j ∅;refine wpAny_pyNext_list_item st g.isList (x:=u) (by simpa using hu) λA r sb=>?_;have I1:N X f' σ H {s with heap:=A}:=I.turned (t':=s.toks) (λb o m e=>(sb.2 b m).trans e) f0 f1 f3 f4 f5;obtain⟨o,e,c,d⟩:=id r;exact⟨u,rfl,yh (s:={s with heap:=A}) e c d #v[] ⟨x,H,I1,ru,⟨rfl,λys hy=>by rw[I.list_inj hy w];exact P⟩,r,λb m=>(y b m).1⟩⟩
 done:=by intro X hP Q hK hc i f' s σ H E I y st hg;subst hP Q hK;obtain⟨xs,w,P⟩:=hg;obtain⟨a',D,g,hz⟩:=I.list w;obtain⟨f0,f1,R,f3,f4,f5⟩:=y j ∅;have hl:=D.length;exact wpAny_pyNext_list_end (I.ok.hd hc) st g.isList (by simp;lia) λA eb=>⟨rfl,I.turned (t':=s.toks) (λb o m e=>eb b o m e) f0 f1 f3 f4 f5⟩
 self:=λ_ _ _ _ _ st f=>wpAny_pyIter_listiter st f
def pC(a j:O):DQ p n q h (Itt q a) [j] j (λi f=>f.IsTupleIter j a i)where
 mem:=by simp
 obj:=λi f st b m=>by
  have e:b=j:=by simpa using m
  subst e;obtain⟨o,e,c,d⟩:=st;exact⟨o,e,λv z=>by rw[d]at z;cases z⟩
 keep:=λi f D st k=>st.at λo e=>k j ∅ o e;item:=by intro X hP hw hK hc i f' s σ H E I A st hg;subst hP hw hK;obtain⟨xs,x,y,Q⟩:=hg;obtain⟨r,P,g,hz⟩:=I.tuple y;obtain⟨u,hu,ru⟩:=P.get Q;obtain⟨f0,f1,R,f3,f4,f5⟩:=A j ∅;refine wpAny_pyNext_tuple_item st (show s.heap.IsTuple a r.toArray from g) (x:=u) (by simpa using hu) λD w sb=>?_;have I1:N X f' σ H {s with heap:=D}:=I.turned (t':=s.toks) (λb o m e=>(sb.2 b m).trans e) f0 f1 f3 f4 f5;obtain⟨o,e,c,d⟩:=id w;exact⟨u,rfl,yh (s:={s with heap:=D}) e c d #v[] ⟨x,H,I1,ru,⟨rfl,λys hy=>by rw[I.tuple_inj hy y];exact Q⟩,w,λb m=>(A b m).1⟩⟩
 done:=by intro X hP hw hK hc i f' s σ H E I A st hg;subst hP hw hK;obtain⟨xs,y,Q⟩:=hg;obtain⟨r,P,g,hz⟩:=I.tuple y;obtain⟨f0,f1,R,f3,f4,f5⟩:=A j ∅;have hl:=P.length;exact wpAny_pyNext_tuple_end (I.ok.hd hc) st (show s.heap.IsTuple a r.toArray from g) (by simp;lia) λD eb=>⟨rfl,I.turned (t':=s.toks) (λb o m e=>eb b o m e) f0 f1 f3 f4 f5⟩
 self:=λ_ _ _ _ _ st f=>wpAny_pyIter_tupleiter st f
def yi(f:O)(m:Int)(d:Nat):DQ p n q h (Itr m d) [f] f (λi a=>IsRangeIter a f (m+(i:Nat)*1) ((d:Int)-(i:Nat)) 1)where
 mem:=by simp
 obj:=λi a st b g=>by
  have e:b=f:=by simpa using g
  subst e;exact⟨_,st,λv z=>by have z':YK _=Data.cell v:=z;cases z'⟩
 keep:=λi a u st k=>k f ∅ _ st;item:=by intro X D w P A i f' s σ H E I r st y;subst D w P;obtain⟨f0,f1,R,f3,f4,Q⟩:=r f ∅;have W:=Walks.range (prog:=X.prog) (w:=X.w) (I.ok.hd A) f m 1 d;refine W.item i s _ _ y st λv u tk hv j kk=>?_;obtain⟨t,rfl⟩:=hv;have I1:N X f' σ H {s with heap:=u,toks:=tk}:=I.turned (λb o g e=>kk b o (by simpa using g) e) f0 f1 f3 f4 Q;refine⟨_,rfl,yh (s:={s with heap:=u,toks:=tk}) (n:="range_iterator") j rfl rfl #v[] ⟨.int (m+i),H,I1,⟨t,?_⟩,⟨rfl,rfl⟩,j,λb g=>(r b g).1⟩⟩;rw[Int.mul_one]
 done:=by intro X D w P A i f' s σ H E I r st y;subst D w P;obtain⟨f0,f1,R,f3,f4,Q⟩:=r f ∅;exact wpAny_pyNext_range_end (I.ok.hd A) st (by have:d<=i:=y;lia) λu eb=>⟨rfl,I.turned (t':=s.toks) (λb o g e=>eb b o g e) f0 f1 f3 f4 Q⟩
 self:=λ_ _ _ _ _ st a=>wpAny_pyIter_rangeiter st a
def Sz(K:d_)(f:TE):TI:=λd H R=>f d H λx b=>∃a,x=.ref a/\(∃e,ā K b a e)/\R (Itl K a) b
def WD(K:d_)(f:TE):TI:=λd H R=>f d H λx b=>∃a,x=.ref a/\(∃e,û K b a e)/\R (Itt K a) b
def IK(u:PE a v Ρ):PI a h v (Sz a.K Ρ):=by
 intro y s k H R I d;refine í (u y s k H _ I d) λg i⟨x,z,j,m,n⟩=>?_;obtain⟨f,e,⟨D,r⟩,q⟩:=n;subst e;cases m;obtain⟨A,E,p,P⟩:=j.list r;refine aan p.isList ?_;refine⟨i.heap.objs.size,[i.heap.objs.size],_,_,z,rfl,j.kept (t':=i.toks) λb o e=>l_ _ e,su f _,⟨_,rl _ rfl,rfl,rfl⟩,λb w=>?_,q⟩;have e:b=i.heap.objs.size:=by simpa using w
 subst e;exact j.fpOk (o_ _) (j.hok.fresh (o_ _))
def He(w:PE a v Ρ):PI a h v (WD a.K Ρ):=by
 intro z s m H R I f;refine í (w z s m H _ I f) λg i⟨x,A,j,n,r⟩=>?_;obtain⟨d,e,⟨D,u⟩,q⟩:=r;subst e;cases n;obtain⟨k,E,p,P⟩:=j.tuple u;refine aaT (show i.heap.IsTuple d k.toArray from p) ?_;refine⟨i.heap.objs.size,[i.heap.objs.size],_,_,A,rfl,j.kept (t':=i.toks) λb o e=>l_ _ e,pC d _,⟨_,rl _ rfl,rfl,rfl⟩,λb y=>?_,q⟩;have e:b=i.heap.objs.size:=by simpa using y
 subst e;exact j.fpOk (o_ _) (j.hok.fresh (o_ _))
variable{y Ã:Int}
def wG{R:It->Hp->Prop}{t u v:Tok}(I:N a δ Τ g f)(p:-(2^62)<=y)(n:y<2^62)(m:-(2^62)<=Ã)(k:Ã<2^62)(q:R (Itr y (Ã-y).toNat) g):xy (B_ a.prog a.w) a.A (aeG (.ref f.heap.objs.size)) (PIE a δ Τ h R) ν {f with heap:=f.heap.push {cls:=.type "range",data:=.fields #[.int y t,.int Ã u,.int 1 v]},toks:=b}:=by
 refine wpAny_pyIter_range (IsRange.new ..) (small_one p n m k) ?_;have i:N a δ Τ g {f with heap:=f.heap.push {cls:=.type "range",data:=.fields #[.int y t,.int Ã u,.int 1 v]},toks:=b}:=I.kept λd o e=>l_ _ e;refine⟨(f.heap.push {cls:=.type "range",data:=.fields #[.int y t,.int Ã u,.int 1 v]}).objs.size,[(f.heap.push {cls:=.type "range",data:=.fields #[.int y t,.int Ã u,.int 1 v]}).objs.size],_,_,g,rfl,i.kept (t':=b) λd o e=>l_ _ e,yi _ y (Ã-y).toNat,?_,λd j=>?_,q⟩
 · have s:y+((0:Nat):Int)*1=y:=by simp
   have r:(((Ã-y).toNat:Nat):Int)-((0:Nat):Int)=Builtin.Range.rangeSize y Ã 1:=by rw[rangeSize_one];split<;>lia
   show IsRangeIter _ _ (y+((0:Nat):Int)*1) ((((Ã-y).toNat:Nat):Int)-((0:Nat):Int)) 1;rw[s,r];exact rl _ rfl
 · have e:d=(f.heap.push {cls:=.type "range",data:=.fields #[.int y t,.int Ã u,.int 1 v]}).objs.size:=by simpa using j
   subst e;exact i.fpOk (o_ _) (i.hok.fresh (o_ _))
def SA(d:TA):TI:=λa H R=>d a H λb e=>∃j:Int,b=[.int j]/\-(2^62)<=j/\j<2^62/\R (Itr 0 j.toNat) e
def SD(d:TA):TI:=λa H R=>d a H λb e=>∃i j:Int,b=[.int i,.int j]/\(-(2^62)<=i/\i<2^62/\-(2^62)<=j/\j<2^62)/\R (Itr i (j-i).toNat) e
def sw{f:TA}(u:Gl a "range")(p:a.mg "range"=U)(y:PA a [v] f)(o:k_ [v] a.env=[(h_,eval v a.env)]:=by rfl):PI a h (.Call (.Name "range" k) [v] [] w) (SA f):=by intro z s g H R I b;refine Call_ (jf I u p boot_range (Yn (í (y w z s g H _ I b) λE P⟨D,Q,A,m,d⟩=>?_) o rfl));obtain⟨j,e,d,n,q⟩:=d;subst e;cases m with|cons r i=>cases i;obtain⟨t,rfl⟩:=r;exact call_range_1 (wG A () () d n (by simpa using q))
def zE{b:s_}{n:TA}(P:Gl a "range")(E:a.mg "range"=U)(Q:PA a [v,b] n)(D:k_ [v,b] a.env=[(h_,eval v a.env),(h_,eval b a.env)]:=by rfl)(f:k_ [b] a.env=[(h_,eval b a.env)]:=by rfl):PI a h (.Call (.Name "range" k) [v,b] [] w) (SD n):=by intro f' s o H R I d;refine Call_ (jf I P E boot_range (Yn (í (Q w f' s o H _ I d) λus s1⟨vs,H1,I1,p,m⟩=>?_) (by rw[D,f]) (by rw[f];rfl)));obtain⟨i,j,e,⟨m,A,z,y⟩,q⟩:=m;subst e;cases p with|cons r g=>cases g with|cons u g=>cases g;obtain⟨t,rfl⟩:=r;obtain⟨t',rfl⟩:=u;exact call_range_2 (wG I1 m A z y q)
def WE(h:TI)(g:TG)(j:TS):TS:=λD a H=>h a H λJ n=>∃W:Nat->Nat->St->Hp->Prop,(∃m,W 0 m a n)/\∀i m a H,W i m a H->(J.stop i H/\D.nx a H)\/(J.go i H/\∃N:St->Hp->Prop,(∀d b,N d b->∃f,f<m/\W (i+1) f d b)/\∀x b,J.yld i H x b->g x a b λe k=>j {D with nx:=N,ct:=N,bk:=D.nx} e k)
def gc(a:O%0)(h:O_):(O×Obj)%0:=a.filterMap λb=>(h.get? b).map λo=>(b,o)
def eP(b:e∈η)(a:I.get? e=Z Ä):(e,Ä)∈gc η I:=acf.mpr ⟨e,b,by rw[a];rfl⟩
def nv{p:O×Obj}(a:p∈gc η I):p.1∈η/\I.get? p.1=Z p.2:=by obtain⟨b,d,e⟩:=acf.mp a;cases q:I.get? b with|none=>rw[q]at e;cases e|some o=>rw[q]at e;have f:(b,o)=p:=X3 e;subst f;exact⟨d,q⟩
def N.pinned{fp:O%0}(I:N a δ Τ g f)(m:∀b∈fp,wF a δ g b)(k:∀b∈fp,∃o,f.heap.get? b=Z o/\∀v,o.data≠.cell v):N a (δ++gc fp f.heap) Τ g f:=I.pins_of λp j=>(XD.mp j).elim (λz=>I.pin p (q_ _ z)) λz=>by obtain⟨h,e⟩:=nv z;obtain⟨n,f1,R,_⟩:=m p.1 h;obtain⟨o,i,d⟩:=k p.1 h;rw[e]at i;cases i;exact⟨e,n,f1,R,d⟩
def N.unpinned{b:(O×Obj)%0}(I:N a (δ++b) Τ g f):N a δ Τ g f:=I.pins_of λp d=>I.pin p (q_ _ (R_ _ d))
def sx{wi:TI}{g:TG}{tb:TS}(hp:aaG (B_ a.prog a.w) a.A a.env a.xe)(hc:a.calm=L)(hi:PI a h v wi)(hg:PG a h g)(y:Ł a Υ tb)(hs:∀x,V_ v a.env x=pure x:=by intro _;rfl):PS a (.For h v Υ [] k) (WE wi g tb):=by
 intro f' s σ H D I p;refine wpAny_For (í (hi f' s σ H _ I p) λj s1 h1=>í h1 λk' s2 h2=>?_) hs;obtain⟨it,fp,tn,J,H2,e,I2,T,g',R,W,⟨m0,w0⟩,turn⟩:=h2;subst e;have Q:∀{H':Hp},(∀b∈fp,H' b=U)->∀b∈fp,wF a f' H' b:=λhn b y=>⟨hn b y,(R b y).2⟩;refine codeAny_forLoop_any (λn s'=>∃i P H',N a f' P H' s'/\tn i s'.heap/\(∀b∈fp,H' b=U)/\W i n P H') ?_ m0 ⟨0,σ,H2,I2,g',λb y=>(R b y).1,w0⟩;rintro n s3⟨i,E,H3,I3,b',c',w3⟩;rcases turn i n E H3 w3 with⟨d',qn⟩|⟨go,q,hN,step⟩;·refine aaO hp (í (T.done a rfl rfl rfl hc i f' s3 E H3 a.xe I3 (Q c') b' d') λr s4⟨hr,I4⟩=>?_);subst hr;exact ade ⟨E,H3,I4,qn⟩
 · refine aaO hp (í (T.item a rfl rfl rfl hc i f' s3 E H3 a.xe I3 (Q c') b' go) λr s4⟨u,hr,h4⟩=>?_);subst hr;refine aaO hp (í h4 λ_ s5⟨x,H5,I5,r5,y5,a',h'⟩=>?_);have i':=I5.pinned (Q h') (T.obj _ _ a');refine aaO hp (í (hg _ s5 E H5 x u _ i' r5 (step x H5 y5)) λ_ s6⟨e',H6,I6,q6⟩=>?_);refine aaO hp (í (y _ s6 e' H6 _ I6 q6) λf s7 q7=>?_);have again:∀{w:St}{A:Hp},N a (f'++gc fp s5.heap) w A s7->q w A->∃m,m<n/\∃i P H',N a f' P H' s7/\tn i s7.heap/\(∀b∈fp,H' b=U)/\W i m P H':=λ{w A}z n7=>by obtain⟨m',hm,w7⟩:=hN w A n7;refine⟨m',hm,i+1,w,A,z.unpinned,T.keep _ _ _ a' λb y o e=>(z.pin (b,o) (q_ _ (q_ _ (eP y e)))).1,λb y=>?_,w7⟩;obtain⟨o,e,d⟩:=T.obj _ _ a' b y;exact(z.pin (b,o) (q_ _ (q_ _ (eP y e)))).2.1
   cases f with|next=>obtain⟨w,A,z,n7⟩:=q7;exact again z n7|cont=>obtain⟨w,A,z,n7⟩:=q7;exact again z n7|brk=>obtain⟨w,A,z,q7⟩:=q7;exact⟨w,A,z.unpinned,q7⟩|ret j=>obtain⟨x7,w,A,z,r7,q7⟩:=q7;exact⟨x7,w,A,z.unpinned,r7,q7⟩
abbrev R2:=V->V->Hp->VK->Prop
def ă(X:C)(f:B->B->Sem B)(r:R2):Prop:=∀(b:(O×Obj)%0)(s:ge)(a:St)(H:Hp)(x y:V)(v u:B)(Q:VK),N X b a H s->ß x v->ß y u->r x y H Q->xy (B_ X.prog X.w) X.A (f v u) (EP X b a Q) X.xe s
def UnR(X:C)(f:B->Sem B)(r:V->Hp->VK->Prop):Prop:=∀(b:(O×Obj)%0)(s:ge)(a:St)(H:Hp)(x:V)(v:B)(Q:VK),N X b a H s->ß x v->r x H Q->xy (B_ X.prog X.w) X.A (f v) (EP X b a Q) X.xe s
def lH(X:C)(f:B)(r:V%0->Hp->VK->Prop):Prop:=∀(e:(O×Obj)%0)(s:ge)(a:St)(H:Hp)(b:V%0)(d:B%0)(Q:VK),N X e a H s->Ö b d->r b H Q->xy (B_ X.prog X.w) X.A (call f d) (EP X e a Q) X.xe s
def tOp(r:R2)(d b:TE):TE:=λa H Q=>d a H λx f=>b a f λy e=>r x y e Q
def tUn(r:V->Hp->VK->Prop)(b:TE):TE:=λa H Q=>b a H λx d=>r x d Q
def rI(C:Int->Int->Prop)(g:Int->Int->V):R2:=λx y H Q=>∃i j,x=.int i/\y=.int j/\C i j/\Q (g i j) H
def ŧ(g:Int->Int->V):R2:=λx y H Q=>∃i j,x=.int i/\y=.int j/\Q (g i j) H
def rU(g:Int->V):V->Hp->VK->Prop:=λx H Q=>∃i,x=.int i/\Q (g i) H
def SE{o:TE}(E:PE a h Ρ)(D:PE a v o){m:(O×Obj)%0}{s:ge}{e:St}{H:Hp}{R:V->V->Hp->Prop}(I:N a m e H s)(d:Ρ e H λx n=>o e n λy g=>R x y g){Q:B->ge->Prop}{f:B->B->Sem B}(A:∀b u k x y g,N a m e g k->ß x b->ß y u->R x y g->xy (B_ a.prog a.w) a.A (f b u) Q a.xe k):xy (B_ a.prog a.w) a.A (eval h a.env) (λb j=>xy (B_ a.prog a.w) a.A (eval v a.env) (λu i=>xy (B_ a.prog a.w) a.A (f b u) Q a.xe i) a.xe j) a.xe s:=by refine í (E m s e H _ I d) λb p⟨x,n,I1,r,z⟩=>?_;refine í (D m p e n _ I1 z) λu k⟨y,g,P,q,w⟩=>?_;exact A b u k x y g P r q w
def Nb{e:TE}{f:Operator}{r:R2}(n:ă a (ZL f) r)(p:PE a h Ρ)(o:PE a v e):PE a (.BinOp h f v k) (tOp r Ρ e):=by intro w s g H Q I d;exact wpAny_BinOp (SE p o I d λb u i x y A z m j q=>n w i g A x y b u Q z m j q)
def SF{e:UnaryOp}{r:V->Hp->VK->Prop}(m:UnR a (unaryOp e) r)(n:PE a h Ρ):PE a (.UnaryOp e h k) (tUn r Ρ):=by intro f s d H Q I b;exact UnaryOp_ (í (n f s d H _ I b) λv g⟨x,p,o,i,j⟩=>m f g d p x v Q o i j)
def opI{f:B->B->Sem B}{b:Int->Int->Prop}{g:Int->Int->Int}(d:∀(i j:Int)(t u:Tok)(s:ge)(Q:B->ge->Prop)(E:B->ge->Prop),b i j->Q (.int (g i j) s.toks) {s with toks:=s.toks+1}->xy (B_ a.prog a.w) a.A (f (.int i t) (.int j u)) Q E s):ă a f (rI b λi j=>.int (g i j)):=by intro p s o H x y v u Q I m k h;obtain⟨i,j,rfl,rfl,n,q⟩:=h;obtain⟨t,rfl⟩:=m;obtain⟨e,rfl⟩:=k;exact d i j t e s _ _ n ⟨.int (g i j),H,I.tok _,⟨_,rfl⟩,q⟩
def VG{f:B->B->Sem B}{g:Int->Int->Int}(b:∀(i j:Int)(t u:Tok)(s:ge)(Q:B->ge->Prop)(E:B->ge->Prop),Q (.int (g i j) s.toks) {s with toks:=s.toks+1}->xy (B_ a.prog a.w) a.A (f (.int i t) (.int j u)) Q E s):ă a f (ŧ λi j=>.int (g i j)):=by intro n s m H x y v u Q I k e h;obtain⟨i,j,rfl,rfl,q⟩:=h;obtain⟨t,rfl⟩:=k;obtain⟨d,rfl⟩:=e;exact b i j t d s _ _ ⟨.int (g i j),H,I.tok _,⟨_,rfl⟩,q⟩
def SG{f:B->B->Sem B}{g:Int->Int->Bool}(b:∀(i j:Int)(t u:Tok)(s:ge)(Q:B->ge->Prop)(E:B->ge->Prop),Q (.bool (g i j)) s->xy (B_ a.prog a.w) a.A (f (.int i t) (.int j u)) Q E s):ă a f (ŧ λi j=>.bl (g i j)):=by intro n s m H x y v u Q I k e h;obtain⟨i,j,rfl,rfl,q⟩:=h;obtain⟨t,rfl⟩:=k;obtain⟨d,rfl⟩:=e;exact b i j t d s _ _ ⟨.bl (g i j),H,I,rfl,q⟩
def VH(i j:Int):Prop:=0<j/\j<1073741824
def V'(i j:Int):Prop:=(-(2^64)<i/\i<2^64)\/(-(2^64)<j/\j<2^64)
def V'.ok(h:V' y Ã):IntMulOk y Ã:=by
 rcases h with⟨b,a⟩|⟨b,a⟩;·exact .of_left (intBits_le_64 b a)
 ·exact .of_right (intBits_le_64 b a)
def op_add:ă a (ZL .Add) (ŧ λi j=>.int (i+j)):=VG λ_ _ _ _ _ _ _ q=>add_int q
def Nc:ă a (ZL .Sub) (ŧ λi j=>.int (i-j)):=VG λ_ _ _ _ _ _ _ q=>sub_int q
def Nd:ă a (ZL .Mult) (rI V' λi j=>.int (i*j)):=opI λ_ _ _ _ _ _ _ b q=>mul_int q b.ok
def IL:ă a (ZL .FloorDiv) (rI VH λi j=>.int (i/j)):=opI λi j _ _ _ _ _ b q=>by have e:(0:Int)<j:=b.1;have d:j<1073741824:=b.2;exact floordiv_int () (by rw[Int.fdiv_eq_ediv_of_nonneg i ()];exact q) (.inl (PyProof.noPylong_small ()))
def Nf:ă a (ZL .Mod) (rI (λ_ j=>0<j) λi j=>.int (i%j)):=opI λi j _ _ _ _ _ b q=>by have d:(0:Int)<j:=b;exact mod_int' () (by rw[Int.fmod_eq_emod_of_nonneg i ()];exact q)
def unI{f:B->Sem B}{g:Int->Int}(b:∀(i:Int)(t:Tok)(s:ge)(Q:B->ge->Prop)(E:B->ge->Prop),Q (.int (g i) s.toks) {s with toks:=s.toks+1}->xy (B_ a.prog a.w) a.A (f (.int i t)) Q E s):UnR a f (rU λi=>.int (g i)):=by intro j s e H x v Q I d h;obtain⟨i,rfl,q⟩:=h;obtain⟨t,rfl⟩:=d;exact b i t s _ _ ⟨.int (g i),H,I.tok _,⟨_,rfl⟩,q⟩
def Ng:UnR a (unaryOp .USub) (rU λi=>.int (-i)):=unI λ_ _ _ _ _ q=>neg_int q
def SH:V->V->Bool|.non,.non=>L|.non,.int _=>L|.int _,.non=>L|.non,.bl _=>L|.bl _,.non=>L|.non,.str _=>L|.str _,.non=>L|.int _,.int _=>L|.bl _,.bl _=>L|.str _,.str _=>L|.byt _,.byt _=>L|.int _,.str _=>L|.str _,.int _=>L|.bl _,.str _=>L|.str _,.bl _=>L|_,_=>h_
def rEq:R2:=λx y H Q=>SH x y=L/\Q (.bl (A_ (x=y))) H
def rNe:R2:=λx y H Q=>SH x y=L/\Q (.bl (!A_ (x=y))) H
def vb:A_ (V.int y=V.int Ã)=(y==Ã):=by rw[Yt];simp
variable{H Ï:Bool}
def zF:A_ (V.bl H=V.bl Ï)=(H==Ï):=by rw[Yt];simp
variable{r:Str}
def ve:A_ (V.str d=V.str r)=(d==r):=by rw[Yt];simp
def zI{i j:Array UInt8}:A_ (V.byt i=V.byt j)=(i.toList==j.toList):=by rw[Yt];cases i;cases j;simp
variable{Ê:VK}
def bA(I:N a δ Τ g f)(q:Ê (.bl H) g)(e:H=Ï):EP a δ Τ Ê (.bool Ï) f:=by subst e;exact⟨.bl H,g,I,rfl,q⟩
def op_eq:ă a (XZ .Eq) rEq:=by intro k s g H x y v u Q I f b h;obtain⟨e,q⟩:=h;cases x with
 |non=>cases f;cases y with|non=>cases b;exact PySem.EqNone.eq_none_none (bA I q ∅)|bl j=>cases b;exact PySem.EqNone.eq_none_bool (bA I q ∅)|int j=>obtain⟨d,rfl⟩:=b;exact PySem.EqNone.eq_none_int (bA I q ∅)|str j=>obtain⟨d,rfl⟩:=b;exact PySem.EqNone.eq_none_str (bA I q ∅)|_=>exact absurd (show h_=L from e) H_
 |bl i=>cases f;cases y with|non=>cases b;exact PySem.EqNone.eq_bool_none (bA I q ∅)|bl j=>cases b;exact eq_bool (bA I q zF)|str j=>obtain⟨d,rfl⟩:=b;exact PySem.EqMixed.eq_bool_str (bA I q ∅)|_=>exact absurd (show h_=L from e) H_
 |int i=>obtain⟨t,rfl⟩:=f;cases y with|non=>cases b;exact PySem.EqNone.eq_int_none (bA I q ∅)|int j=>obtain⟨d,rfl⟩:=b;exact eq_int (bA I q vb)|str j=>obtain⟨d,rfl⟩:=b;exact PySem.EqMixed.eq_int_str (bA I q ∅)|_=>exact absurd (show h_=L from e) H_
 |str i=>obtain⟨t,rfl⟩:=f;cases y with|non=>cases b;exact PySem.EqNone.eq_str_none (bA I q ∅)|bl j=>cases b;exact PySem.EqMixed.eq_str_bool (bA I q ∅)|int j=>obtain⟨d,rfl⟩:=b;exact PySem.EqMixed.eq_str_int (bA I q ∅)|str j=>obtain⟨d,rfl⟩:=b;exact eq_str (bA I q ve)|_=>exact absurd (show h_=L from e) H_
 |byt i=>obtain⟨t,rfl⟩:=f;cases y with|byt j=>obtain⟨d,rfl⟩:=b;exact PySem.W.eq_bytes (bA I q zI)|_=>exact absurd (show h_=L from e) H_
 |_=>cases y<;>exact absurd (show h_=L from e) H_
def op_ne:ă a (XZ .NotEq) rNe:=by intro k s g H x y v u Q I f b h;obtain⟨e,q⟩:=h;cases x with
 |non=>cases f;cases y with|non=>cases b;exact PySem.EqNone.ne_none_none (bA I q ∅)|bl j=>cases b;exact PySem.EqNone.ne_none_bool (bA I q ∅)|int j=>obtain⟨d,rfl⟩:=b;exact PySem.EqNone.ne_none_int (bA I q ∅)|str j=>obtain⟨d,rfl⟩:=b;exact PySem.EqNone.ne_none_str (bA I q ∅)|_=>exact absurd (show h_=L from e) H_
 |bl i=>cases f;cases y with|non=>cases b;exact PySem.EqNone.ne_bool_none (bA I q ∅)|bl j=>cases b;exact ne_bool (bA I q (congrArg not zF))|str j=>obtain⟨d,rfl⟩:=b;exact PySem.EqMixed.ne_bool_str (bA I q ∅)|_=>exact absurd (show h_=L from e) H_
 |int i=>obtain⟨t,rfl⟩:=f;cases y with|non=>cases b;exact PySem.EqNone.ne_int_none (bA I q ∅)|int j=>obtain⟨d,rfl⟩:=b;exact ne_int (bA I q (congrArg not vb))|str j=>obtain⟨d,rfl⟩:=b;exact PySem.EqMixed.ne_int_str (bA I q ∅)|_=>exact absurd (show h_=L from e) H_
 |str i=>obtain⟨t,rfl⟩:=f;cases y with|non=>cases b;exact PySem.EqNone.ne_str_none (bA I q ∅)|bl j=>cases b;exact PySem.EqMixed.ne_str_bool (bA I q ∅)|int j=>obtain⟨d,rfl⟩:=b;exact PySem.EqMixed.ne_str_int (bA I q ∅)|str j=>obtain⟨d,rfl⟩:=b;exact ne_str (bA I q (congrArg not ve))|_=>exact absurd (show h_=L from e) H_
 |byt i=>obtain⟨t,rfl⟩:=f;cases y with|byt j=>obtain⟨d,rfl⟩:=b;exact PySem.W.ne_bytes (bA I q (congrArg not zI))|_=>exact absurd (show h_=L from e) H_
 |_=>cases y<;>exact absurd (show h_=L from e) H_
def op_lt:ă a (XZ .Lt) (ŧ λi j=>.bl (A_ (i<j))):=SG λ_ _ _ _ _ _ _ q=>lt_int q
def op_le:ă a (XZ .LtE) (ŧ λi j=>.bl (A_ (i<=j))):=SG λ_ _ _ _ _ _ _ q=>le_int q
def Nh:ă a (XZ .Gt) (ŧ λi j=>.bl (A_ (j<i))):=SG λ_ _ _ _ _ _ _ q=>gt_int q
def zJ:ă a (XZ .Lt) (λx y H Q=>∃i j,x=.str i/\y=.str j/\Q (.bl (A_ (i.cps.toList<j.cps.toList))) H):=by intro g s e H x y v u Q I d b h;obtain⟨i,j,rfl,rfl,q⟩:=h;obtain⟨t,rfl⟩:=d;obtain⟨f,rfl⟩:=b;exact lt_str (bA I q rfl)
def op_in_str:ă a (XZ .In) (λx y H Q=>∃i j,x=.str i/\y=.str j/\Q (.bl (!(X0 j i 0 j.length 1).isEmpty)) H):=by intro g s e H x y v u Q I d b h;obtain⟨i,j,rfl,rfl,q⟩:=h;obtain⟨t,rfl⟩:=d;obtain⟨f,rfl⟩:=b;exact in_str (bA I q rfl)
def Hh:ă a (XZ .Is) (λx y H Q=>y=.non/\Q (.bl (A_ (x=.non))) H):=by intro f s e H x y v u Q I b d h;obtain⟨rfl,q⟩:=h;cases d;refine is_none_gen (bA I q ?_);cases x<;>first|(cases b;rfl)|(obtain⟨t,rfl⟩:=b;rfl)
def zK:ă a (XZ .IsNot) (λx y H Q=>y=.non/\Q (.bl (!A_ (x=.non))) H):=by intro f s e H x y v u Q I b d h;obtain⟨rfl,q⟩:=h;cases d;refine isnot_none_gen (bA I q ?_);cases x<;>first|(cases b;rfl)|(obtain⟨t,rfl⟩:=b;rfl)
def ă.or{f:B->B->Sem B}{r g:R2}(h:ă a f r)(j:ă a f g):ă a f (λx y H Q=>r x y H Q\/g x y H Q):=by
 intro i s b H x y v u Q I e d q;rcases q with q|q;·exact h i s b H x y v u Q I e d q
 ·exact j i s b H x y v u Q I e d q
def VI(b:s_){a:afn}(h:a≠.In:=by decide)(d:a≠.NotIn:=by decide):W_ a b=h_:=by
 have f:(a==CmpOp.In)=h_:=by cases a<;>first|rfl|exact absurd rfl h
 have e:(a==CmpOp.NotIn)=h_:=by cases a<;>first|rfl|exact absurd rfl d
 cases b<;>simp[W_,f,e]
def zL{f:TE}{e:afn}{r:R2}(n:ă a (XZ e) r)(w:PE a h Ρ)(p:PE a v f)(o:W_ e v=h_):PE a (.Compare h [e] [v] k) (tOp r Ρ f):=by intro z s g H Q I d;exact wpAny_Compare1 (SE w p I d λb u i x y D A m j q=>n z i g D x y b u Q A m j q) o
def SI(t:TE):TT:=λa H Q=>t a H λx b=>∃k,x=.bl k/\Q k b
def zM{m:TE}{i:afn}{r:R2}(P:ă a (XZ i) r)(ha:PE a h Ρ)(hb:PE a v m)(hm:W_ i v=h_):PT a (.Compare h [i] [v] k) (SI (tOp r Ρ m)):=by intro j s g H Q I d;refine wpAny_isTrue_Compare1 (í (ha j s g H _ I d) λb o⟨x,H1,I1,w,E⟩=>í (hb j o g H1 _ I1 E) λu n⟨y,H2,I2,q,D⟩=>í (P j n g H2 x y b u _ I2 w q D) λc s3⟨z,H3,I3,p,f,e,A⟩=>?_) hm;subst e;cases p;exact Y7 ⟨H3,I3,A⟩
def sy:(sizeLine:Nat)<2^63:=by rw[abB];decide
def op_add_str:ă a (ZL .Add) (λx y H Q=>∃i j,x=.str i/\y=.str j/\i.length+j.length<=sizeLine/\Q (.str (i++j)) H):=by intro m s g H x y v u Q I e d h;obtain⟨i,j,rfl,rfl,f,q⟩:=h;obtain⟨t,rfl⟩:=e;obtain⟨b,rfl⟩:=d;exact add_str (λb k=>⟨.str (i++j),H,I.tok _,⟨_,rfl⟩,q⟩) f
def gK(r:Ö [υ] P):∃u,P=[u]/\ß υ u:=by cases r with|cons b a=>cases a;exact⟨_,rfl,b⟩
def IM{y:V}(r:Ö [υ,y] P):∃u a,P=[u,a]/\ß υ u/\ß y a:=by cases r with|cons f e=>cases e with|cons d b=>cases b;exact⟨_,_,rfl,f,d⟩
def zN(e:a.calm=L):lH a (.builtin "min") (λd H Q=>∃i j,d=[.int i,.int j]/\Q (.int (if j<i then j else i)) H):=by
 intro v s f H d m Q I r h;obtain⟨i,j,rfl,q⟩:=h;obtain⟨u,g,rfl,⟨t,rfl⟩,⟨o,rfl⟩⟩:=IM r;refine min_two_ints (I.ok.hd e) λp n k=>⟨_,H,I.kept k,?_,q⟩;by_cases b:j<i;·rw[if_pos b,if_pos b];exact⟨_,rfl⟩
 ·rw[if_neg b,if_neg b];exact⟨_,rfl⟩
def WF(K:d_)(x:V)(H:Hp)(n:Nat):Prop:=match x with|.str y=>y.length<=sizeLine/\n=y.length|.byt y=>y.size<=sizeLine/\n=y.size|.ref p=>(∃a,ā K H p a/\n=a.length)\/∃a,û K H p a/\n=a.length|_=>False
def DR:lH a (.builtin "len") (λb H Q=>∃x n,b=[x]/\WF a.K x H n/\Q (.int n) H):=by intro D s v H b w Q I r h;obtain⟨x,n,rfl,e,q⟩:=h;obtain⟨u,rfl,g⟩:=gK r;have A:=sy;have z:sizeLine=16777216:=abB;cases x with
 |str y=>obtain⟨t,rfl⟩:=g;obtain⟨o,f⟩:y.length<=sizeLine/\n=y.length:=e;subst f;exact len_str () ⟨.int _,H,I.tok _,⟨_,rfl⟩,q⟩|byt y=>obtain⟨t,rfl⟩:=g;obtain⟨o,f⟩:y.size<=sizeLine/\n=y.size:=e;subst f;exact PySem.W.len_bytes () ⟨.int _,H,I.tok _,⟨_,rfl⟩,q⟩|ref p=>
 cases g;have f:(∃b,ā a.K H p b/\n=b.length)\/∃b,û a.K H p b/\n=b.length:=e;rcases f with⟨b,j,f⟩|⟨b,j,f⟩;·subst f;obtain⟨k,i,pl,m⟩:=I.list j;have d:=i.length;exact Calls.call_len_list pl.isList (by simp![I_];lia) ⟨.int b.length,H,I.tok _,⟨_,by simp![I_];rw[d]⟩,q⟩
 ·subst f;obtain⟨k,i,pl,m⟩:=I.tuple j;have d:=i.length;exact len_tuple pl (by simp![I_];lia) ⟨.int b.length,H,I.tok _,⟨_,by simp![I_];rw[d]⟩,q⟩|_=>exact(show False from e).elim
structure Ŗ(h:O_)(x dx C:O)(mA:Str->B%1):Prop where
 obj:h.get? x=Z (Zo C dx)ns:h.Ns1 dx mA
 ne:dx≠x
variable{Ζ:Str->B%1}
def zO(n:I.Ns1 e Ζ):∃g,I.get? e=Z g/\∀d,ab6 d g=Z (Ζ d):=by
 obtain⟨o,h,s,j,p,m,_,k⟩:=n;refine⟨o,j,λd=>?_⟩;have b:=k d;unfold nsFind findBy at b;rw[<-Array.find?_toList]at b;unfold ab6;rw[p];dsimp!;split;·rename_i y q;rw[q]at b;exact congrArg Z b
 · rename_i q;rw[q]at b;have a:h.toList.any (·.refKey)=h_:=by rw[aeD];intro y i;obtain⟨z,t,f⟩:=m y (ZO.mp i);simp[DictEntry.refKey,f]
   have r:¬h.toList.any (·.refKey)=L:=by rw[a];exact H_
   rw[if_neg r];exact congrArg Z b
def Ŗ.look{C:O}(a:Ŗ I e A C Ζ):∃d,PySem.W.InstAt I e (Zo C A) C (Z d)/\∀b,ab6 b d=Z (Ζ b):=let⟨d,f,g⟩:=zO a.ns;⟨d,⟨a.obj,rfl,rfl,f⟩,g⟩
def IN{C:O}(X:q.In f.heap)(I:Ŗ f.heap e A C Ζ)(j:aaF q C d=L)(i:aba q C=L)(k:YC q (.ref C) d=Z U)(b:Ζ d=Z ω)(a:aeH ω=L)(h:Å ω {f with toks:=f.toks+1}):xy (B_ p n) D (getAttr (.ref e) d H) Å ν f:=by obtain⟨m,J,g⟩:=I.look;exact PySem.W.get_value X J (abP j).1 (PySem.W.findObj_own i k rfl (by rw[g,b])) a h
def DS{C a:O}{g:Sem Bool}{Q:B×B%0->ge->Prop}(X:q.In f.heap)(I:Ŗ f.heap e A C Ζ)(b:aaF q C d=L)(o:YC q (.ref C) d=Z (Z (.ref a)))(k:ac2 q (.ref a)=L)(j:Ζ d=U)(h:Q (.ref a,[.ref e]) f):xy (B_ p n) D (adQ (.ref e) d g) Q ν f:=by obtain⟨i,J,m⟩:=I.look;exact PySem.W.method_fn X J (abP b).1 (abP b).2 o (beq_iff_eq.mp k) (by show(ab6 d i).map (·.isSome)=Z h_;rw[m,j];rfl) h
def IP{C:O}{Q:Unit->ge->Prop}(X:q.In f.heap)(I:Ŗ f.heap e A C Ζ)(v:YC q (.ref C) "__setattr__"=Z (Z (.builtin "object.__setattr__")))(w:aco q C=L)(u:adh q C d=Z U)(z:aba q C=L)(s:aeq Ζ E)(P:E.length<=sizeLine)(h:∀i,Ŗ i e A C (λy=>if y=d then Z ω else Ζ y)->YO A f.heap i->Q Unit.unit {f with heap:=i,toks:=f.toks+2}):xy (B_ p n) D (setAttr (.ref e) d ω) Q ν f:=by obtain⟨od,J,hl⟩:=I.look;refine PySem.W.set_plain X J v (PySem.W.osa_open (s:={f with toks:=f.toks+1}) (r:=U) X J w u λb=>?_);obtain⟨cd,H,m⟩:=PySem.W.any_some z;have r:f.heap.get? e=Z ⟨.ref C,Z A,.plain,#[]⟩:=I.obj;refine c_ (i_ (c_ (c_ (wpAny_loadPart r (c_ (PySem.W.Looks.here (s:={f with toks:=f.toks+1}) (PySem.W.looks_clsIn X H) ?_))))));rw[m];refine i_ (a:=Z A) (c_ (i_ (c_ ?_)));refine wpAny_nsSet1 (s:={f with toks:=f.toks+1}) I.ns λi g a=>?_;obtain⟨oD,a',b',j,k,o⟩:=g.count (PySem.Within.cons d ω s);refine c_ (wpAny_lookBehind j (by rw[k];exact pastItsLine_dict (Xx o (by rw[Xu];lia))) ?_);exact i_ (h _ ⟨(a.2 _ (YH I.ne)).trans I.obj,g,I.ne⟩ a)
def DT{R:aeL->ge->Prop}{b:(Str×B)%0}(X:q.In f.heap)(i:ae0 q e=L)(j:YC q (.ref e) "__init__"=Z (Z (.ref A)))(k:PySem.W.typeIn q (.ref A)=Z (.type "function"))(h:ŭ (B_ p n) (D.under (.builtin "type.__call__" ⟨.ref e::P,b⟩)) (.call (.ref A) ⟨.ref (f.heap.objs.size+1)::P,b⟩) (PySem.W.InitBack (f.heap.objs.size+1) R) {f with heap:=(f.heap.push YV).push (Zo e f.heap.objs.size)}):ŭ (B_ p n) D (.call (.ref e) ⟨P,b⟩) R f:=by obtain⟨m,g,d,t,os⟩:=f;exact PySem.W.make_core (PySem.W.makes_of X i) (PySem.W.looks_findIn X j) (λa=>PySem.W.bind_fn X a k) (.inl rfl) h
def pD(f:Str)(v:V):(Str×V)%0->(Str×V)%0|[]=>[(f,v)]|(g,x)::r=>if g=f then(g,v)::r else(g,x)::pD f v r
def ny(f g:Str)(v:V):∀fs:(Str×V)%0,(pD f v fs).lookup g=if g=f then Z v else fs.lookup g
 |[]=>by
  show aa8 g [(f,v)]=_;by_cases h:g=f;·have a:(g==f)=L:=beq_iff_eq.mpr h;simp![aa8,a,if_pos h]
  ·have a:(g==f)=h_:=beq_eq_false_iff_ne.mpr h;simp![aa8,a,if_neg h]|(k,x)::r=>by
  have d:=ny f g v r;rw[show pD f v ((k,x)::r)=(if k=f then(k,v)::r else(k,x)::pD f v r)from rfl];by_cases b:k=f
  · rw[if_pos b];by_cases h:g=k;·have a:(g==k)=L:=beq_iff_eq.mpr h;simp![aa8,a,if_pos (h.trans b)]
    ·have a:(g==k)=h_:=beq_eq_false_iff_ne.mpr h;simp![aa8,a,if_neg (λe:g=f=>h (e.trans b.symm))]
  · rw[if_neg b];by_cases h:g=k;·have a:(g==k)=L:=beq_iff_eq.mpr h;simp![aa8,a,if_neg (λe:g=f=>b (h.symm.trans e))]
    ·have a:(g==k)=h_:=beq_eq_false_iff_ne.mpr h;simp![aa8,a];exact d
def nA(f:Str)(v:V):∀fs:(Str×V)%0,f∈(pD f v fs).map (·.1)/\∀g,g∈fs.map (·.1)->g∈(pD f v fs).map (·.1)
 |[]=>⟨by simp[pD],λg h=>by simp at h⟩|(k,x)::r=>by
  obtain⟨b,i2⟩:=nA f v r;rw[show pD f v ((k,x)::r)=(if k=f then(k,v)::r else(k,x)::pD f v r)from rfl];by_cases a:k=f;·rw[if_pos a];subst a;exact⟨by simp,λg h=>by simpa using h⟩
  · rw[if_neg a];refine⟨?_,λg h=>?_⟩;·rw[F_];exact pi _ b
    · rw[F_]at h⊢;rcases p_.mp h with e|e;·exact p_.mpr (.inl e)
      ·exact pi _ (i2 g e)
def nB(f:Str)(v:V):∀fs:(Str×V)%0,(pD f v fs).length<=fs.length+1
 |[]=>by simp[pD]|(k,x)::r=>by
  have b:=nB f v r;rw[show pD f v ((k,x)::r)=(if k=f then(k,v)::r else(k,x)::pD f v r)from rfl];by_cases a:k=f;·rw[if_pos a,Xu,Xu];lia
  ·rw[if_neg a,Xu,Xu];lia
def đ.some_of{o:B%1}(r:đ (Z υ) o):∃u,o=Z u/\ß υ u:=by cases o with|none=>exact(show False from r).elim|some u=>exact⟨u,rfl,r⟩
def đ.none_of{o:B%1}(r:đ U o):o=U:=by cases o with|none=>rfl|some u=>exact(show False from r).elim
def zP(r:ß υ ω):aeH ω=L:=by cases υ with|non=>cases(show ω=M_ from r);rfl|bl b=>cases(show ω=XA b from r);rfl|int i=>obtain⟨t,e⟩:=(show∃t,ω=adS i t from r);cases e;rfl|str x=>obtain⟨t,e⟩:=(show∃t,ω=Zh x t from r);cases e;rfl|byt b=>obtain⟨t,e⟩:=(show∃t,ω=Value.bytes b t from r);cases e;rfl|flt b=>obtain⟨t,e⟩:=(show∃t,ω=aeV b t from r);cases e;rfl|ref a=>cases(show ω=U_ a from r);rfl|ty n=>cases(show ω=t_ n from r);rfl
def qJ{j:O}{i:(Str×V)%0}(k:č p n g I)(b:g e=Z (.ins A j i)):∃h,Ŗ I e j A h/\(∀f,đ (i.lookup f) (h f))/\aeq h (i.map (·.1))/\i.length<=1000/\g j=Z (.own e):=by obtain⟨d,z,ne,m,h,a,r,q⟩:=(show ð p n g I e (.ins A j i)from k e _ b);exact⟨h,⟨m,a,ne⟩,r,q,z,d⟩
structure Ŷ(K:d_)(C:O):Prop where
 pg:aaF K C Str.empty=L
 hd:aba K C=L
 po:aco K C=L
 sa:YC K (.ref C) "__setattr__"=Z (Z (.builtin "object.__setattr__"))
def Ŷ.get(c:Ŷ q e)(f:Str):aaF q e f=L:=c.pg
def Ĕ(K:d_)(C:O)(f:Str):Prop:=YC K (.ref C) f=Z U
def Ĕ.taker(n:Ĕ q e d):adh q e d=Z U:=by unfold adh;rw[show YC q (.ref e) d=Z U from n];rfl
structure MK(K:d_)(C:O)(m:Str)(f:O):Prop where
 at_:YC K (.ref C) m=Z (Z (.ref f))fn:ac2 K (.ref f)=L
 kp:Yv K (.ref f)=L
def yj{q:O}{m:(Str×V)%0}(I:N a δ Τ g f)(b:g e=Z (.ins A q m))(c:Ŷ a.K A)(n:Ĕ a.K A d)(l:m.lookup d=Z υ)(h:∀u j,N a δ Τ g j->ß υ u->Å u j):xy (B_ a.prog a.w) D (getAttr (.ref e) d H) Å ν f:=by obtain⟨o,i,r,_,_,_⟩:=qJ I.hok b;obtain⟨u,p,k⟩:=đ.some_of (υ:=υ) (o:=o d) (by rw[<-l];exact r d);exact IN I.kIn i (c.get d) c.hd n p (zP k) (h u _ (I.tok _) k)
def pE{q:O}{m:(Str×V)%0}{b:O}{n:Sem Bool}{Q:B×B%0->ge->Prop}(I:N a δ Τ g f)(i:g e=Z (.ins A q m))(c:Ŷ a.K A)(k:MK a.K A d b)(l:m.lookup d=U)(h:Q (.ref b,[.ref e]) f):xy (B_ a.prog a.w) D (adQ (.ref e) d n) Q ν f:=by obtain⟨o,j,r,_,_,_⟩:=qJ I.hok i;have p:o d=U:=đ.none_of (by rw[<-l];exact r d);exact DS I.kIn j (c.get d) k.at_ k.fn p h
def yk{p:O}{m:(Str×V)%0}{Q:Unit->ge->Prop}(I:N a δ Τ g f)(k:g e=Z (.ins A p m))(c:Ŷ a.K A)(n:Ĕ a.K A d)(hl:m.length<1000)(H:ß υ ω)(h:∀v,N a δ Τ (å g e (.ins A p (pD d υ m))) v->Q Unit.unit v):xy (B_ a.prog a.w) D (setAttr (.ref e) d ω) Q ν f:=by
 obtain⟨w,j,r,u,_,y⟩:=qJ I.hok k;have P:(m.map (·.1)).length<=sizeLine:=by rw[T_,abB];lia
 refine IP I.kIn j c.sa c.po n.taker c.hd u P λh' s E=>h _ ?_;have hd:∃o,h'.get? p=Z o:=let⟨o,_,_,e',_⟩:=s.ns;⟨o,e'⟩;refine I.write (x:=e) (e:=p) (by rw[k];exact ZP) (.inr y) (λb q hb z=>(E.2 b hb).trans z) hd ?_;refine⟨by rw[aq j.ne];exact y,?_,j.ne,s.obj,_,s.ns,λi=>?_,λi hg=>?_⟩;·have:=nB d υ m;lia
 · show đ ((pD d υ m).lookup i) (if i=d then Z ω else w i);rw[ny];by_cases q:i=d;·rw[if_pos q,if_pos q];exact H
   ·rw[if_neg q,if_neg q];exact r i
 · by_cases q:i=d;·rw[q];exact(nA d υ m).1
   ·refine(nA d υ m).2 i (u i λz=>hg ?_);show(if i=d then Z ω else w i)=U;rw[if_neg q];exact z
def N.made(I:N a δ Τ g f):N a δ Τ (å (å g f.heap.objs.size (.own (f.heap.objs.size+1))) (f.heap.objs.size+1) (.ins e f.heap.objs.size [])) {f with heap:=(f.heap.push YV).push (Zo e f.heap.objs.size)}:=by
 have h:(f.heap.push YV).get? f.heap.objs.size=Z YV:=rl f.heap rfl;have m:((f.heap.push YV).push (Zo e f.heap.objs.size)).get? (f.heap.objs.size+1)=Z (Zo e f.heap.objs.size):=by have:=rl (f.heap.push YV) (o:=Zo e f.heap.objs.size) rfl;rwa[Xw]at this
 have k:(f.heap.push YV).Ns f.heap.objs.size (λ_=>U):=⟨YV,#[],_,h,rfl,(λd j=>absurd j ∅),λ_=>rfl⟩;have n:=I.laid (a:=f.heap.objs.size) (o:=.own (f.heap.objs.size+1)) (h':=f.heap.push YV) (t':=f.toks) (λb u q=>l_ _ q) (o_ _) ⟨_,h⟩;refine n.laid (a:=f.heap.objs.size+1) (o:=.ins e f.heap.objs.size []) (t':=f.toks) (λb u q=>l_ _ q) (abi (Xw _ _)) ?_;have ne:f.heap.objs.size≠f.heap.objs.size+1:=D_ (Y3 _);refine⟨by rw[aq ne,ao],XG _,ne,m,λ_=>U,(Heap.Ns1.of_empty k).at λo q=>l_ _ q,λ_=>ZP,λy i=>absurd rfl i⟩
def IQ{b:Env}(g:X_ h d b (eval h b)=eval h b)(a:xy (B_ p n) D (eval h b) (λo e=>xy (B_ p n) D (getAttr o d L) Å ν e) ν f):xy (B_ p n) D (eval (.Attribute h d k) b) Å ν f:=Attribute_any_ a (by rw[arm_eval_Attribute,g])
def WG(K:d_)(e:TE)(f:Str):TE:=λd H Q=>e d H λx b=>∃a C g fs v,x=.ref a/\b a=Z (.ins C g fs)/\Ŷ K C/\Ĕ K C f/\fs.lookup f=Z v/\Q v b
def WH(K:d_)(h g:TE)(f:Str):TS:=λD b H=>g b H λy i=>h b i λx e=>∃a C d fs,x=.ref a/\e a=Z (.ins C d fs)/\Ŷ K C/\Ĕ K C f/\fs.length<1000/\D.nx b (å e a (.ins C d (pD f y fs)))
def Hi(m:PE a h Ρ)(o:X_ h d a.env (eval h a.env)=eval h a.env):PE a (.Attribute h d k) (WG a.K Ρ d):=by intro p s g H Q I b;refine IQ o (í (m p s g H _ I b) λu P⟨x,A,z,i,e,f,dx,fs,v,r,w,c,n,l,q⟩=>?_);subst r;obtain rfl:u=U_ e:=i;exact yj z w c n l λD E y j=>⟨v,A,y,j,q⟩
def Ni{i:TE}(P:PE a h Ρ)(A:PE a v i)(E:Yb v (Z (.Attribute h d w)) k.line a.env=pure h_):PS a (.Assign [.Attribute h d w] v k) (WH a.K Ρ i d):=by intro j s g H D I b;refine plainObj_wpAny_Assign_Attribute (í (A j s g H _ I b) λu m⟨y,H1,I1,o,q⟩=>í (P j m g H1 _ I1 q) λz s2⟨x,H2,I2,p,e,f,dx,fs,Q,ea,c,n,l,r⟩=>?_) E;subst Q;obtain rfl:z=U_ e:=p;exact yk I2 ea c n l o λs3 I3=>⟨g,_,I3,r⟩
inductive wH(K:d_)(H:Hp):V->B->Prop where|non:wH K H .non (.type "NoneType")|bl(x:Bool):wH K H (.bl x) (.type "bool")|int(i:Int):wH K H (.int i) (.type "int")|str(x:Str):wH K H (.str x) (.type "str")|flt(x:UInt64):wH K H (.flt x) (.type "float")|lst{a:O}{xs:V%0}(e:H a=Z (.lst xs)):wH K H (.ref a) (.type "list")|frz{a:O}{o:Obj}{xs:V%0}(e:H a=Z (.frz o (.lst xs))):wH K H (.ref a) (.type "list")|tup{a:O}{xs:V%0}(e:H a=Z (.tup xs)):wH K H (.ref a) (.type "tuple")|dK{a:O}{kvs:(þ×V)%0}(e:H a=Z (.dK kvs)):wH K H (.ref a) (.type "dict")|dT{a:O}{kvs:(þ%0×V)%0}(e:H a=Z (.dT kvs)):wH K H (.ref a) (.type "dict")|ins{a C dx:O}{fs:(Str×V)%0}(e:H a=Z (.ins C dx fs))(cl:Ŷ K C)(ha:YC K (.ref C) "__class__"=Z (Z (.builtin "object.__class__")))(hn:PySem.W.specialIn K (.builtin "object.__class__") "__get__"=Z (Z (.builtin "getset_descriptor.__get__")))(htk:PySem.W.takesIn K (.builtin "object.__class__")=Z L)(hm:PySem.W.mroIn K C (.type "object")=Z L):wH K H (.ref a) (.ref C)
def zQ{u t:B}(I:N a δ Τ g f)(k:ß υ u)(P:wH a.K g υ t)(e:Zx a.K t ω=Z H)(h:∀Q,Å (.bool H) {f with toks:=Q}):xy (B_ a.prog a.w) D (call (.builtin "isinstance") [u,ω]) Å ν f:=by cases P with|non=>cases(show u=M_ from k);exact YM PySem.W.kitx_none I.kIn ZP e (λz=>nomatch z) h|bl y=>cases(show u=XA y from k);exact YM PySem.W.kitx_bool I.kIn ZP e (λz=>nomatch z) h|int i=>obtain⟨t,q⟩:=(show∃t,u=adS i t from k);cases q;exact YM PySem.W.kitx_int I.kIn ZP e (λz=>nomatch z) h|str y=>obtain⟨t,q⟩:=(show∃t,u=Zh y t from k);cases q;exact YM PySem.W.kitx_str I.kIn ZP e (λz=>nomatch z) h|flt y=>obtain⟨t,q⟩:=(show∃t,u=aeV y t from k);cases q;exact YM PySem.W.kitx_float I.kIn ZP e (λz=>nomatch z) h|@lst b v m=>cases(show u=U_ b from k);obtain⟨_,_,n,_,r⟩:=(show ð a.prog a.w g f.heap b (.lst v)from I.hok b _ m);exact YM aer I.kIn ⟨_,r,rfl⟩ e (λz=>nomatch z) h|@frz b ob v m=>cases(show u=U_ b from k);obtain⟨_,_,_,n,_,r⟩:=(show ð a.prog a.w g f.heap b (.frz ob (.lst v))from I.hok b _ m);exact YM aer I.kIn ⟨_,r,rfl⟩ e (λz=>nomatch z) h|@tup b v m=>cases(show u=U_ b from k);obtain⟨_,_,_,p⟩:=(show ð a.prog a.w g f.heap b (.tup v)from I.hok b _ m);obtain⟨o,r,w,_⟩:=p;exact YM PySem.W.kitx_tuple I.kIn ⟨o,r,w⟩ e (λz=>nomatch z) h|@dK b s m=>cases(show u=U_ b from k);obtain⟨_,_,vs,_,p⟩:=(show ð a.prog a.w g f.heap b (.dK s)from I.hok b _ m);obtain⟨o,es,ep,r,w,_⟩:=p;exact YM aes I.kIn ⟨o,r,w.1⟩ e (λz=>nomatch z) h|@dT b s m=>cases(show u=U_ b from k);obtain⟨_,_,v,_,o,es,ep,r,w,_⟩:=(show ð a.prog a.w g f.heap b (.dT s)from I.hok b _ m);exact YM aes I.kIn ⟨o,r,w.1⟩ e (λz=>nomatch z) h|@ins b j dx fs m E ha hn A hm=>cases(show u=U_ b from k);obtain⟨mA,d,_⟩:=qJ I.hok m;obtain⟨od,J,_⟩:=d.look;exact YM (PySem.W.kitx_own (E.get _) E.hd ha hn A hm) I.kIn J e (λz=>nomatch z) h
structure ã(k:Nat)(A:x_):Prop where
 hd:A.handled=U
 dp:A.depth+3*k+5<recursionLimit
 un:A.units+16*k+200<cLine
 gd:A.guards=Z []
def ã.mono(r:ã o D)(h:b<=o):ã b D:=⟨r.hd,by have:=r.dp;lia,by have:=r.un;lia,r.gd⟩
def ã.deeper(r:ã (b+1) D)(a:Env):ã b (D.deeper a):=⟨r.hd,by have:=r.dp;show D.depth+1+3*b+5<_;lia,by have:=r.un;show D.units+3+16*b+200<_;lia,r.gd⟩
def ã.in1(r:ã (b+1) D):ã b D.in1:=⟨r.hd,by have:=r.dp;show D.depth+3*b+5<_;lia,by have:=r.un;show D.units+1+16*b+200<_;lia,r.gd⟩
def ym{a:(Str×B)%0}:(D.under (.builtin "type.__call__" ⟨.ref e::P,a⟩)).depth=D.depth+1:=by first|rfl|simp[ac9,Code.weight,Code.isCreation,Code.isGuard,Code.isCaller,Code.frames,aev,guardIds]
def yn{a:(Str×B)%0}:(D.under (.builtin "type.__call__" ⟨.ref e::P,a⟩)).units=D.units+1:=by first|rfl|simp[ac9,Code.cUnits,Code.frames,aev]
def ã.make(r:ã (b+1) D)(C:O)(a:B%0)(d:(Str×B)%0):ã b (D.under (.builtin "type.__call__" ⟨.ref C::a,d⟩)):=⟨r.hd,by have:=r.dp;rw[ym];lia,by have:=r.un;rw[yn];lia,by have:=r.gd;simp[ac9,Code.guards,Code.isGuard,guardIds,pushGuards,this]⟩
def ã.depth(r:ã b D):D.depth<recursionLimit:=by have:=r.dp;lia
def ã.units(r:ã b D):D.units+64<cLine:=by have:=r.un;lia
def ã.units0(r:ã b D):D.units<cLine:=by have:=r.un;lia
def VJ:TA:=λ_ H Q=>Q [] H
def SJ(e:TE)(d:TA):TA:=λa H Q=>e a H λx g=>d a g λb f=>Q (x::b) f
def sE:PA a [] VJ:=λ_ _ _ _ H Q I h=>aao ⟨[],H,I,.nil,h⟩
def jp{t:TA}(q:PE a h Ρ)(p:PA a s t)(o:h%8:=by rfl):PA a (h::s) (SJ Ρ t):=by intro pos f b e H Q I d;rw[o];show xy _ _ (spliced ((h_,eval h a.env)::Xv pos (k_ s a.env))) _ _ b;refine ZA (í (q f b e H _ I d) λu i⟨x,y,v,k,n⟩=>?_);exact í (p pos f i e y _ v n) λz A⟨g,w,r,j,m⟩=>⟨x::g,w,r,.cons k j,m⟩
def WI(t:TA):TE:=λd H Q=>t d H λa b=>a.length<=sizeLine/\∀p,b p=U->Q (.ref p) (å b p (.tup a))
def WJ(t:TA):TE:=λd H Q=>t d H λa b=>a.length<=sizeLine/\∀p,b p=U->Q (.ref p) (å b p (.lst a))
def zR{t:TA}{n}(h:PA a s t):PE a (.Tuple s n k) (WI t):=by intro w d j H Q I p;refine wpAny_Tuple_spliced (í (h k w d j H _ I p) λo f⟨m,i,g,r,z,q⟩=>⟨by rw[<-r.length];exact z,?_⟩);have v:i f.heap.objs.size=U:=g.hok.fresh (o_ _);refine⟨.ref f.heap.objs.size,å i f.heap.objs.size (.tup m),g.laid (t':=f.toks) (λb u e=>l_ _ e) (o_ _) ?_,rfl,q _ v⟩;exact⟨z,o,r,⟨_,rl _ rfl,rfl,_,rfl⟩⟩
def wI{t:TA}(h:PA a s t):PE a (.List s k) (WJ t):=by intro v d j H Q I o;refine wpAny_List_spliced (í (h k v d j H _ I o) λn f⟨m,i,g,r,z,q⟩=>⟨by rw[<-r.length];exact z,?_⟩);have p:i f.heap.objs.size=U:=g.hok.fresh (o_ _);refine⟨.ref f.heap.objs.size,å i f.heap.objs.size (.lst m),g.laid (t':=f.toks) (λb u e=>l_ _ e) (o_ _) ?_,rfl,q _ p⟩;exact⟨z,n,0,r,rl _ rfl⟩
abbrev Sp:=V%0->Hp->VK->XK->Prop
abbrev ŉ:=Env%0->Hp->ge->XK->B->ge->Prop
structure ŕ(P:m_)(w:v_)(K:d_)(mg:Str->B%1)(base:O_)(A:x_)(outer:Env%0)(s:ge)(H:Hp):Prop where
 frames:A.frames=Z outer
 mod:Mod K mg base
 bs:∀b o,base.get? b=Z o->s.heap.get? b=Z o/\H b=U
 bsz:base.objs.size<=s.heap.objs.size
 funs:s.heap.FunFrames base outer
 frf:∀b∈frs outer,H b=U
 hok:č P w H s.heap
 bare:X' s.gens
inductive CE(outer:Env%0)(P:m_)(w:v_)(H:Hp)(s:ge)(Q:VK)(u:B)(s':ge):Prop|mk(v:V)(H':Hp)(a:s'.os=s.os)(b:X' s'.gens)(c:Un (frs outer) [] H H' s.heap s'.heap)(d:č P w H' s'.heap)(r:ß v u)(q:Q v H'):CE outer P w H s Q u s'
def CR(d:ŉ)(a:Env%0)(P:m_)(w:v_)(H:Hp)(s:ge)(Q:VK)(E:XK)(r:aeL)(b:ge):Prop:=match r with|.ok (.ret u)=>CE a P w H s Q u b|.ok _=>False|.error e=>d a H s E e b
structure ö(P:m_)(w:v_)(K:d_)(mg:Str->B%1)(base:O_)(CX:ŉ)(k:Nat)(f:O)(fd:Yo)(ps:Str%0)(sp:Sp):Prop where
 len:∀vs H Q E,sp vs H Q E->vs.length=ps.length
 run:∀(A:x_)(outer:Env%0)(s:ge)(H:Hp)(args:Args)(us:B%0)(vs:V%0)(Q:VK)(E:XK),ã k A->ŕ P w K mg base A outer s H->aex s fd args (ps.zip us)->Ö vs us->sp vs H Q E->ŭ (B_ P w) A (.call (.ref f) args) (CR CX outer P w H s Q E) s
variable{Ç:Yo}
def ö.mono{i:ŉ}{g:Sp}(F:ö p n q Ζ I i b e Ç E g)(h:b<=o):ö p n q Ζ I i o e Ç E g:=⟨F.len,λA d s H f k j Q a m=>F.run A d s H f k j Q a (m.mono h)⟩
def ŕ.make{a:Env%0}(e:ŕ p n q Ζ I D a f g)(C:O)(b:B%0)(d:(Str×B)%0):ŕ p n q Ζ I (D.under (.builtin "type.__call__" ⟨.ref C::b,d⟩)) a f g:=⟨by first|exact e.frames|(simpa[ac9,Code.envs,aev,pushEnvs]using e.frames),e.mod,e.bs,e.bsz,e.funs,e.frf,e.hok,e.bare⟩
def N.env0(I:N a δ Τ g f):ŕ a.prog a.w a.K a.mg a.base a.A a.stack f g:=⟨I.ok.frames,I.ok.mod,I.bs,Xx I.ok.bsz I.sz,I.stack,I.stkFree,I.hok,I.bare⟩
def N.after{j:ge}(I:N a δ Τ g f)(h:CE a.stack a.prog a.w g f Ê ω j):EP a δ Τ Ê ω j:=by obtain⟨v,o,os,i,un,m,r,q⟩:=h;obtain⟨n,e,d,t,k⟩:=j;obtain rfl:k=f.os:=os;exact⟨v,o,I.call (h':=n) (g':=e) (d':=d) (t':=t) (ch:=[]) un m i (λb z=>absurd z ∅),r,q⟩
def SK(e:Sp)(a:V%0)(E:XK)(t:TA):TE:=λb H Q=>t b H λd f=>e (d++a) f Q E
def Nj(C:O)(m:Str)(h:Sp)(b:V%0)(E:XK)(g:TE)(t:TA):TE:=λd H Q=>g d H λx e=>∃a i fs,x=.ref a/\e a=Z (.ins C i fs)/\fs.lookup m=U/\t d e λf j=>h (x::(f++b)) j Q E
def SL(C:O)(g:Sp)(d:V%0)(E:XK)(t:TA):TE:=λe H Q=>t e H λf b=>∀x a,b x=U->b a=U->a≠x->g (.ref x::(f++d)) (å (å b a (.own x)) x (.ins C a [])) (λv h=>v=.non/\Q (.ref x) h) E
def ø(K:d_)(e:Yo)(b:Str%0)(d:B%0):Prop:=∀(s:ge)(a:B%0),K.In s.heap->(a++d).length=b.length->aex s e ⟨a,[]⟩ (b.zip (a++d))
def ø.all(h:∀a:B%0,a.length=E.length->aep Ç ⟨a,[]⟩=pure (E.zip a)):ø q Ç E []:=λs a _ b=>by rw[Y1]at b⊢;exact .of_eq (h a b)
def kK(f:ŉ)(X:C)(E:XK):Prop:=∀(d:(O×Obj)%0)(b:St)(H:Hp)(s:ge)(e:B)(a:ge),N X d b H s->f X.stack H s E e a->X.xe e a
def zS{p:ŉ}{n:Sp}{d:XK}{j:B%0}{m:V%0}(F:ö a.prog a.w a.K a.mg a.base p b e Ç E n)(v:ã b a.A)(z:ø a.K Ç E P)(y:Ö ζ P)(s:kK p a d)(I:N a δ Τ g f)(r:Ö m j)(h:n (m++ζ) g Ê d):xy (B_ a.prog a.w) a.A (call (.ref e) j) (EP a δ Τ Ê) a.xe f:=by
 have o:Ö (m++ζ) (j++P):=r.append y;have w:(j++P).length=E.length:=by rw[<-o.length];exact F.len _ _ _ _ h
 refine ab3 (aaE (F.run a.A a.stack f g ⟨j,[]⟩ (j++P) (m++ζ) Ê d v I.env0 (z f j I.kIn w) o h) λr q k=>?_);cases r with|error i=>exact s δ Τ g f i q I k|ok A=>cases A with|ret u=>exact I.after k|next=>exact X9 k|brk=>exact X9 k|cont=>exact X9 k
def nF{p:ŉ}{n:Sp}{f:XK}{t:TA}(F:ö a.prog a.w a.K a.mg a.base p b e Ç E n)(y:ã b a.A)(D:Gl a d)(z:a.mg d=Z (.ref e))(A:Yv a.K (.ref e)=L)(hb:ø a.K Ç E P)(hd:Ö ζ P)(v:kK p a f)(ha:PA a (h::s) t)(m:(d==("__debug__":Str))=h_:=by decide)(he:h%8:=by rfl)(j:(Xv w (k_ s a.env)).any (·.1)=h_:=by rfl):PE a (.Call (.Name d k) (h::s) [] w) (SK n ζ f t):=by intro f' g u H Q I i;refine YI (lG I D z ?_ m);refine ab7 (h₀:=a.base) I.ok.mod.kin A (í (ha w f' g u H _ I i) λus s1⟨vs,H1,o,r,q⟩=>⟨o.kIn,?_⟩) he j;exact zS F y hb hd v o r q
def IR{CX:ŉ}{p:Sp}{g:XK}{t:TA}{y:Sem Bool}(he:PE a v Ρ)(c:Ŷ a.K A)(D:MK a.K A d e)(F:ö a.prog a.w a.K a.mg a.base CX b e Ç E p)(hr:ã b a.A)(hb:ø a.K Ç E P)(hd:Ö ζ P)(hx:kK CX a g)(ha:PA a (h::s) t)(m:h%8:=by rfl)(n:(Xv k (k_ s a.env)).any (·.1)=h_:=by rfl)(ht:eval (.Call (.Attribute v d w) (h::s) [] k) a.env=(do
 let z<-eval v a.env
 acZ w.atName let(e,first)<-ű [z] (adQ z d y)callWith k e first (Xv k (k_ (h::s) a.env)) (Y_ k (Yq [] a.env))):=by rfl):PE a (.Call (.Attribute v d w) (h::s) [] k) (Nj A d p ζ g Ρ t):=by intro f' i o H Q I j;refine adp (pl:=y) (í (he f' i o H _ I j) λu s1⟨x,H1,I1,rx,f,dx,fs,ex,ea,l,q⟩=>?_) ht;subst ex;obtain rfl:u=U_ f:=rx;refine pE I1 ea c D l ?_;refine ab7 (first:=[.ref f]) (h₀:=a.base) I.ok.mod.kin D.kp (í (ha k f' s1 o H1 _ I1 q) λus s2⟨vs,H2,I2,r,q2⟩=>⟨I2.kIn,?_⟩) m n;exact zS (j:=.ref f::us) (m:=.ref f::vs) F hr hb hd hx I2 (.cons rfl r) q2
def wJ{r:ŉ}{m:Sp}{g:XK}{n:Sem Bool}(he:PE a h Ρ)(c:Ŷ a.K A)(p:MK a.K A d e)(F:ö a.prog a.w a.K a.mg a.base r b e Ç E m)(hr:ã b a.A)(hb:ø a.K Ç E P)(hd:Ö ζ P)(z:kK r a g)(D:eval (.Call (.Attribute h d w) [] [] k) a.env=(do
 let o<-eval h a.env
 acZ w.atName let(e,first)<-ű [o] (adQ o d n)callWith k e first (Xv k (k_ [] a.env)) (Y_ k (Yq [] a.env))):=by rfl):PE a (.Call (.Attribute h d w) [] [] k) (Nj A d m ζ g Ρ VJ):=by intro f' s v H Q I i;refine adp (pl:=n) (í (he f' s v H _ I i) λu s1⟨x,H1,j,y,f,dx,fs,ex,ea,l,q⟩=>?_) D;subst ex;obtain rfl:u=U_ f:=y;refine pE j ea c p l ?_;exact PySem.W.callWith_K0 (first:=[.ref f]) j.kIn p.kp (zS (j:=[.ref f]) (m:=[.ref f]) F hr hb hd z j (.cons rfl .nil) q)
structure Mk(K:d_)(C f:O):Prop where
 makes:ae0 K C=L
 init:YC K (.ref C) "__init__"=Z (Z (.ref f))fn:ac2 K (.ref f)=L
 kp:Yv K (.ref C)=L
def DU{w:ŉ}{p:Sp}{i:XK}{k:B%0}{o:V%0}(M:Mk a.K A e)(F:ö a.prog a.w a.K a.mg a.base w b e Ç E p)(Q:ã (b+1) a.A)(hb:ø a.K Ç E P)(hd:Ö ζ P)(H:kK w a i)(I:N a δ Τ g f)(r:Ö o k)(h:∀x m,g x=U->g m=U->m≠x->p (.ref x::(o++ζ)) (å (å g m (.own x)) x (.ins A m [])) (λv H2=>v=.non/\Ê (.ref x) H2) i):xy (B_ a.prog a.w) a.A (call (.ref A) k) (EP a δ Τ Ê) a.xe f:=by
 have s:=h (f.heap.objs.size+1) f.heap.objs.size (I.hok.fresh (aaz _)) (I.hok.fresh (o_ _)) (D_ (Y3 _));have n:=N.made (e:=A) I;have q:Ö (V.ref (f.heap.objs.size+1)::(o++ζ)) (U_ (f.heap.objs.size+1)::(k++P)):=.cons rfl (r.append hd);have hl:(U_ (f.heap.objs.size+1)::k++P).length=E.length:=by have d:=q.length;rw[F.len _ _ _ _ s]at d;exact d.symm
 refine ab3 (DT (A:=e) I.kIn M.makes M.init (beq_iff_eq.mp M.fn) (aaE (F.run _ a.stack _ _ ⟨U_ (f.heap.objs.size+1)::k,[]⟩ (U_ (f.heap.objs.size+1)::(k++P)) _ _ i (Q.make A k []) (n.env0.make A k []) (hb _ (U_ (f.heap.objs.size+1)::k) n.kIn hl) q s) λr y j=>?_));cases r with|error d=>exact H δ Τ _ _ d y n j|ok fl=>cases fl with|ret u=>obtain⟨v,H',I3,z,ev,D⟩:=n.after j;subst ev;exact⟨z,⟨V.ref (f.heap.objs.size+1),H',I3,rfl,D⟩⟩|next=>exact X9 j|brk=>exact X9 j|cont=>exact X9 j
def IS{p:ŉ}{n:Sp}{f:XK}{t:TA}(M:Mk a.K A e)(F:ö a.prog a.w a.K a.mg a.base p b e Ç E n)(y:ã (b+1) a.A)(D:Gl a d)(z:a.mg d=Z (.ref A))(hb:ø a.K Ç E P)(hd:Ö ζ P)(v:kK p a f)(ha:PA a (h::s) t)(m:(d==("__debug__":Str))=h_:=by decide)(he:h%8:=by rfl)(j:(Xv w (k_ s a.env)).any (·.1)=h_:=by rfl):PE a (.Call (.Name d k) (h::s) [] w) (SL A n ζ f t):=by intro f' g u H Q I i;refine YI (lG I D z ?_ m);refine ab7 (h₀:=a.base) I.ok.mod.kin M.kp (í (ha w f' g u H _ I i) λus s1⟨vs,H1,o,r,q⟩=>⟨o.kIn,?_⟩) he j;exact DU M F y hb hd v o r q
structure iL(N P:Str%0)(sc:YJ):Prop where
 kind:sc.kind=.function
 co:sc.isCoroutine=h_
 gen:sc.isGenerator=h_
 nd:N.Nodup
 pre:N.take P.length=P
 par:∀x∈P,sc.names.lookup x=Z .local\/sc.names.lookup x=Z .cell
 nofree:∀y∈sc.names,y.2≠.free
def sI{a:Str->Z1%1}{x:Str}:∀{binds:(Str×B)%0}{m:Str->B%1},(∀v,(x,v)∉binds)->afe a binds m x=m x
 |[],_,_=>rfl|(n,v)::r,m,h=>by
  unfold afe;rw[sI λw b=>h w (pi _ b)];split
  · have:x≠n:=by rintro rfl;exact h v on
    simp[this]
  ·rfl
def sJ{a:Str->Z1%1}{x:Str}:∀{binds:(Str×B)%0}{m:Str->B%1},(∀v,(x,v)∉binds)->aff a binds m x=m x
 |[],_,_=>rfl|(n,v)::r,m,h=>by
  unfold aff;rw[sJ λw b=>h w (pi _ b)];split;·rfl
  · have:x≠n:=by rintro rfl;exact h v on
    simp[this]
def sK{a:Str->Z1%1}{x:Str}{v:B}:∀{P:Str%0}{b:B%0}{i:Nat}{m:Str->B%1},P.Nodup->P[i]?=Z x->b[i]?=Z v->a x=Z .local->afe a (P.zip b) m x=Z v|[],_,_,_,_,h,_,_=>by simp at h|_::_,[],_,_,_,_,h,_=>by simp at h|p::P,w::b,0,m,f,e,d,g=>by simp at e d;subst e;subst d;show afe a ((p,w)::P.zip b) m p=_;unfold afe;rw[sI λv j=>(Ys.mp f).1 (adl j).1,if_pos g];simp|p::P,w::b,i+1,m,f,e,d,g=>by show afe a ((p,w)::P.zip b) m x=_;unfold afe;exact sK (i:=i) (Ys.mp f).2 (by simpa using e) (by simpa using d) g
def sL{a:Str->Z1%1}{x:Str}{v:B}:∀{P:Str%0}{b:B%0}{i:Nat}{m:Str->B%1},P.Nodup->P[i]?=Z x->b[i]?=Z v->a x≠Z .local->aff a (P.zip b) m x=Z v|[],_,_,_,_,h,_,_=>by simp at h|_::_,[],_,_,_,_,h,_=>by simp at h|p::P,w::b,0,m,f,e,d,g=>by simp at e d;subst e;subst d;show aff a ((p,w)::P.zip b) m p=_;unfold aff;rw[sJ λv j=>(Ys.mp f).1 (adl j).1,if_neg g];simp|p::P,w::b,i+1,m,f,e,d,g=>by show aff a ((p,w)::P.zip b) m x=_;unfold aff;exact sL (i:=i) (Ys.mp f).2 (by simpa using e) (by simpa using d) g
def start(N:Str%0)(a:V%0):St:=a.map Z++XF (N.length-a.length) U
def qK(h:ŉ)(P:m_)(w:v_)(K:d_)(mg:Str->B%1)(base:O_)(N:Str%0)(b:Str)(a:YJ)(f:O)(g:B)(A:x_)(outer:Env%0)(s:ge)(H:Hp)(E:XK):C where prog:=P;w:=w;K:=K;mg:=mg;base:=base;A:=A.deeper (ĸ b a s.heap.objs.size f g);N:=N;s₀:=s;H₀:=H;env:=ĸ b a s.heap.objs.size f g;outer:=outer;stack:=ĸ b a s.heap.objs.size f g::outer;ex:=[];calm:=L;fn:=λ_=>L;pn:=[];xe:=λe i=>xy (B_ P w) (A.deeper (ĸ b a s.heap.objs.size f g)) (leaving (ĸ b a s.heap.objs.size f g) e) (λ_ d=>h outer H s E e d) (λj d=>h outer H s E j d) i
variable{ι:YJ}
def wK(h:ι.names.lookup d=Z .cell):∃c,(Yu b ι.names []).lookup d=Z c:=by have q:=ac3 ι.names b [] (.inl h);exact ZV.mp q
def zT{CX:ŉ}{Q:Str%0}{w:Env%0}{s1:ge}{o:XK}(S:iL E Q ι)(hd:D.handled=U)(H:ŕ p n q Ζ I D w f g)(hl:ζ.length=Q.length)(r:Ö ζ P)(x:InCallC f f.heap.objs.size (afe (ĸ d ι f.heap.objs.size e ω).kindOf (Q.zip P) λ_=>U) (Yu (f.heap.objs.size+1) ι.names []) (aff (ĸ d ι f.heap.objs.size e ω).kindOf (Q.zip P) λ_=>U) s1):N (qK CX p n q Ζ I E d ι e ω D w f g o) [] (start E ζ) g s1:=by
 have c':Q.length<=E.length:=by have:=congrArg abG S.pre;rw[acU]at this;lia
 obtain⟨h1,tk,rfl,hk⟩:=x.done;have a':∀b:O,b∉(qK CX p n q Ζ I E d ι e ω D w f g o).ex:=λb z=>absurd (show b∈([]:O%0)from z) ∅;refine⟨⟨H.mod,S.kind,rfl,rfl,o_ _,λy z c h1 A=>?_,λy hy=>?_,λy c _ h=>?_,λ_=>hd,Around.frames_deeper H.frames,.inr ⟨rfl,rfl⟩,λb z=>absurd z (a' b),H.bs,H.bsz,λb _ _=>a' b,λb z=>absurd z (a' b),H.funs,H.frf⟩,rfl,H.bare,Un.kept hk,⟨_,x.toInCall.ns,λi y v h1 A h3=>?_⟩,λy c h=>⟨_,x.cell y c h⟩,H.hok.fresh (o_ _),λy c h=>?_,λs hp=>absurd (show s∈([]:(O×Obj)%0)from hp) ∅,H.hok.kept hk,?_⟩;·exact name_of_addr x.apart (ZX h1) (ZX A)
 · have hy:ι.names.lookup y=Z .cell\/ι.names.lookup y=Z .free:=hy;rcases hy with hy|hy;·exact wK hy
   ·exact absurd rfl (S.nofree _ (ZX hy))
 ·exact aaJ (x.above y c (ZX h))
 · have hi:i<ζ.length:=by
    unfold start at A;by_cases hi:i<ζ.length;·exact hi
    ·rw[G_ (by simpa using hi)]at A;rw[Z7]at A;split at A<;>cases A
   have ha:ζ[i]?=Z v:=by unfold start at A;rw[w_ (by simpa using hi),P_]at A;cases j:ζ[i]? with|none=>rw[j]at A;cases A|some a=>rw[j]at A;cases A;rfl
   obtain⟨u,hu,rv⟩:=r.get ha;have hp:Q[i]?=Z y:=by rw[<-S.pre,acF ()];exact h1
   have b':Q.Nodup:=by rw[<-S.pre];exact S.nd.sublist (List.take_sublist _ _)
   refine⟨u,rv,?_⟩;rcases S.par y (N_ hp)with k|k;·exact .inl ⟨k,sK b' hp hu k⟩
   ·obtain⟨c,j⟩:=wK (b:=f.heap.objs.size+1) k;refine .inr ⟨.inl k,c,j,?_⟩;have m:=x.cell y c j;rw[sL b' hp hu (by show ι.names.lookup y≠_;rw[k];decide)]at m;exact m
 ·exact H.hok.fresh (aaJ (x.above y c (ZX h)))
 ·unfold start;show _=E.length;rw[X2,T_,YX];lia
def DV{CX:ŉ}{z:Arguments}{kV f' pm w ct oc:B}{an od:O%1}{g':Array (B%1)}{ps:Str%0}{sp:Sp}(lk:q.lookup e=Z ⟨oc,od,.func (Zb d r z Υ ι ω kV f' pm an w ct),g'⟩)(i':abb q w r=L)(S:iL E ps ι)(c':∀D H Q f,sp D H Q f->D.length=ps.length)(b':∀(A:x_)(m:Env%0)(s:ge)(H:Hp)(D:V%0)(Q:VK)(f:XK),ã b (A.deeper (ĸ r ι s.heap.objs.size e w))->sp D H Q f->∃t,Ł (qK CX p n q Ζ I E r ι e w A m s H f) Υ t/\t {nx:=λ_ H'=>Q .non H',rt:=Q} (start E D) H):ö p n q Ζ I CX (b+1) e (Zb d r z Υ ι ω kV f' pm an w ct) ps sp:=by
 refine⟨c',λA m s H k' us D Q f hr e0 hb i d'=>?_⟩;have hl:=c' _ _ _ _ d';have KX:q.In s.heap:=e0.mod.kin.keeps λh o g=>(e0.bs h o g).1;have h':s.heap.NoLimit:=e0.mod.nolimit.keeps λh o g=>(e0.bs h o g).1;have a':∀y∈ps.zip us,ι.names.lookup y.1=Z .local\/(ι.names.lookup y.1=Z .cell/\((Yu (s.heap.objs.size+1) ι.names []).lookup y.1).isSome=L):=λ⟨j,v⟩hy=>by
  rcases S.par j (adl hy).1 with a|a;·exact .inl a
  ·exact .inr ⟨a,ac3 _ _ _ (.inl a)⟩
 refine codeAny_call_function hr.depth (KX _ _ lk) rfl S.co S.gen rfl (PySem.W.codeRec_of KX i') (hb _ _ _ _ ?_);refine wpAny_newFunctionEnv_cells S.kind a' λl' he s1 x=>?_;subst he;refine⟨h'.keeps x.toInCall.keep,codeAny_func ?_⟩;obtain⟨t,ht,hq⟩:=b' A m s H D Q f (hr.deeper _) d';have k:N (qK CX p n q Ζ I E r ι e w A m s H f) [] (start E D) H s1:=zT S hr.hd e0 hl i x;refine X8 (ht [] s1 (start E D) H _ k hq) (λfl s' hs=>?_) λg s' hs=>hs;have e':∀{P:St}{H':Hp}{v:V}{u:B},N (qK CX p n q Ζ I E r ι e w A m s H f) [] P H' s'->ß v u->Q v H'->CE m p n H s Q u s':=λ{P H' v u}J rv a=>⟨v,H',J.os,J.bare,J.base,J.hok,rv,a⟩;cases fl with|ret u=>obtain⟨v,P,H',J,rv,a⟩:=hs;exact e' J rv a|next=>obtain⟨P,H',J,a⟩:=hs;exact e' (v:=V.non) (u:=M_) J rfl a|brk=>obtain⟨_,_,_,a⟩:=hs;exact X9 a|cont=>obtain⟨_,_,_,a⟩:=hs;exact X9 a
def tCB(r:V%0->Hp->VK->Prop)(t:TA):TE:=λa H Q=>t a H λb d=>r b d Q
def iM{t:TA}{j:String}{r:V%0->Hp->VK->Prop}(E:lH a (.builtin j) r)(A:Gl a d)(z:a.mg d=U)(v:Yz d=Z (.builtin j))(P:PA a (h::s) t)(y:d≠"__name__":=by decide)(g:(d==("__debug__":Str))=h_:=by decide)(D:h%8:=by rfl)(f:(Xv w (k_ s a.env)).any (·.1)=h_:=by rfl):PE a (.Call (.Name d k) (h::s) [] w) (tCB r t):=by intro m b i H Q I e;refine YI (jf I A z v ?_ y g);exact Z4 (í (P w m b i H _ I e) λo p⟨n,H1,I1,q,u⟩=>E m p i H1 n o Q I1 q u) D f
def jq{t:TA}{T:String}{r:V%0->Hp->VK->Prop}(D:lH a (.type T) r)(z:Gl a d)(y:a.mg d=U)(u:Yz d=Z (.type T))(E:PA a (h::s) t)(v:d≠"__name__":=by decide)(g:(d==("__debug__":Str))=h_:=by decide)(A:h%8:=by rfl)(f:(Xv w (k_ s a.env)).any (·.1)=h_:=by rfl):PE a (.Call (.Name d k) (h::s) [] w) (tCB r t):=by intro j b i H Q I e;refine YI (jf I z y u ?_ v g);exact Yn (í (E w j b i H _ I e) λn o⟨m,H1,P,p,q⟩=>D j o i H1 m n Q P p q) A f
end L2
variable{ζ:L2.V%0}{P:B%0}{g:L2.Hp}{e:O}{Î:L2.HO}{A:O}{I:O_}{ξ:L2.Hp}{η:O%0}{Ä:Obj}{a:L2.C}{δ:(O×Obj)%0}{É:Option L2.V%0}{E:Str%0}{Ì:Z2}{D:x_}{ν:B->ge->Prop}{d:Str}{υ:L2.V}{ω:B}{k:Pos}{Τ:L2.St}{Å:B->ge->Prop}{h:s_}{Ρ:L2.TE}{v:s_}{s:s_%0}{q:d_}{Υ:Yd%0}{Γ:Yd}{o:Nat}{w:Pos}{Κ:Array B}{y Ã:Int}{H Ï:Bool}{r:Str}{Ê:L2.VK}{Ζ:Str->B%1}{Ç:Yo}{ι:YJ}
namespace HT
def cat_tup{d:B%0}(E:afp f.heap e P.toArray)(H:afp f.heap A d.toArray)(u:P≠[])(Q:d=[]->Å (.ref e) f)(I:d≠[]->Å (.ref f.heap.objs.size) {f with heap:=f.heap.push {cls:=.type "tuple",data:=.seq (P++d).toArray}})(q:P.length+d.length<=sizeLine):xy (B_ p n) D (ZL .Add (.ref e) (.ref A)) Å ν f:=by
 obtain⟨⟨cls,y,data,r⟩,o,w,a,v⟩:=id E;obtain⟨⟨z,k,data2,h⟩,g,j,s,i⟩:=id H;simp only at w v j i;subst w v j i;have b:P.toArray++d.toArray=(P++d).toArray:=by simp
 by_cases m:d=[]
 ·exact aeo ⟨_,o,rfl⟩ ⟨_,g,rfl⟩ acK ad9 abd aa4 (aaN _ _) (tuple_addW1 e A P.toArray d.toArray a s y k r h (by simpa using u) (by simp[m])) ⟨o,g,Q m⟩
 ·refine aeo ⟨_,o,rfl⟩ ⟨_,g,rfl⟩ acK ad9 abd aa4 (aaN _ _) (tuple_addW2 e A P.toArray d.toArray a s y k r h (by simpa using u) (by simpa using m) (by rw[I_,I_];exact q)) ⟨o,g,?_⟩;rw[b];exact I m
def sIx(n d:Nat):Int%1->Nat|none=>d|some v=>if v<0 then(v+(n:Int)).toNat else min v.toNat n
def Nk(n d:Nat)(b:d<=n)(o:Int%1):sIx n d o<=n:=by cases o with|none=>exact b|some v=>
 show(if v<0 then(v+(n:Int)).toNat else min v.toNat n)<=n;by_cases a:v<0;·rw[if_pos a];lia
 ·rw[if_neg a];exact acT _ _
def zU(v:Int)(n d:Nat):(if v<0 then max (v+(n:Int)) 0 else min v (n:Int))=((sIx n d (Z v):Nat):Int):=by
 show(if v<0 then max (v+(n:Int)) 0 else min v (n:Int))=(((if v<0 then(v+(n:Int)).toNat else min v.toNat n):Nat):Int);by_cases a:v<0;·simp![if_pos a];lia
 ·simp![if_neg a];lia
def yo(a b:Int%1)(n:Nat):aaL a b 1 (n:Int)=(((sIx n 0 a:Nat):Int),((sIx n n b:Nat):Int)):=by
 have d:¬((1:Int)<0):=by lia
 unfold aaL;simp![d,if_false];refine Prod.ext ?_ ?_;·cases a with|none=>rfl|some v=>exact zU v n 0
 ·cases b with|none=>rfl|some v=>exact zU v n n
def yp(i j:Nat):ZE (i:Int) (j:Int) 1=j-i:=by
 unfold ZE;have a:(1:Int)>0:=by lia
 simp![a,if_true,Int.ediv_one];split<;>lia
variable{Ι:Int%1}
def pF{Q:Int%1->ge->Prop}(a:ac7 ω Ι)(h:Q Ι f):xy (B_ p n) D (Builtin.Slice.slicePartIndex ω) Q ν f:=by cases a with|none=>exact slicePart_none h|int i t=>exact slicePart_int h
variable{Φ:Int%1}
def sliceApplied_gen{g:B}{Q:Int×Int×Nat->ge->Prop}(k:f.heap.IsSliceOf e ω g .none)(j:ac7 ω Ι)(i:ac7 g Φ)(h:Q (((sIx b 0 Ι:Nat):Int),1,sIx b b Φ-sIx b 0 Ι) f):xy (B_ p n) D (acd (.ref e) (pure (b:Int))) Q ν f:=by obtain⟨os,a,m,d⟩:=id k;unfold acd Builtin.Slice.sliceFields;refine c_ (c_ (YF a d (x:=ω) rfl (c_ (YF a d (x:=g) rfl (c_ (YF a d (x:=.none) rfl (i_ ?_)))))));refine c_ (slicePart_none ?_);show xy _ _ (if((1:Int)==0)=L then _ else _) _ _ f;rw[if_neg #v[]];refine c_ (pF j (c_ (pF i (c_ (i_ ?_)))));show xy _ _ (match aaL Ι Φ 1 (b:Int)with|(Ι,Φ)=>pure (Ι,(1:Int),ZE Ι Φ 1)) _ _ f;rw[yo Ι Φ b];show xy _ _ (pure (((sIx b 0 Ι:Nat):Int),(1:Int),ZE ((sIx b 0 Ι:Nat):Int) ((sIx b b Φ:Nat):Int) 1)) _ _ f;rw[yp];exact i_ h
def DW(a:Array B)(i k:Nat):((y_ k).filterMap λ(m:Nat)=>a[((i:Int)+(m:Int)*1).toNat]?).toArray=((a.toList.drop i).take k).toArray:=by
 have e:(λ(m:Nat)=>a[((i:Int)+(m:Int)*1).toNat]?)=λm=>a[i+m]?:=by
  funext m;have:((i:Int)+(m:Int)*1).toNat=i+m:=by lia
  rw[this]
 rw[e];have:=pick_run a i k;rw[aci]at this;have b:((λx=>a[x]?)∘λx=>i+x)=λm=>a[i+m]?:=rfl;rw[b]at this;rw[this]
def getItem_tuple_cut{k:B}(b:afp f.heap e Κ)(m:f.heap.IsSliceOf A ω k .none)(r:ac7 ω Ι)(o:ac7 k Φ)(s:¬(sIx Κ.size 0 Ι=0/\sIx Κ.size Κ.size Φ=Κ.size))(h:Å (.ref f.heap.objs.size) {f with heap:=f.heap.push {cls:=.type "tuple",data:=.seq ((Κ.toList.drop (sIx Κ.size 0 Ι)).take (sIx Κ.size Κ.size Φ-sIx Κ.size 0 Ι)).toArray}})(u:Κ.size<=sizeLine):xy (B_ p n) D (ac1 (.ref e) (.ref A)) Å ν f:=by
 have a:sizeOk (.seq ((Κ.toList.drop (sIx Κ.size 0 Ι)).take (sIx Κ.size Κ.size Φ-sIx Κ.size 0 Ι)).toArray):=by show((Κ.toList.drop (sIx Κ.size 0 Ι)).take (sIx Κ.size Κ.size Φ-sIx Κ.size 0 Ι)).toArray.size<=sizeLine;rw[I_,acU,abv,Yj];lia
 have z:sIx Κ.size Κ.size Φ<=Κ.size:=Nk _ _ (o_ _) Φ;obtain⟨os,d,i,v⟩:=id m;have j:f.TypeIs (.ref A) "slice":=⟨os,d,i⟩;unfold ac1;try with_reducible refine XY ?_
 first|refine c_ (i_ ?_)|skip
 refine c_ (wpAny_sequenceKey b.typeIs #v[] ?_);refine c_ (XO (name:=b_ "__getitem__") b.typeIs Yp (XN Yp b.typeIs entry_tuple_getitem ?_ (args_tuple_getitem _ _)));show xy _ _ (acb (.ref e)>>=_) _ _ f;refine c_ (tupleItemsOf_ b ?_);refine c_ (Z_ j ?_);rw[if_pos #v[]];refine c_ (sliceApplied_gen m r o ?_);have g:¬((((sIx Κ.size 0 Ι:Nat):Int)==0&&(1:Int)==1&&(sIx Κ.size Κ.size Φ-sIx Κ.size 0 Ι)==Κ.size)=L):=by intro q;rw[n_,n_]at q;have y:((sIx Κ.size 0 Ι:Nat):Int)=0:=abx q.1.1;have w:sIx Κ.size Κ.size Φ-sIx Κ.size 0 Ι=Κ.size:=abx q.2;exact s ⟨by lia,by lia⟩
 show xy _ _ (if(((sIx Κ.size 0 Ι:Nat):Int)==0&&(1:Int)==1&&(sIx Κ.size Κ.size Φ-sIx Κ.size 0 Ι)==Κ.size)=L then _ else _) _ _ f;rw[if_neg g,DW];first|exact c_ (m:=ZU _) (Xz (i_ ⟨_,rfl,i_ h⟩) a)|exact c_ (m:=ZU _) (Xz (c_ (i_ (i_ ⟨_,rfl,i_ h⟩))) a)|exact c_ (c_ (m:=ZU _) (Xz (i_ (i_ ⟨_,rfl,i_ h⟩)) a))|exact c_ (c_ (m:=ZU _) (Xz (i_ ⟨_,rfl,i_ h⟩) a))
end HT
variable{Ι Φ:Int%1}
namespace L2
abbrev TO:=St->Hp->(Int%1->Hp->Prop)->Prop
def PO(X:C)(e:s_%1)(t:TO):Prop:=∀(b:(O×Obj)%0)(s:ge)(a:St)(H:Hp)(Q:Int%1->Hp->Prop),N X b a H s->t a H Q->xy (B_ X.prog X.w) X.A (evalPart e X.env) (λu f=>∃o d,N X b a d f/\ac7 u o/\Q o d) X.xe s
def IT:TO:=λ_ H Q=>Q U H
def SM(t:TE):TO:=λa H Q=>t a H λx b=>∃i,x=.int i/\Q (Z i) b
def IU:PO a U IT:=by intro d s b H Q I h;rw[evalPart_none];exact i_ ⟨U,H,I,.none,h⟩
def IV(b:PE a h Ρ):PO a (Z h) (SM Ρ):=by intro j s d H Q I g;rw[evalPart_some];refine í (b j s d H _ I g) λu n⟨x,m,k,e,f⟩=>?_;obtain⟨i,rfl,q⟩:=f;obtain⟨t,rfl⟩:=e;exact⟨Z i,m,k,.int i t,q⟩
def SlR(X:C)(r:V->Int%1->Int%1->Hp->VK->Prop):Prop:=∀(g:(O×Obj)%0)(s:ge)(a:St)(H:Hp)(x:V)(v d b:B)(lo f:Int%1)(e:O)(Q:VK),N X g a H s->ß x v->s.heap.IsSliceOf e d b .none->ac7 d lo->ac7 b f->r x lo f H Q->∃T id,typeLookup (.type T) "__getitem__"=pure (Z (.builtin id))/\s.TypeIs v T/\xy (B_ X.prog X.w) X.A (ac1 v (.ref e)) (EP X g a Q) X.xe s
def SlR.or{r j:V->Int%1->Int%1->Hp->VK->Prop}(h:SlR a r)(o:SlR a j):SlR a (λx lo b H Q=>r x lo b H Q\/j x lo b H Q):=by
 intro n s d H x v f e lo b g Q I i m pl k q;rcases q with q|q;·exact h n s d H x v f e lo b g Q I i m pl k q
 ·exact o n s d H x v f e lo b g Q I i m pl k q
def tSl(r:V->Int%1->Int%1->Hp->VK->Prop)(e:TE)(b d:TO):TE:=λa H Q=>e a H λx h=>b a h λl g=>d a g λu f=>r x l u f Q
def wL{m n:s_%1}{o p:TO}{r:V->Int%1->Int%1->Hp->VK->Prop}(hr:SlR a r)(he:PE a h Ρ)(hl:PO a m o)(hu:PO a n p):PE a (.Subscript h (.Slice m n U w) k) (tSl r Ρ o p):=by intro g s f H Q I d;refine Subscript_ (í (he g s f H _ I d) λv A⟨x,H1,I1,D,q1⟩=>?_);refine wpAny_Slice (í (hl g A f H1 _ I1 q1) λj z⟨l,H2,I2,pl,P⟩=>í (hu g z f H2 _ I2 P) λi e⟨u,y,I3,pu,E⟩=>?_);rw[evalPart_none];refine i_ ?_;have I4:N a g f y {e with heap:=e.heap.push {cls:=.type "slice",data:=.fields #[j,i,.none]}}:=I3.kept (t':=e.toks) λb ob q=>l_ _ q;obtain⟨T,id,hT,ht,hg⟩:=hr g {e with heap:=e.heap.push {cls:=.type "slice",data:=.fields #[j,i,.none]}} f y x v j i l u e.heap.objs.size Q I4 D (Heap.IsSliceOf.new ..) pl pu E;show xy (B_ a.prog a.w) a.A (subscriptTail h (.Slice m n U w) v (.ref e.heap.objs.size)) (EP a g f Q) a.xe {e with heap:=e.heap.push {cls:=.type "slice",data:=.fields #[j,i,.none]}};exact tail_any (ops:=[.ref e.heap.objs.size,v]) ht hT hg (by with_unfolding_all rfl)
def DX(a:V%0)(b d:Int%1):V%0:=(a.drop (HT.sIx a.length 0 b)).take (HT.sIx a.length a.length d-HT.sIx a.length 0 b)
def nG(a:V%0)(b d:Int%1):(DX a b d).length<=a.length:=by unfold DX;rw[acU,abv];lia
def WK(K:d_):V->Int%1->Int%1->Hp->VK->Prop:=λx lo d H Q=>∃a b,x=.ref a/\û K H a b/\¬(HT.sIx b.length 0 lo=0/\HT.sIx b.length b.length d=b.length)/\∀p,H p=U->Q (.ref p) (å H p (.tup (DX b lo d)))
def sl_tup:SlR a (WK a.K):=by
 intro E s w H x v z y lo g A Q I m u pl n h;obtain⟨d,f,rfl,o,p,q⟩:=h;cases m;obtain⟨i,r,k,j⟩:=I.tuple o;have e:i.toArray.size=f.length:=by rw[I_];exact r.length.symm
 refine⟨"tuple",_,Yp.lookup,k.typeIs,?_⟩;refine HT.getItem_tuple_cut k u pl n (by rw[e];exact p) ?_ (by rw[e];exact j);rw[e];refine⟨.ref s.heap.objs.size,_,I.laid (t':=s.toks) (o:=.tup (DX f lo g)) (λb D q=>l_ _ q) (o_ _) ?_,rfl,q _ (I.hok.fresh (o_ _))⟩;exact⟨Xx (nG f lo g) j,_,(r.drop (HT.sIx f.length 0 lo)).take (HT.sIx f.length f.length g-HT.sIx f.length 0 lo),afy _ _⟩
def Nl(K:d_):R2:=λx y H Q=>∃a b e d,x=.ref a/\y=.ref b/\û K H a e/\û K H b d/\e≠[]/\e.length+d.length<=sizeLine/\(d=[]->Q (.ref a) H)/\(d≠[]->∀p,H p=U->Q (.ref p) (å H p (.tup (e++d))))
def Ö.nil_iff(r:Ö ζ P):P=[]↔ζ=[]:=by cases r with|nil=>simp|cons _ _=>simp
def op_catT:ă a (ZL .Add) (Nl a.K):=by intro f' s σ H x y v u Q I n m h;obtain⟨d,b,k,j,rfl,rfl,P,E,D,g,p,o⟩:=h;cases n;cases m;obtain⟨a',f,A,_⟩:=I.tuple P;obtain⟨i,e,r,_⟩:=I.tuple E;refine HT.cat_tup A r (λz=>D (f.nil_iff.mp z)) (λz=>⟨.ref d,H,I,rfl,p (e.nil_iff.mp z)⟩) (λz=>?_) (by rw[<-f.length,<-e.length];exact g);refine⟨.ref s.heap.objs.size,_,I.laid (t':=s.toks) (o:=.tup (k++j)) (λb ob q=>l_ _ q) (o_ _) ?_,rfl,o (λw=>z (e.nil_iff.mpr w)) _ (I.hok.fresh (o_ _))⟩;exact⟨by rw[X2];exact g,_,f.append e,afy _ _⟩
def ixN(n:Nat)(i:Int):Nat%1:=if 0<=i then(if i<n then Z i.toNat else U)else if-(n:Int)<=i then Z (i+n).toNat else U
def atI(a:Q%0)(i:Int):Q%1:=(ixN a.length i).bind λj=>a[j]?
def zV(h:ixN b y=Z o):seqIndex? y b=Z o/\o<b/\-(b:Int)<=y/\y<b:=by
 unfold ixN at h;by_cases d:0<=y
 · rw[if_pos d]at h;by_cases a:y<b;·rw[if_pos a]at h;have e:y.toNat=o:=X3 h;exact⟨by rw[aeU d a,e],by lia,by lia,a⟩
   ·rw[if_neg a]at h;cases h
 · rw[if_neg d]at h;by_cases a:-(b:Int)<=y;·rw[if_pos a]at h;have e:(y+b).toNat=o:=X3 h;exact⟨by rw[seqIndex_neg () a,e],by lia,a,by lia⟩
   ·rw[if_neg a]at h;cases h
def vf{a:Q%0}(h:atI a y=Z Ò):∃j,seqIndex? y a.length=Z j/\a[j]?=Z Ò/\j<a.length/\-(a.length:Int)<=y/\y<a.length:=by unfold atI at h;cases e:ixN a.length y with|none=>rw[e]at h;cases h|some j=>rw[e]at h;obtain⟨g,f,d,b⟩:=zV e;exact⟨j,g,h,f,d,b⟩
def zW(b:s_):Prop:=∀o i,aeS b h_ o i=operate [o,i] (ac1 o i)
def Y'(X:C)(r:R2):Prop:=∀(b a:s_)(e:(O×Obj)%0)(s:ge)(d:St)(H:Hp)(x y:V)(v u:B)(Q:VK),N X e d H s->ß x v->ß y u->r x y H Q->aeS a h_ v u=operate [v,u] (ac1 v u)->xy (B_ X.prog X.w) X.A (subscriptTail b a v u) (EP X e d Q) X.xe s
def ś(X:C)(f:String)(r:V->V%0->Hp->VK->Prop):Prop:=∀(e:(O×Obj)%0)(s:ge)(a:St)(H:Hp)(x:V)(b:V%0)(v:B)(d:B%0)(Q:VK),N X e a H s->ß x v->Ö b d->r x b H Q->xy (B_ X.prog X.w) X.A (call (.builtin f) (v::d)) (EP X e a Q) X.xe s
def Y'.or{r i:R2}(h:Y' a r)(m:Y' a i):Y' a (λx y H Q=>r x y H Q\/i x y H Q):=by
 intro b d k s e H x y v u Q I g f q j;rcases q with q|q;·exact h b d k s e H x y v u Q I g f q j
 ·exact m b d k s e H x y v u Q I g f q j
def SN{e:TE}{r:R2}(n:Y' a r)(p:PE a h Ρ)(o:PE a v e)(m:zW v):PE a (.Subscript h v k) (tOp r Ρ e):=by intro w s f H Q I d;exact Subscript_ (SE p o I d λb u g x y A z j i q=>n h v w g f A x y b u Q z j i q (m _ _))
def VM(K:d_):R2:=λx y H Q=>∃p a i v,x=.ref p/\y=.int i/\ā K H p a/\atI a i=Z v/\Q v H
def VN(K:d_):R2:=λx y H Q=>∃p a i v,x=.ref p/\y=.int i/\û K H p a/\atI a i=Z v/\Q v H
def VO:R2:=λx y H Q=>∃z i c,x=.str z/\y=.int i/\z.length<=sizeLine/\atI z.cps.toList i=Z c/\Q (.str ⟨#[c]⟩) H
def ix_list:Y' a (VM a.K):=by
 intro k m D s n H x y v u Q I rx ry h o;obtain⟨p,xs,i,z,rfl,rfl,hq,he,q⟩:=h;cases rx;obtain⟨t,rfl⟩:=ry;obtain⟨g,r,pl,hz⟩:=I.list hq;obtain⟨j,d,h2,h3,h4,h5⟩:=vf he;obtain⟨w,E,f⟩:=r.get h2;have hl:=r.length;have hn:=sy;have b:EP a D n Q w s:=⟨z,H,I,f,q⟩;by_cases A:0<=i
 · have e:i.toNat=j:=by rw[aeU A h5]at d;exact X3 d
   exact item_listR pl.isList A () (by rw[e];simpa using E) b o
 · have e:(i+(g.toArray.size:Int)).toNat=j:=by rw[seqIndex_neg () h4]at d;rw[I_,<-hl];exact X3 d
   exact ac_ (x:=w) pl.isList.typeIs slot_list_getitem.lookup (wpAny_getItem_list_neg (Q:=λr P=>r=w/\EP a D n Q r P) pl.isList () (by rw[I_]<;>lia) () (by rw[e];simpa using E) ⟨rfl,b⟩) o
def ix_tup:Y' a (VN a.K):=by intro e f k s g H x y v u Q I o n h A;obtain⟨p,xs,i,z,rfl,rfl,D,P,q⟩:=h;cases o;obtain⟨t,rfl⟩:=n;obtain⟨a',r,pl,hz⟩:=I.tuple D;obtain⟨j,h1,h2,h3,h4,h5⟩:=vf P;obtain⟨w,ew,b⟩:=r.get h2;have E:=r.length;have hn:=sy;have d:EP a k g Q w s:=⟨z,H,I,b,q⟩;exact ac_ (x:=w) pl.typeIs slot_tuple_getitem.lookup (getItem_tuple (j:=j) (Q:=λr m=>r=w/\EP a k g Q r m) pl () () (by rw[I_,<-E];exact h1) (by simpa using ew) ⟨rfl,d⟩) A
def Nm:Y' a VO:=by
 intro b d f' s D H x y v u Q I g f h k;obtain⟨z,i,c,rfl,rfl,P,n,q⟩:=h;obtain⟨t,rfl⟩:=g;obtain⟨E,rfl⟩:=f;obtain⟨j,e,r,h3,p,o⟩:=vf n;have m:z.cps.toList.length=z.length:=by simp[Str.length]
 rw[m]at e p o;have hn:=sy;exact tail_any (aaU s z t) slot_str_getitem.lookup (getItem_str (c:=c) (by have A:A_ (i< -(2^63:Int))=h_:=decide_eq_false ();have w:A_ (i>=2^63)=h_:=decide_eq_false ();rw[A,w,acG]) (by rw[e];simpa using r) ⟨.str ⟨#[c]⟩,H,I.tok _,⟨_,rfl⟩,q⟩) k
def rIx(K:d_):R2:=λx y H Q=>VM K x y H Q\/VN K x y H Q\/VO x y H Q
def Nn:Y' a (rIx a.K):=ix_list.or (ix_tup.or Nm)
def yq(a:B%0)(n j:Nat)(u:B):XX (·.setIfInBounds j u) {cls:=.type "list",data:=.seq a.toArray n}={cls:=.type "list",data:=.seq (a.set j u).toArray n}:=by simp[XX]
def N.lst(I:N a δ Τ g f)(h:g e=Z (.lst ζ)):∃(d:B%0)(n:Nat),Ö ζ d/\f.heap.get? e=Z {cls:=.type "list",data:=.seq d.toArray n}/\ζ.length<=sizeLine:=by obtain⟨z,d,n,r,b⟩:=I.hok e _ h;exact⟨d,n,r,b,z⟩
def N.lstUpd{m:V%0}{k:B%0}{d:Obj->Obj}(I:N a δ Τ g f)(h:g e=Z (.lst ζ))(s:f.heap.get? e=Z {cls:=.type "list",data:=.seq P.toArray b})(n:d {cls:=.type "list",data:=.seq P.toArray b}={cls:=.type "list",data:=.seq k.toArray o})(r:Ö m k)(p:m.length<=sizeLine)(t:Nat):N a δ Τ (å g e (.lst m)) {f with heap:=f.heap.update e d,toks:=t}:=by
 have i:(f.heap.update e d).get? e=Z {cls:=.type "list",data:=.seq k.toArray o}:=by rw[YG d s (by rw[n]<;>rfl),n]
 refine I.write (x:=e) (e:=e) (by rw[h];trivial) (.inl rfl) (λj u v q=>(Zr _ _ (YH v)).trans q) ⟨_,i⟩ ?_;exact⟨p,k,o,r,i⟩
def SO:V->V->V->Hp->(Hp->Prop)->Prop:=λo i v H Q=>∃p a k j,o=.ref p/\i=.int k/\H p=Z (.lst a)/\ixN a.length k=Z j/\Q (å H p (.lst (a.set j v)))
def DY:VE a SO:=by
 intro f' s D H o i v ov iv u Q I ro ri P h;obtain⟨p,E,k,j,rfl,rfl,m,hj,q⟩:=h;cases ro;obtain⟨t,rfl⟩:=ri;obtain⟨b,n,r,e,hz⟩:=I.lst m;obtain⟨d,h2,y,w⟩:=zV hj;have f:=r.length;have hn:=sy;have A:N a f' D (å H p (.lst (E.set j v))) {s with heap:=s.heap.update p (XX (·.setIfInBounds j u))}:=I.lstUpd m e (yq b n j u) (r.set P j) (by rw[XR];exact hz) s.toks;by_cases z:0<=k
 · have g:k.toNat=j:=by rw[aeU z w]at d;exact X3 d
   exact PySem.W.ki_setAt e z () (by rw[I_,<-f];exact w) (by rw[g];exact⟨_,A,q⟩)
 · have g:(k+(b.toArray.size:Int)).toNat=j:=by rw[seqIndex_neg () y]at d;rw[I_,<-f];exact X3 d
   exact PySem.W.ki_setBack e () (by rw[I_,<-f];exact y) () (by rw[g];exact⟨_,A,q⟩)
def sM(a b:Int%1)(n:Nat):(aa3 a b U n).1=((HT.sIx n 0 a:Nat):Int)/\(aa3 a b U n).2.1=((HT.sIx n n b:Nat):Int)/\(aa3 a b U n).2.2=1:=by
 refine⟨?_,?_,rfl⟩;·cases a with|none=>simp[aa3,HT.sIx]|some i=>
  simp![aa3,HT.sIx,aeN,show(1:Int)>0 by decide,if_true];by_cases h:i<0;·simp![h,if_true]<;>lia
  ·simp![h,if_false]<;>lia
 ·cases b with|none=>simp[aa3,HT.sIx]|some i=>
  simp![aa3,HT.sIx,aeN,show(1:Int)>0 by decide,if_true];by_cases h:i<0;·simp![h,if_true]<;>lia
  ·simp![h,if_false]<;>lia
def qL(a:B%0)(b d:Int%1):slicePick a.toArray b d U=((a.drop (HT.sIx a.length 0 b)).take (HT.sIx a.length a.length d-HT.sIx a.length 0 b)).toArray:=by obtain⟨g,f,e⟩:=sM b d a.toArray.size;unfold slicePick;rw[g,f,e];simp![sliceRange_one,pick_run,I_]<;>rfl
def WL(K:d_):V->Int%1->Int%1->Hp->VK->Prop:=λx lo d H Q=>∃a b,x=.ref a/\ā K H a b/\∀p,H p=U->Q (.ref p) (å H p (.lst (DX b lo d)))
def zX:SlR a (WL a.K):=by intro D s u H x v y w lo g z Q I j o pl k h;obtain⟨d,e,rfl,n,q⟩:=h;cases j;obtain⟨p,r,i,m⟩:=I.list n;have f:=r.length;refine⟨"list",_,slot_list_getitem.lookup,i.isList.typeIs,?_⟩;refine wpAny_getItem_list_slice i.isList o pl k .none ∅ ?_ (by rw[I_]<;>lia);rw[qL,<-f];refine⟨.ref s.heap.objs.size,_,I.laid (t':=s.toks) (o:=.lst (DX e lo g)) (λb A q=>l_ _ q) (o_ _) ?_,rfl,q _ (I.hok.fresh (o_ _))⟩;exact⟨Xx (nG e lo g) m,_,0,(r.drop (HT.sIx e.length 0 lo)).take (HT.sIx e.length e.length g-HT.sIx e.length 0 lo),rl _ rfl⟩
def jj:V->Bool|.non=>L|.bl _=>L|.int _=>L|.str _=>L|_=>h_
def ŀ:V->V->Bool|.non,.non=>L|.bl a,.bl b=>a==b|.bl a,.int b=>(if a then 1 else 0)==b|.int a,.bl b=>a==(if b then 1 else 0)|.int a,.int b=>a==b|.str a,.str b=>a==b|_,_=>h_
def No{x:V}{v:B}(g:ß υ ω)(d:ß x v)(i:jj υ=L)(h:jj x=L):SeqAt.EqAt D f ω v (ŀ υ x):=by cases υ with
 |non=>cases g;cases x with|non=>cases d;exact SeqAt.EqAt.same _|bl b=>cases d;exact SeqAt.EqAt.none_bool b|int b=>obtain⟨t,rfl⟩:=d;exact SeqAt.EqAt.none_int b t|str b=>obtain⟨t,rfl⟩:=d;exact SeqAt.EqAt.none_str b t|_=>exact absurd (show h_=L from h) H_
 |bl a=>cases g;cases x with|non=>cases d;exact SeqAt.EqAt.bool_none a|bl b=>cases d;exact adB a b|int b=>obtain⟨t,rfl⟩:=d;exact SeqAt.EqAt.bool_int a b t|str b=>obtain⟨t,rfl⟩:=d;exact SeqAt.EqAt.bool_str a b t|_=>exact absurd (show h_=L from h) H_
 |int a=>obtain⟨e,rfl⟩:=g;cases x with|non=>cases d;exact SeqAt.EqAt.int_none a e|bl b=>cases d;exact SeqAt.EqAt.int_bool a e b|int b=>obtain⟨t,rfl⟩:=d;exact SeqAt.EqAt.int_int a e b t|str b=>obtain⟨t,rfl⟩:=d;exact aec a e b t|_=>exact absurd (show h_=L from h) H_
 |str a=>obtain⟨e,rfl⟩:=g;cases x with|non=>cases d;exact SeqAt.EqAt.str_none a e|bl b=>cases d;exact SeqAt.EqAt.str_bool a e b|int b=>obtain⟨t,rfl⟩:=d;exact aeb a e b t|str b=>obtain⟨t,rfl⟩:=d;exact SeqAt.EqAt.str_str a e b t|_=>exact absurd (show h_=L from h) H_
 |_=>exact absurd (show h_=L from i) H_
def Ŋ(x:V)(u:B):Bool:=match u with|.none=>ŀ .non x|.bool b=>ŀ (.bl b) x|.int i _=>ŀ (.int i) x|.str z _=>ŀ (.str z) x|_=>h_
def wM{y:V}(r:ß y ω)(f:jj y=L):Ŋ υ ω=ŀ y υ:=by cases y with|non=>cases r;rfl|bl b=>cases r;rfl|int i=>obtain⟨t,rfl⟩:=r;rfl|str z=>obtain⟨t,rfl⟩:=r;rfl|_=>exact absurd (show h_=L from f) H_
def nH{x:V}:∀{a:V%0}{b:B%0},Ö a b->a.all jj=L->b.any (Ŋ x)=a.any λy=>ŀ y x|_,_,.nil,_=>rfl|y::a,u::b,.cons r t,f=>by rw[Y0,n_]at f;rw[Ze,Ze,wM r f.1,nH t f.2]
def iN{A:x_}{s:ge}{x:V}{v:B}(e:ß x v)(g:jj x=L):∀{b:V%0}{d:B%0},Ö b d->b.all jj=L->∀u∈d,SeqAt.EqAt A s u v (Ŋ x u)
 |_,_,.nil,_=>λu a=>by cases a|y::b,u::d,.cons r t,f=>λh a=>by
  rw[Y0,n_]at f;rcases p_.mp a with rfl|a;·rw[wM r f.1];exact No r e f.1 g
  ·exact iN e g t f.2 h a
def inV(x:V)(a:V%0):Bool:=a.any λy=>ŀ y x
def rIn(K:d_)(b:Bool):R2:=λx y H Q=>∃p a,y=.ref p/\(ā K H p a\/û K H p a)/\jj x=L/\a.all jj=L/\Q (.bl (if b then !inV x a else inV x a)) H
def zY:ă a (XZ .In) (rIn a.K h_):=by
 intro n s k H x y v u Q I f i h;obtain⟨p,m,rfl,d,g,fs,q⟩:=h;cases i;rcases d with d|d;·obtain⟨b,r,pl,j⟩:=I.list d;refine SeqAt.in_listAt (Ŋ x) pl.isList (λw e=>iN f g r fs w (by simpa using e)) ⟨.bl _,H,I,rfl,?_⟩;rw[show b.toArray.any (Ŋ x)=b.any (Ŋ x)by simp,nH r fs];exact q
 ·obtain⟨b,r,pl,j⟩:=I.tuple d;refine SeqAt.in_tupleAt (Ŋ x) pl (λw e=>iN f g r fs w (by simpa using e)) ⟨.bl _,H,I,rfl,?_⟩;rw[show b.toArray.any (Ŋ x)=b.any (Ŋ x)by simp,nH r fs];exact q
def sN:ă a (XZ .NotIn) (rIn a.K L):=by
 intro n s k H x y v u Q I f i h;obtain⟨p,m,rfl,d,g,fs,q⟩:=h;cases i;rcases d with d|d;·obtain⟨b,r,pl,j⟩:=I.list d;refine SeqAt.notIn_listAt (Ŋ x) pl.isList (λw e=>iN f g r fs w (by simpa using e)) ⟨.bl _,H,I,rfl,?_⟩;rw[show b.toArray.any (Ŋ x)=b.any (Ŋ x)by simp,nH r fs];exact q
 ·obtain⟨b,r,pl,j⟩:=I.tuple d;refine SeqAt.notIn_tupleAt (Ŋ x) pl (λw e=>iN f g r fs w (by simpa using e)) ⟨.bl _,H,I,rfl,?_⟩;rw[show b.toArray.any (Ŋ x)=b.any (Ŋ x)by simp,nH r fs];exact q
def op_notIn_str:ă a (XZ .NotIn) (λx y H Q=>∃i j,x=.str i/\y=.str j/\Q (.bl (!(!(X0 j i 0 j.length 1).isEmpty))) H):=by intro g s e H x y v u Q I d b h;obtain⟨i,j,rfl,rfl,q⟩:=h;obtain⟨t,rfl⟩:=d;obtain⟨f,rfl⟩:=b;exact notIn_str ⟨.bl _,H,I,rfl,q⟩
def mz:lH a (.type "list") (λE H Q=>∃p g,E=[.ref p]/\(ā a.K H p g\/û a.K H p g)/\∀l,H l=U->Q (.ref l) (å H l (.lst g))):=by
 intro f' s σ H E us Q I r h;obtain⟨p,g,rfl,v,q⟩:=h;obtain⟨u,rfl,rx⟩:=gK r;cases rx;have w:∀(d:B%0),Ö g d->g.length<=sizeLine->∀(f:O_)(j:Nat),(∀b P,s.heap.get? b=Z P->f.get? b=Z P)->f.get? s.heap.objs.size=Z {cls:=.type "list",dict:=U,data:=.seq d.toArray j,slots:=#[]}->EP a f' σ Q (.ref s.heap.objs.size) {s with heap:=f}:=λd i m f j k e=>⟨.ref s.heap.objs.size,_,I.laid (t':=s.toks) k (o_ _) (show ð a.prog a.w _ f _ (.lst g)from⟨m,d,j,i,e⟩),rfl,q _ (I.hok.fresh (o_ _))⟩;rcases v with v|v;·obtain⟨d,i,pl,m⟩:=I.list v;have y:=i.length;obtain⟨o,z,D,n,A⟩:=pl.isList;exact call_list_seq p (.inl rfl) z D A (λf j k e=>w d i m f j k e) (by simp![I_]<;>lia)
 ·obtain⟨d,i,pl,m⟩:=I.tuple v;have y:=i.length;obtain⟨o,z,D,n,A⟩:=pl;exact call_list_seq p (.inr rfl) z D A (λf j k e=>w d i m f j k e) (by simp![I_]<;>lia)
def qM:lH a (.type "tuple") (λm H Q=>∃p f,m=[.ref p]/\((ā a.K H p f/\∀l,H l=U->Q (.ref l) (å H l (.tup f)))\/(û a.K H p f/\Q (.ref p) H))):=by
 intro v s k H m E Q I r h;obtain⟨p,f,rfl,h⟩:=h;obtain⟨u,rfl,z⟩:=gK r;cases z;rcases h with⟨j,q⟩|⟨j,q⟩
 ·obtain⟨d,i,pl,n⟩:=I.list j;have y:=i.length;refine call_tuple_list pl.isList (λg A=>?_) (by simp![I_]<;>lia);have w:N a v k H {s with heap:=g}:=I.kept (t':=s.toks) A;have D:N a v k (å H g.objs.size (.tup f)) {s with heap:=g.push {cls:=.type "tuple",data:=.seq d.toArray}}:=w.laid (t':=s.toks) (λb o e=>l_ _ e) (o_ _) (show ð a.prog a.w _ _ _ (.tup f)from⟨n,d,i,afy _ _⟩);exact⟨.ref g.objs.size,_,D,rfl,q _ (w.hok.fresh (o_ _))⟩
 ·obtain⟨d,i,pl,n⟩:=I.tuple j;exact call_tuple_same pl ⟨.ref p,H,I,rfl,q⟩
def tyV(K:d_)(T:String)(x:V)(H:Hp):Prop:=match x with|.str _=>T="str"|.int _=>T="int"|.ref p=>(T="list"/\∃b,ā K H p b)\/(T="tuple"/\∃o,K.lookup p=Z o/\o.cls=.type "tuple"/\o.dict=U)\/(T="dict"/\((∃a,H p=Z (.dK a))\/∃a,H p=Z (.dT a)))\/(T="set"/\∃S n,H p=Z (.set S n))|_=>False
def Hj{T:String}(I:N a δ Τ g f)(r:ß υ ω)(j:tyV a.K T υ g):f.TypeIs ω T/\∀b,ω=.ref b->∃s,f.heap.get? b=Z s/\s.dict=U:=by cases υ with
 |str z=>obtain⟨t,rfl⟩:=r;cases(show T="str"from j);exact⟨aaU f z t,λ_ e=>nomatch e⟩|int i=>obtain⟨t,rfl⟩:=r;cases(show T="int"from j);exact⟨typeIs_int f i t,λ_ e=>nomatch e⟩|ref p=>
 cases r;rcases j with⟨rfl,y,u⟩|⟨rfl,o,d,v,k⟩|⟨rfl,d⟩|⟨rfl,S,n,d⟩;·obtain⟨w,_,pl,_⟩:=I.list u;refine⟨pl.isList.typeIs,λb e=>?_⟩;cases e;obtain⟨o,n,e,c,k,_⟩:=pl;exact⟨o,e,k⟩
 ·refine⟨⟨o,I.kIn p o d,v⟩,λb e=>?_⟩;cases e;exact⟨o,I.kIn _ o d,k⟩
 · have z:∃o,f.heap.get? p=Z o/\o.ExactDict:=by
    rcases d with⟨q,d⟩|⟨q,d⟩;·obtain⟨_,_,_,_,o,_,_,e,h,_⟩:=I.hok p _ d;exact⟨o,e,h⟩
    ·obtain⟨_,_,_,_,o,_,_,e,h,_⟩:=I.hok p _ d;exact⟨o,e,h⟩
   obtain⟨o,e,h⟩:=z;refine⟨⟨o,e,h.1⟩,λb m=>?_⟩;cases m;exact⟨o,e,h.2.1⟩
 ·obtain⟨o,_,_,_,e,h,_⟩:=I.hok p _ d;refine⟨⟨o,e,h.1⟩,λb m=>?_⟩;cases m;exact⟨o,e,h.2.1⟩|_=>exact X9 j
def WM(K:d_)(T:String)(r:V->V%0->Hp->VK->Prop)(d:TE):TE:=λb H Q=>d b H λx a=>tyV K T x a/\r x [] a Q
def tBM(K:d_)(T:String)(r:V->V%0->Hp->VK->Prop)(e:TE)(t:TA):TE:=λa H Q=>e a H λx b=>tyV K T x b/\t a b λd f=>r x d f Q
def Np{T i:String}{r:V->V%0->Hp->VK->Prop}(z:PlainAttrs T)(g:Slot T d i)(j:aeF (.builtin i)=pure (.type "method_descriptor"))(D:ś a i r)(A:PE a h Ρ)(f:X_ h d a.env (eval h a.env)=eval h a.env:=by rfl)(e:(k.endLine==w.line)=L:=by rfl):PE a (.Call (.Attribute h d k) [] [] w) (WM a.K T r Ρ):=by intro o s m H Q I b;refine wpAny_Call_method0_late f e (í (A o s m H _ I b) λv u⟨x,H1,p,n,q,y⟩=>?_);obtain⟨P,E⟩:=Hj p n q;exact⟨T,i,z,g,j,P,E,aad rfl (adX (D o u m H1 x [] v [] Q p n .nil y))⟩
def zZ{t:TA}{T o:String}{r:V->V%0->Hp->VK->Prop}(pa:PlainAttrs T)(m:Slot T d o)(u:aeF (.builtin o)=pure (.type "method_descriptor"))(hm:ś a o r)(ho:PE a h Ρ)(ha:PA a (v::s) t)(j:X_ h d a.env (eval h a.env)=eval h a.env:=by rfl)(n:((Xv w (k_ (v::s) a.env)).all (λx=>!x.1)&&(Y_ w (Yq [] a.env)).all (λx=>x.1.isSome)&&A_ ((v::s).length+([]:Zc%0).length+(if([]:Zc%0).isEmpty then 0 else 1)<30))=L:=by rfl)(i:(k.endLine==w.line)=L:=by rfl)(hs:k_ (v::s) a.env=(h_,eval v a.env)::k_ s a.env:=by rfl)(g:(Xv w (k_ s a.env)).any (·.1)=h_:=by rfl):PE a (.Call (.Attribute h d k) (v::s) [] w) (tBM a.K T r Ρ t):=by intro q e p H Q I f;refine wpAny_Call_method_late j n i rfl (í (ho q e p H _ I f) λb s1⟨x,H1,z,y,E,q1⟩=>?_);obtain⟨h1,h2⟩:=Hj z y E;refine⟨T,o,pa,m,u,h1,h2,?_⟩;have hA:=ha w q s1 p H1 _ z q1;rw[hs]at hA⊢;refine aad (by show(h_||(Xv w (k_ s a.env)).any (·.1))=h_;rw[g]<;>rfl) (abF ?_);exact í hA λD P⟨A,H2,I2,r2,q2⟩=>hm q P p H2 x A b D Q I2 y r2 q2
def MtM(X:C)(f:String)(r:V->V%0->Hp->VK->Prop):Prop:=∀(e:(O×Obj)%0)(s:ge)(a:St)(H:Hp)(x:V)(b:V%0)(v:B)(d:B%0)(Q:VK),N X e a H s->ß x v->Ö b d->r x b H Q->xy (B_ X.prog X.w) X.A (call (.builtin f) (v::d)) (EP X e a Q) X.xe s
def Ö.one:∀{x:V}{a:B%0},Ö [x] a->∃u,a=[u]/\ß x u|_,_,.cons r .nil=>⟨_,rfl,r⟩
def Ö.two:∀{x y:V}{a:B%0},Ö [x,y] a->∃u v,a=[u,v]/\ß x u/\ß y v|_,_,_,.cons r (.cons q .nil)=>⟨_,_,rfl,r,q⟩
def Ö.zero:∀{a:B%0},Ö [] a->a=[]|_,.nil=>rfl
def Ö.dropLast(h:Ö ζ P):Ö ζ.dropLast P.dropLast:=by induction h with|nil=>exact .nil|cons r t a=>cases t with|nil=>exact .nil|cons q b=>exact .cons r a
def yr(l:Q%0):l.eraseIdx (l.length-1)=l.dropLast:=by induction l with|nil=>rfl|cons a r d=>cases r with|nil=>rfl|cons b r=>
 have e:(a::b::r).length-1=((b::r).length-1)+1:=by have g:(a::b::r).length=r.length+2:=rfl;have f:(b::r).length=r.length+1:=rfl;lia
 rw[e,List.eraseIdx_cons_succ,d];all_goals rfl
def N.lset{i:V%0}{its':B%0}{d:Array B->Array B}(I:N a δ Τ g f)(r:g e=Z (.lst ζ))(h:f.heap.get? e=Z {cls:=.type "list",data:=.seq P.toArray b})(n:d P.toArray=its'.toArray)(k:Ö i its')(j:i.length<=sizeLine):N a δ Τ (å g e (.lst i)) {f with heap:=f.heap.update e (XX d),toks:=o}:=by have q:=aeM h d;rw[n]at q;refine I.write (x:=e) (e:=e) (by rw[r];exact trivial) (.inl rfl) (λs u p m=>(Zr f.heap (XX d) (YH p)).trans m) ⟨_,q⟩ ?_;exact⟨j,its',_,k,q⟩
def N.lnew{ys:V%0}{t':Nat}(I:N a δ Τ g f)(d:Ö ys P)(b:ys.length<=sizeLine):N a δ Τ (å g f.heap.objs.size (.lst ys)) {f with heap:=f.heap.push {cls:=.type "list",data:=.seq P.toArray},toks:=t'}:=I.laid (λ_ _ q=>l_ _ q) (o_ _) ⟨b,P,0,d,rl _ rfl⟩
def N.fresh(I:N a δ Τ g f):g f.heap.objs.size=U:=I.hok.fresh (o_ _)
def N.lstM(I:N a δ Τ g f)(h:g e=Z (.lst ζ)):ζ.length<=sizeLine/\∃(d:B%0)(n:Nat),Ö ζ d/\ζ.length=d.length/\f.heap.get? e=Z {cls:=.type "list",data:=.seq d.toArray n}:=by obtain⟨z,d,n,r,b⟩:=I.hok e _ h;exact⟨z,d,n,r,r.length,b⟩
def IW:V->V%0->Hp->VK->Prop:=λx b H Q=>∃l a y,x=.ref l/\b=[y]/\H l=Z (.lst a)/\a.length<sizeLine/\Q .non (å H l (.lst (a++[y])))
def sO:MtM a "list.append" IW:=by intro A s j H x m v o Q I f g h;obtain⟨l,k,y,rfl,rfl,d,p,q⟩:=h;cases f;obtain⟨u,rfl,i⟩:=g.one;obtain⟨z,b,n,r,w,e⟩:=I.lstM d;refine aau aam ⟨_,e,rfl⟩ adZ (adE _ _) (aen l b.toArray n u (by rw[I_];lia)) ⟨e,?_⟩;refine⟨.non,_,I.lset (its':=b++[u]) d e ∅ (r.append (.cons i .nil)) ?_,rfl,q⟩;rw[X2,adt];lia
def WN:V->V%0->Hp->VK->Prop:=λx b H Q=>∃l a y,x=.ref l/\b=[]/\H l=Z (.lst a)/\a[a.length-1]?=Z y/\Q y (å H l (.lst a.dropLast))
def Nq:MtM a "list.pop" WN:=by
 intro P s w H x D v E Q I i j h;obtain⟨l,A,y,rfl,rfl,g,m,q⟩:=h;cases i;have f:=j.zero;subst f;obtain⟨z,b,n,r,p,e⟩:=I.lstM g;obtain⟨u,o,k⟩:=r.get m;have d:b.toArray[b.toArray.size-1]?=Z u:=by show b.toArray[b.length-1]?=Z u;rw[<-ZD,<-p];exact o
 refine aau aed ⟨_,e,rfl⟩ F.entry_list_pop (F.args_list_pop_1 _) (MeetsSeq.list_pop_last l b.toArray n u d (by rw[I_];lia)) ⟨e,?_⟩;refine⟨y,_,I.lset (its':=b.dropLast) g e ?_ r.dropLast ?_,k,q⟩;·show b.toArray.eraseIdxIfInBounds (b.toArray.size-1)=b.dropLast.toArray;rw[I_,List.eraseIdxIfInBounds_toArray,yr]
 ·rw[List.length_dropLast];lia
def VP:R2:=λx y H Q=>∃l b d a,x=.ref l/\y=.ref b/\H l=Z (.lst d)/\H b=Z (.lst a)/\d.length+a.length<=sizeLine/\∀p,H p=U->Q (.ref p) (å H p (.lst (d++a)))
def Hk:ă a (ZL .Add) VP:=by
 intro f' s w H x y v u Q I i g h;obtain⟨l,b,E,A,rfl,rfl,k,hB,hz,q⟩:=h;cases i;cases g;obtain⟨z,f,n,r,hl,e⟩:=I.lstM k;obtain⟨D,d,P,j,p,o⟩:=I.lstM hB;refine PySem.P.add_list e o ?_ (by rw[I_,I_];lia);have m:f.toArray++d.toArray=(f++d).toArray:=by simp
 rw[m];exact⟨.ref _,_,I.lnew (t':=s.toks) (r.append j) (by rw[X2];lia),rfl,q _ I.fresh⟩
end L2
namespace Att
open PySem.W PySem.Calls
def nI{P:adC}:∀(d:Int%0)(e:B%0),WellAll P I e (d.map WData.int)->ae_ e d:=by intro d;induction d with|nil=>intro e w;rw[ab1]at w;cases w;exact .nil|cons n d f=>intro e w;rw[F_]at w;cases w with|cons a b=>cases a;exact .cons _ _ (f _ b)
def z0{l:OpenLaw}(y:l.most=Z b){P:adC}{h:O_}{args:WData%0}{f:B%0}(g:l.row.toRowW.claim.pre args=L)(n:WellAll P h f args):∃a o e,f=[U_ a]/\args=[WData.list (e.map WData.int)]/\h.get? a=Z {cls:=.type "list",data:=.seq o.toArray}/\ae_ o e/\e.length<=b:=by
 have Ŀ:WShape.hasAll [] args [.list .int]=L:=(pre_splitW g).1;have p:l.pre.holds [] {args:=args}=L:=(pre_splitW g).2;obtain⟨d,r,rfl,D,A⟩:=hasAllW_cons Ŀ;obtain rfl:=hasAllW_nil A;obtain⟨E,rfl,z⟩:=hasW_list D;obtain⟨e,rfl⟩:=items_int z;have i:e.length<=b:=by
  unfold OpenLaw.pre at p;have m:(WTm.not (.lt (.lit (.int (b:Int))) (.len (.arg 0)))).holds [] {args:=[.list (e.map .int)]}=L:=by have m:=(holds_andW p).1;rw[y]at m;exact m
  have k:=condW_of m (w_not (w_lt w_lit (w_len_list (w_arg rfl))));rw[T_]at k;refine Nat.le_of_not_lt λq=>?_;have v:(b:Int)<((e.length:Nat):Int):=by lia
  first|(rw[decide_eq_true v]at k;exact absurd k #v[])|(simp at k;lia)
 cases n with|cons u s=>cases s;cases u with|list w j=>exact⟨_,_,e,rfl,rfl,w,nI e _ j,i⟩
def z4(l:OpenLaw)(args:WData%0):l.row.toRowW.claim.post args (.bool L) args=L:=postW_of (r:=l.row.toRowW) (X:=(L==L)) (show WShape.has [] (.bool L) .bool=L by first|rfl|decide|simp[WShape.has,WShape.arms,WShape.armsAll]) (show(WTm.eq .res (.lit (.bool L))).value [] {args:=args,res:=Z (.bool L),after:=args}=Z (.bool (L==L))from w_eq_bool (w_res rfl) w_lit) rfl
def attach_call{l:OpenLaw}{XP:(Str->B%1)->O_->Prop}{YP:v_->O_->Prop}{d:DefRec}(hn:l.most=Z b)(P:d.params.defaults=[])(s:∀(w:v_)(g e:ge)(y D:Str->B%1)(k:O)(o:Obj)(A z h:B)(a:O)(j:B%0)(v:Int%0),Ground p E [] XP w g y D e.heap->YP w e.heap->e.heap.get? k=Z o->o.data=.func (docDef d.name d.params d.body d.scope A z h)->e.heap.CodeRec z d.name->y d.name=Z (.ref k)->e.heap.get? a=Z {cls:=.type "list",data:=.seq j.toArray}->ae_ j v->v.length<=b->e.gens=#[]->ŭ (B_ l.prog w) adR (.call (.ref k) ⟨[.ref a],[]⟩) (λr u=>r=.ok (.ret (.bool L))/\OldK e.heap u.heap/\u.os=e.os/\X' u.gens) e):WalkO p E XP YP l.row.toRowW d [] (λf j=>afc f j):=by intro w g e y D G Y k o A z h dV kV ho hd Q hD I hg c' a' as m b' d' H e';obtain rfl:dV=.none:=Dflts.none hD P;obtain rfl:kV=.none:=Dflts.noKw hD;obtain⟨a,j,v,rfl,rfl,n,i,q⟩:=z0 hn m H;refine enter_call (aaE (s w g e y D k o A z h a j v G Y ho (fd_plain hd) Q I n i q hg) λr u hq=>?_);obtain⟨rfl,h2,h3,h4⟩:=hq;exact⟨.inl ⟨.bool L,.bool L,[],rfl,λ_=>rfl,.bool L,z4 l _,λ_=>⟨abm,λ_ hm=>(nomatch hm)⟩⟩,h2,h3,h4⟩
def VR(h:O_)(b d:O):(O×Obj)%0:=(y_ h.objs.size).filterMap λa=>if a=b\/a=d then U else(h.get? a).map λo=>(a,o)
end Att
namespace L2
def sP:∀{a:B%0}{b:Int%0},ae_ a b->Ö (b.map V.int) a|_,_,.nil=>.nil|_,_,.cons n t h=>.cons ⟨t,rfl⟩ (sP h)
def RO(H:Hp):Prop:=∀b,H b=U\/∃o a,H b=Z (.frz o (.lst a))
def DZ{mb:Str->B%1}{CX:ŉ}{sp:Sp}{ns:Int%0}(KX:q.In f.heap)(c':f.heap.Ns E_ Ζ)(y:f.heap.Ns ab5 mb)(n':∀d:Str,d≠"__name__"->mb d=Yz d)(i':f.heap.NoLimit)(hg:f.gens=#[])(ha:f.heap.get? A=Z {cls:=.type "list",data:=.seq P.toArray})(hi:ae_ P ns)(hl:ns.length<=sizeLine)(hr:ã b adR)(F:∀E:O_,q.In E->E.Ns E_ Ζ->ö p n q Ζ E CX b e Ç [d] sp)(a':∀(s:ge)(u:B),aex s Ç ⟨[u],[]⟩ [(d,u)])(m':∀H:Hp,RO H->ā q H A (ns.map V.int)->sp [.ref A] H (λv _=>v=.bl L) λ_ _ _=>False)(o':∀H g D,CX [] H f (λ_ _ _=>False) g D->False):ŭ (B_ p n) adR (.call (.ref e) ⟨[.ref A],[]⟩) (λr D=>r=.ok (.ret (.bool L))/\OldK f.heap D.heap/\D.os=f.os/\X' D.gens) f:=by
 have rv:=sP hi;have g':=hi.length;have Q:∀H:Hp,RO H->ā q H A (ns.map V.int)->č p n H f.heap->(∀a,H a≠U->a=A)->(H A≠U->q.lookup A=U)->ŭ (B_ p n) adR (.call (.ref e) ⟨[.ref A],[]⟩) (λr D=>r=.ok (.ret (.bool L))/\OldK f.heap D.heap/\D.os=f.os/\X' D.gens) f:=by
  intro H hO hS b' hA hK;have w:∀{a:O}{o:Obj},f.heap.get? a=Z o->H a=U->(DM f.heap H).get? a=Z o:=λg k=>DN g k;have l':∀{a:O}{o:Obj}{es:Array DictEntry}{ep:Nat},f.heap.get? a=Z o->o.data=.dict es ep->H a=U:=λ{a o es ep}g j=>by cases i:H a with|none=>rfl|some u=>have e':a=A:=hA a (by rw[i];simp);subst e';rw[ha]at g;cases g;have d':Data.seq P.toArray _=ZJ es ep:=j;cases d'
  have I:∀{a:O}{m:Str->B%1},f.heap.Ns a m->(DM f.heap H).Ns a m:=λ{a m}⟨o,es,ep,g,j,r⟩=>⟨o,es,ep,w g (l' g j),j,r⟩;have f':q.In (DM f.heap H):=λa o g=>w (KX a o g) (by cases i:H a with|none=>rfl|some u=>have e':a=A:=hA a (by rw[i];simp);subst e';rw[hK (by rw[i];simp)]at g;cases g);have hM:Mod q Ζ (DM f.heap H):=⟨f',I c',⟨mb,I y,n'⟩,let⟨mc,h1,h2⟩:=i';⟨mc,I h1,h2⟩⟩;have e0:ŕ p n q Ζ (DM f.heap H) adR [] f H:=⟨rfl,hM,λa o g=>IH g,abi (zt _ _),trivial,λa y=>absurd (show a∈([]:O%0)from y) ∅,b',.of_eq hg⟩;refine aaE ((F _ f' (I c')).run adR [] f H ⟨[.ref A],[]⟩ [.ref A] [.ref A] _ _ hr e0 (a' f (.ref A)) (.cons rfl .nil) (m' H hO hS)) λr D h=>?_;cases r with|error g=>exact(o' H g D h).elim|ok fl=>cases fl with|next=>exact X9 h|brk=>exact X9 h|cont=>exact X9 h|ret u=>obtain⟨v,H',os,k',un,h',r',i⟩:=h;have q':v=.bl L:=i;subst q';obtain rfl:u=XA L:=r';refine⟨rfl,OldK.of_keep λa o g=>?_,os,k'⟩;cases i:H a with|none=>exact un.keep a o g i (by intro z;exact absurd (show a∈([]:O%0)from z) ∅) ∅|some u=>
    rcases hO a with z|⟨ob,xs,z⟩;·rw[i]at z;cases z
    ·have z2:=un.frzs a ob _ z;obtain⟨e1,_⟩:=b' a _ z;obtain⟨e2,_⟩:=h' a _ z2;rw[g]at e1;cases e1;exact e2
 cases hk:q.lookup A with|some o=>have g:=KX A o hk;rw[ha]at g;cases g;refine Q (λ_=>U) (λ_=>.inl rfl) (.inr ⟨_,P.toArray,_,hk,rfl,rfl,rfl,by rw[I_,g'];exact hl,by simpa using rv⟩) (λa u z=>by have z':(U:HO%1)=Z u:=z;cases z') (λa z=>absurd rfl z) λz=>absurd rfl z|none=>
  refine Q (λa=>if a=A then Z (.frz {cls:=.type "list",data:=.seq P.toArray} (.lst (ns.map V.int)))else U) (λa=>?_) (.inl (.inr ⟨{cls:=.type "list",data:=.seq P.toArray},if_pos rfl⟩)) (λa u z=>?_) (λa z=>?_) λ_=>hk
  · by_cases y:a=A;·exact .inr ⟨_,_,if_pos y⟩
    ·exact .inl (if_neg y)
  · by_cases y:a=A;·have z':=(if_pos y).symm.trans z;cases z';subst y;exact⟨ha,by rw[T_];exact hl,P,_,rv,ha⟩
    ·have z':=(if_neg y).symm.trans z;cases z'
  · by_cases y:a=A;·exact y
    ·exact absurd (if_neg y) z
def walk_of{l:adi}{XP:(Str->B%1)->O_->Prop}{YP:v_->O_->Prop}{g:DefRec}{K:adC->d_}{CX:v_->ŉ}{sp:v_->Sp}(hn:l.most=Z b)(P:b<=sizeLine)(a':g.params.defaults=[])(hr:ã o adR)(hY:∀(w:v_)(h:O_),YP w h->(K w.params).In h)(F:∀(w:v_)(n:Str->B%1)(z:O)(h:O_),(K w.params).In h->h.Ns E_ n->n g.name=Z (.ref z)->∃D:Yo,(∀(s:ge)(u:B),aex s D ⟨[u],[]⟩ [(d,u)])/\∀j:O_,(K w.params).In j->j.Ns E_ n->ö l.prog w (K w.params) n j (CX w) o z D [d] (sp w))(I:∀(w:v_)(H:Hp)(a:O)(y:Int%0),y.length<=b->RO H->ā (K w.params) H a (y.map V.int)->sp w [.ref a] H (λv _=>v=.bl L) λ_ _ _=>False)(b':∀(w:v_)(H:Hp)(s:ge)(e:B)(A:ge),CX w [] H s (λ_ _ _=>False) e A->False):afr p E XP YP l.row.toRowW g [] (λf vs=>afc f vs):=by refine Att.attach_call hn a' λw c' q n mb z i pm cd e' a vs y G Y ho hd d' Q r m k hg=>?_;have KX:=hY w _ Y;obtain⟨D,hb,hF⟩:=F w n z _ KX G.T.g Q;exact DZ KX G.T.g G.T.b G.T.builtins G.T.nolimit hg r m (Xx k P) hr hF hb (λH hO hS=>I w H a y k hO hS) λH e A=>b' w H q e A
def bM(s:Yd)(j:Nat):Yd:=match s with|.ClassDef _ _ _ a _ _ _ _ _ _ _=>a.getD j (.Pass ⟨0,0,0,0⟩)|_=>.Pass ⟨0,0,0,0⟩
def iO(s:Yd):Arguments:=match s with|.FunctionDef _ a _ _ _ _ _ _ _ _=>a|_=>{posonlyargs:=[],args:=[],vararg:=U,kwonlyargs:=[],kw_defaults:=[],kwarg:=U,defaults:=[]}
def bS(s:Yd):Yd%0:=match s with|.FunctionDef _ _ b _ _ _ _ _ _ _=>b|_=>[]
def au(s:Yd):YJ:=match s with|.FunctionDef _ _ _ _ _ _ a _ _ _=>a|_=>{kind:=.function,names:=[],isGenerator:=h_,isCoroutine:=h_}
abbrev Ĳ:ŉ:=λ_ _ _ _ _ _=>False
abbrev E0:XK:=λ_ _ _=>False
def Nr:kK Ĳ a E0:=λ_ _ _ _ _ _ _ h=>h.elim
structure Ń(K:d_)(x qual:Str)(st:Yd)(f:O)(fd:Yo):Prop where
 ex:∃(oc:B)(od:O%1)(kV doc pm:B)(an:O%1)(cdv ct:B)(osl:Array (B%1)),fd=Zb x qual (iO st) (bS st) (au st) .none kV doc pm an cdv ct/\K.lookup f=Z ⟨oc,od,.func fd,osl⟩/\abb K cdv qual=L
 kp:Yv K (.ref f)=L
def Ń.ok{o:Str%0}{m:Sp}(F:Ń q d r Γ e Ç)(S:iL E o (au Γ))(u:∀j H Q a,m j H Q a->j.length=o.length)(k:∀(i:B)(A:x_)(g:Env%0)(s:ge)(H:Hp)(j:V%0)(Q:VK)(a:XK),ã b (A.deeper (ĸ r (au Γ) s.heap.objs.size e i))->m j H Q a->∃t,Ł (qK Ĳ p n q Ζ I E r (au Γ) e i A g s H a).nox (bS Γ) t/\t {nx:=λ_ D=>Q .non D,rt:=Q} (start E j) H):ö p n q Ζ I Ĳ (b+1) e Ç o m:=by obtain⟨oc,od,kV,a',pm,an,i,ct,P,rfl,y,w⟩:=F.ex;refine DV y w S u λA g s H j Q a z v=>?_;obtain⟨t,h,f⟩:=k i A g s H j Q a z v;exact⟨t,h.nox,f⟩
def Ń.binds(F:Ń q d r Γ e Ç)(h:∀(kV a g:B)(j:O%1)(b i:B)(f:B%0),f.length=E.length->aep (Zb d r (iO Γ) (bS Γ) (au Γ) .none kV a g j b i) ⟨f,[]⟩=pure (E.zip f)):ø q Ç E []:=by obtain⟨o,n,kV,a,g,j,b,i,k,rfl,p,m⟩:=F.ex;exact .all (h kV a g j b i)
def Hl{m j:O%1}{f:Array (B%1)}{h b g a i:B}(l:q.lookup e=Z ⟨ω,m,.func (Zb d r (iO Γ) (bS Γ) (au Γ) .none h b g j a i),f⟩)(c:abb q a r=L)(k:Yv q (.ref e)=L):Ń q d r Γ e (Zb d r (iO Γ) (bS Γ) (au Γ) .none h b g j a i):=⟨⟨ω,m,h,b,g,j,a,i,f,rfl,l,c⟩,k⟩
def D6{A B:Prop}(h:B):if h_=L then A else B:=by rw[if_neg H_];exact h
def D7{A B:Prop}(h:A):if L=L then A else B:=by rw[if_pos rfl];exact h
def Õ(H a:Hp):Prop:=∀b o,H b=Z o->a b=Z o
def Õ.refl(H:Hp):Õ H H:=λ_ _ h=>h
def Õ.trans{d:Hp}(a:Õ g ξ)(b:Õ ξ d):Õ g d:=λc o h=>b c o (a c o h)
end L2
namespace FD
open L2
inductive W where|non|bl(b:Bool)|int(i:Int)|str(x:Str)|tup(xs:W%0)|lst(xs:W%0)|scr(ns:Int%0)|exn(c:Nat)|obj(k:Nat)(xs:W%0)
def Ų:Nat->Str|0=>"Keeper"|_=>"Desk"
def ė:Nat->Str%0|0=>["table","each","most","jar","latest"]|_=>["table","jar","done","undone"]
def Į:Nat->Str|0=>"NoName"|1=>"NoTable"|2=>"NoPath"|3=>"NoAsk"|4=>"NoNote"|5=>"NoJar"|6=>"NoNumber"|7=>"NoText"|8=>"NoStep"|_=>"JarError"
def SqF(K:d_)(H:Hp)(a:O)(d:V%0):Prop:=(∃o,H a=Z (.frz o (.lst d)))\/∃(o:Obj)(b:Array B)(n:Nat),K.lookup a=Z o/\o.cls=.type "list"/\o.dict=U/\o.data=.seq b n/\b.size<=sizeLine/\Ö d b.toList
def SqF.l(h:SqF q g e ζ):ā q g e ζ:=h.elim (λh=>.inl (.inr h)) .inr
mutual
def Ü(K:d_)(H:Hp):W->V->Prop|.non,v=>v=.non|.bl b,v=>v=.bl b|.int i,v=>v=.int i|.str x,v=>v=.str x|.tup e,v=>∃a g,v=.ref a/\H a=Z (.tup g)/\S K H e g|.lst e,v=>∃a g,v=.ref a/\H a=Z (.lst g)/\S K H e g|.scr j,v=>∃a,v=.ref a/\SqF K H a (j.map V.int)|.exn c,v=>∃a o u C,v=.ref a/\H a=Z (.frz o u)/\o.cls=.ref C/\X6 K E_ (Į c)=Z (Z (.ref C))|.obj k e,v=>∃a C m f,v=.ref a/\H a=Z (.ins C m ((ė k).zip f))/\X6 K E_ (Ų k)=Z (Z (.ref C))/\S K H e f/\e.length<=(ė k).length
def S(K:d_)(H:Hp):W%0->V%0->Prop|[],f=>f=[]|d::e,f=>∃v h,f=v::h/\Ü K H d v/\S K H e h
end
mutual
theorem Ü.mono{K:d_}{H j:Hp}(e:Õ H j):∀(d:W)(v:V),Ü K H d v->Ü K j d v|.non,_,h=>h|.bl _,_,h=>h|.int _,_,h=>h|.str _,_,h=>h|.tup b,v,h=>by obtain⟨a,f,r,h,q⟩:∃a f,v=.ref a/\H a=Z (.tup f)/\S K H b f:=h;exact⟨a,f,r,e _ _ h,S.mono e b f q⟩|.lst b,v,h=>by obtain⟨a,f,r,h,q⟩:∃a f,v=.ref a/\H a=Z (.lst f)/\S K H b f:=h;exact⟨a,f,r,e _ _ h,S.mono e b f q⟩|.scr p,v,h=>by obtain⟨a,r,h⟩:∃a,v=.ref a/\SqF K H a (p.map V.int):=h;exact⟨a,r,h.imp (λ⟨o,h⟩=>⟨o,e _ _ h⟩) id⟩|.exn c,v,h=>by obtain⟨a,o,u,C,r,h,q⟩:∃a o u C,v=.ref a/\H a=Z (.frz o u)/\o.cls=.ref C/\X6 K E_ (Į c)=Z (Z (.ref C)):=h;exact⟨a,o,u,C,r,e _ _ h,q⟩|.obj k b,v,h=>by obtain⟨a,C,m,g,r,h,n,q,l⟩:∃a C m g,v=.ref a/\H a=Z (.ins C m ((ė k).zip g))/\X6 K E_ (Ų k)=Z (Z (.ref C))/\S K H b g/\b.length<=(ė k).length:=h;exact⟨a,C,m,g,r,e _ _ h,n,S.mono e b g q,l⟩theorem S.mono{K:d_}{H j:Hp}(e:Õ H j):∀(b:W%0)(g:V%0),S K H b g->S K j b g|[],_,h=>h|d::b,g,h=>by obtain⟨v,i,r,h,q⟩:∃v i,g=v::i/\Ü K H d v/\S K H b i:=h;exact⟨v,i,r,Ü.mono e d v h,S.mono e b i q⟩end
def S.nil:S q g [] []:=rfl
def S.cons{d b v a}(h:Ü q g d v)(t:S q g b a):S q g (d::b) (v::a):=⟨v,a,rfl,h,t⟩
def S.length{K:d_}{H:Hp}:∀{b:W%0}{a:V%0},S K H b a->a.length=b.length|[],a,h=>by cases((h));rfl|d::b,a,h=>by obtain⟨v,e,r,_,q⟩:∃v e,a=v::e/\Ü K H d v/\S K H b e:=h;subst r;show e.length+1=b.length+1;rw[S.length q]
def S.get{K:d_}{H:Hp}:∀{b:W%0}{a:V%0}{i:Nat}{v:V},S K H b a->a[i]?=Z v->∃d,b[i]?=Z d/\Ü K H d v|[],a,i,v,h,e=>by cases((h));simp at e|d::b,a,i,v,h,e=>by obtain⟨n,f,r,j,q⟩:∃v f,a=v::f/\Ü K H d v/\S K H b f:=h;subst r;cases i with|zero=>simp at e;subst e;exact⟨d,rfl,j⟩|succ i=>obtain⟨m,k,g⟩:=S.get q (by simpa using e);exact⟨m,by simpa using k,g⟩
def S.get'{K:d_}{H:Hp}:∀{b:W%0}{a:V%0}{i:Nat}{d:W},S K H b a->b[i]?=Z d->∃v,a[i]?=Z v/\Ü K H d v|[],a,i,v,h,e=>by simp at e|d::b,a,i,o,h,e=>by obtain⟨g,f,r,k,q⟩:∃v f,a=v::f/\Ü K H d v/\S K H b f:=h;subst r;cases i with|zero=>simp at e;subst e;exact⟨g,rfl,k⟩|succ i=>obtain⟨n,m,j⟩:=S.get' q (by simpa using e);exact⟨n,by simpa using m,j⟩
def S.append{K:d_}{H:Hp}:∀{f e:W%0}{b a:V%0},S K H f b->S K H e a->S K H (f++e) (b++a)|[],e,b,a,h,q=>by cases((h));exact q|d::f,e,b,a,h,q=>by obtain⟨i,g,r,j,t⟩:∃v a,b=v::a/\Ü K H d v/\S K H f a:=h;subst r;exact⟨i,g++a,rfl,j,S.append t q⟩
def S.take{K:d_}{H:Hp}:∀{b:W%0}{a:V%0}(n:Nat),S K H b a->S K H (b.take n) (a.take n)|b,a,0,_=>rfl|[],a,n+1,h=>by cases((h));exact rfl|d::b,a,n+1,h=>by obtain⟨f,i,r,g,t⟩:∃v e,a=v::e/\Ü K H d v/\S K H b e:=h;subst r;exact⟨f,_,rfl,g,S.take n t⟩
def S.drop{K:d_}{H:Hp}:∀{b:W%0}{a:V%0}(n:Nat),S K H b a->S K H (b.drop n) (a.drop n)|b,a,0,h=>h|[],a,n+1,h=>by cases((h));exact rfl|d::b,a,n+1,h=>by obtain⟨g,f,r,i,t⟩:∃v e,a=v::e/\Ü K H d v/\S K H b e:=h;subst r;exact S.drop n t
variable{u:W%0}
def Ü.lstE(h:Ü q g (.lst u) υ):∃a b,υ=.ref a/\g a=Z (.lst b)/\S q g u b:=h
def Ü.tupE(h:Ü q g (.tup u) υ):∃a b,υ=.ref a/\g a=Z (.tup b)/\S q g u b:=h
def Ü.exnE(h:Ü q g (.exn b) υ):∃a o u C,υ=.ref a/\g a=Z (.frz o u)/\o.cls=.ref C/\X6 q E_ (Į b)=Z (Z (.ref C)):=h
def Ü.objE(h:Ü q g (.obj b u) υ):∃a C e d,υ=.ref a/\g a=Z (.ins C e ((ė b).zip d))/\X6 q E_ (Ų b)=Z (Z (.ref C))/\S q g u d/\u.length<=(ė b).length:=h
def Ü.scrE{b:Int%0}(h:Ü q g (.scr b) υ):∃a,υ=.ref a/\ā q g a (b.map V.int):=let⟨a,r,h⟩:∃a,υ=.ref a/\SqF q g a _:=h;⟨a,r,h.l⟩
def aG(h:g e=U)(o:HO):Õ g (å g e o):=λb u q=>by rw[aq (aA q h)];exact q
abbrev Ev:=Option W%0
structure â(K:d_)(H:Hp)(σ:L2.St)(ρ:Ev):Prop where
 len:σ.length=ρ.length
 at':∀(i:Nat)(d:W),ρ[i]?=Z (Z d)->∃v,σ[i]?=Z (Z v)/\Ü K H d v
variable{Θ:L2.St}{ε:Ev}
def â.mono(E:â q g Θ ε)(e:Õ g ξ):â q ξ Θ ε:=⟨E.len,λi d h=>let⟨v,b,a⟩:=E.at' i d h;⟨v,b,Ü.mono e d v a⟩⟩
variable{m:W}
def â.set{i:Nat}(E:â q g Θ ε)(r:Ü q g m υ):â q g (Θ.set i (Z υ)) (ε.set i (Z m)):=by
 refine⟨by rw[XR,XR];exact E.len,λj d h=>?_⟩;by_cases a:i=j
 · subst a;by_cases b:i<ε.length;·rw[K_ b]at h;cases h;exact⟨υ,by rw[K_ (by rw[E.len];exact b)],r⟩
   ·rw[X1 (by rw[XR];lia)]at h;cases h
 ·rw[z_ a]at h;rw[z_ a];exact E.at' j d h
def fgt(b:Nat%0)(a:Ev):Ev:=b.foldl (λr j=>r.set j U) a
def â.fgt1(j:Nat)(E:â q g Θ ε):â q g Θ (ε.set j U):=by
 refine⟨by rw[XR];exact E.len,λi d h=>?_⟩;by_cases a:j=i
 · subst a;by_cases b:j<ε.length;·rw[K_ b]at h;cases h
   ·rw[X1 (by rw[XR];lia)]at h;cases h
 ·rw[z_ a]at h;exact E.at' i d h
def â.fgt{K:d_}{H:Hp}{b:L2.St}:∀(a:Nat%0){d:Ev},â K H b d->â K H b (fgt a d)|[],_,E=>E|j::a,_,E=>â.fgt a (E.fgt1 j)
inductive Rs(α:Type)where|ok(a:α)|exc(c:Nat)
abbrev Þ:=W%0->Rs W%1
inductive Fl where|nx(ρ:Ev)|rt(d:W)|exc(c:Nat)
def Fly(N:O->Prop)(H:Hp)(e:O)(d:B)(h:O_):Prop:=H e=U/\N e/\∃b a i,h.get? e=Z b/\b.cls=d/\b.data=.fields a/\a[0]?=Z i/\(a[1]?=Z .none\/∃T g f,a[1]?=Z (.ref T)/\T≠e/\H T=U/\N T/\h.get? T=Z g/\g.data=.fields f/\f[3]?=Z .none)
def SQ(X:C)(a:O):Prop:=X.s₀.heap.get? a=U/\∀p∈X.pn,p.1≠a
def Nt(X:C)(H:Hp)(c:Nat)(e:B)(s:ge):Prop:=∃a b,e=.ref a/\X6 X.K E_ (Į c)=Z (Z (.ref b))/\Fly (SQ X) H a (.ref b) s.heap
def XW(X:C)(c:Nat)(H:Hp):Prop:=∀d b a s e,Õ H a->N X d b a s->Nt X a c e s->X.xe e s
def XW.mono(h:XW a b g)(e:Õ g ξ):XW a b ξ:=λf d j s x i I q=>h f d j s x (e.trans i) I q
def õ(X:C)(H:Hp)(o:Rs W%1)(Q:VK):Prop:=match o with|none=>False|some (.exc c)=>XW X c H|some (.ok d)=>∀v a,Õ H a->Ü X.K a d v->Q v a
def ą(X:C)(H:Hp)(o:Rs Bool%1)(Q:Bool->Hp->Prop):Prop:=match o with|none=>False|some (.exc c)=>XW X c H|some (.ok d)=>∀a,Õ H a->Q d a
def ô(X:C)(H:Hp)(o:Rs (W%0)%1)(Q:V%0->Hp->Prop):Prop:=match o with|none=>False|some (.exc c)=>XW X c H|some (.ok d)=>∀b a,Õ H a->S X.K a d b->Q b a
def ÿ(X:C)(H:Hp)(o:Fl%1)(D:oU):Prop:=match o with|none=>False|some (.exc c)=>XW X c H|some (.rt d)=>∀v a,Õ H a->Ü X.K a d v->D.rt v a|some (.nx e)=>∀b a,Õ H a->â X.K a b e->D.nx b a
def à{b:Type}(o:Rs Q%1)(k:Q->Rs b%1):Rs b%1:=match o with|none=>U|some (.exc c)=>c%9|some (.ok a)=>k a
def c9(o:Rs Q%1)(k:Q->Fl%1):Fl%1:=match o with|none=>U|some (.exc c)=>c%9|some (.ok a)=>k a
def sq(o:Fl%1)(k:Ev->Fl%1):Fl%1:=match o with|some (.nx a)=>k a|o=>o
def õ.mono(e:Õ g ξ):∀{o:Rs W%1},õ a g o Ê->õ a ξ o Ê|none,h=>h|some (.exc _),h=>XW.mono h e|some (.ok _),h=>λv d b r=>h v d (e.trans b) r
def ą.mono{b:Bool->Hp->Prop}(e:Õ g ξ):∀{o:Rs Bool%1},ą a g o b->ą a ξ o b|none,h=>h|some (.exc _),h=>XW.mono h e|some (.ok _),h=>λf d=>h f (e.trans d)
def ô.mono{b:V%0->Hp->Prop}(e:Õ g ξ):∀{o:Rs (W%0)%1},ô a g o b->ô a ξ o b|none,h=>h|some (.exc _),h=>XW.mono h e|some (.ok _),h=>λv f d r=>h v f (e.trans d) r
def ÿ.mono{D:oU}(e:Õ g ξ):∀{o:Fl%1},ÿ a g o D->ÿ a ξ o D|none,h=>h|some (.exc _),h=>XW.mono h e|some (.rt _),h=>λv d b r=>h v d (e.trans b) r|some (.nx _),h=>λv d b r=>h v d (e.trans b) r
def õ.bind{o:Rs W%1}{k:W->Rs W%1}{P:VK}(h:õ a g (à o k) Ê)(f:∀d v b,Õ g b->Ü a.K b d v->õ a b (k d) Ê->P v b):õ a g o P:=by match o,h with|some (.exc _),h=>exact h|some (.ok d),h=>exactλv i e r=>f d v i e r (õ.mono e h)
def õ.bindB{f:Bool->Hp->Prop}{o:Rs W%1}{k:W->Rs Bool%1}(h:ą a g (à o k) f)(i:∀d v b,Õ g b->Ü a.K b d v->ą a b (k d) f->Ê v b):õ a g o Ê:=by match o,h with|some (.exc _),h=>exact h|some (.ok d),h=>exactλv j e r=>i d v j e r (ą.mono e h)
def õ.bindA{f:V%0->Hp->Prop}{o:Rs W%1}{k:W->Rs (W%0)%1}(h:ô a g (à o k) f)(i:∀d v b,Õ g b->Ü a.K b d v->ô a b (k d) f->Ê v b):õ a g o Ê:=by match o,h with|some (.exc _),h=>exact h|some (.ok d),h=>exactλv j e r=>i d v j e r (ô.mono e h)
def õ.bindS{D:oU}{o:Rs W%1}{k:W->Fl%1}(h:ÿ a g (c9 o k) D)(f:∀d v b,Õ g b->Ü a.K b d v->ÿ a b (k d) D->Ê v b):õ a g o Ê:=by match o,h with|some (.exc _),h=>exact h|some (.ok d),h=>exactλv i e r=>f d v i e r (ÿ.mono e h)
def ą.bind{o:Rs Bool%1}{k:Bool->Rs W%1}{P:Bool->Hp->Prop}(h:õ a g (à o k) Ê)(i:∀b f,Õ g f->õ a f (k b) Ê->P b f):ą a g o P:=by match o,h with|some (.exc _),h=>exact h|some (.ok d),h=>exactλj e=>i d j e (õ.mono e h)
def ą.bindB{i:Bool->Hp->Prop}{o:Rs Bool%1}{k:Bool->Rs Bool%1}{P:Bool->Hp->Prop}(h:ą a g (à o k) i)(j:∀b f,Õ g f->ą a f (k b) i->P b f):ą a g o P:=by match o,h with|some (.exc _),h=>exact h|some (.ok d),h=>exactλm e=>j d m e (ą.mono e h)
def ą.bindS{D:oU}{o:Rs Bool%1}{k:Bool->Fl%1}{P:Bool->Hp->Prop}(h:ÿ a g (c9 o k) D)(i:∀b f,Õ g f->ÿ a f (k b) D->P b f):ą a g o P:=by match o,h with|some (.exc _),h=>exact h|some (.ok d),h=>exactλj e=>i d j e (ÿ.mono e h)
variable{Â:Þ}
def ô.bind{o:Rs (W%0)%1}{P:V%0->Hp->Prop}(h:õ a g (à o Â) Ê)(j:∀i f b,Õ g b->S a.K b i f->õ a b (Â i) Ê->P f b):ô a g o P:=by match o,h with|some (.exc _),h=>exact h|some (.ok d),h=>exactλv k e r=>j d v k e r (õ.mono e h)
def ô.bindA{j:V%0->Hp->Prop}{o:Rs (W%0)%1}{k:W%0->Rs (W%0)%1}{P:V%0->Hp->Prop}(h:ô a g (à o k) j)(m:∀i f b,Õ g b->S a.K b i f->ô a b (k i) j->P f b):ô a g o P:=by match o,h with|some (.exc _),h=>exact h|some (.ok d),h=>exactλv n e r=>m d v n e r (ô.mono e h)
abbrev Û:=Ev->Rs W%1
abbrev ñ:=Ev->Rs Bool%1
abbrev ê:=Ev->Rs (W%0)%1
abbrev á:=Ev->Fl%1
abbrev ó:á:=λa=>Z (.nx a)
inductive tF(X:C)(f:Û)(σ:L2.St)(H:Hp)(Q:VK):Prop|mk(ρ:Ev)(E:â X.K H σ ρ)(o:õ X H (f ρ) Q):tF X f σ H Q
inductive tT(X:C)(f:ñ)(σ:L2.St)(H:Hp)(Q:Bool->Hp->Prop):Prop|mk(ρ:Ev)(E:â X.K H σ ρ)(o:ą X H (f ρ) Q):tT X f σ H Q
inductive tA(X:C)(f:ê)(σ:L2.St)(H:Hp)(Q:V%0->Hp->Prop):Prop|mk(ρ:Ev)(E:â X.K H σ ρ)(o:ô X H (f ρ) Q):tA X f σ H Q
inductive tS(X:C)(f:á)(D:oU)(σ:L2.St)(H:Hp):Prop|mk(ρ:Ev)(E:â X.K H σ ρ)(o:ÿ X H (f ρ) D):tS X f D σ H
structure FE(X:C)(e:s_)(f:Û):Prop where h:PE X e (tF X f)
structure FT(X:C)(e:s_)(f:ñ):Prop where h:PT X e (tT X f)
structure FW(X:C)(e:s_)(f:ñ):Prop where h:PW X e (tT X f)
structure FA(X:C)(es:s_%0)(f:ê):Prop where h:PA X es (tA X f)
structure FS(X:C)(st:Yd)(f:á):Prop where h:PS X st (tS X f)
structure Ĩ(X:C)(st:Yd%0)(f:á):Prop where h:Ł X st (tS X f)
variable{z:Û}
def dI(b:PE a h Ρ)(w:∀d H Q e,â a.K H d e->õ a H (z e) Q->Ρ d H Q):FE a h z:=⟨λf s d H Q I⟨e,E,o⟩=>b f s d H Q I (w d H Q e E o)⟩
variable{Ξ:ñ}
def IX{t:TT}(b:PT a h t)(w:∀d H Q e,â a.K H d e->ą a H (Ξ e) Q->t d H Q):FT a h Ξ:=⟨λf s d H Q I⟨e,E,o⟩=>b f s d H Q I (w d H Q e E o)⟩
def Nu{t:TT}(b:PW a h t)(w:∀d H Q e,â a.K H d e->ą a H (Ξ e) Q->t d H Q):FW a h Ξ:=⟨λf g s d H Q I⟨e,E,o⟩=>b f g s d H Q I (w d H Q e E o)⟩
variable{Ψ:á}
def vg{t:TS}(h:PS a Γ t)(w:∀D b H d,â a.K H b d->ÿ a H (Ψ d) D->t D b H):FS a Γ Ψ:=⟨λe s b H D I⟨d,E,o⟩=>h e s b H D I (w D b H d E o)⟩
def Hm{t:TS}(h:Ł a Υ t)(w:∀D b H d,â a.K H b d->ÿ a H (Ψ d) D->t D b H):Ĩ a Υ Ψ:=⟨λe s b H D I⟨d,E,o⟩=>h e s b H D I (w D b H d E o)⟩
def FW.ft(b:FW a h Ξ):FT a h Ξ:=⟨b.h _⟩
def Y(i:Nat):Û:=λa=>match a[i]? with|some (Z d)=>d%3|_=>U
def fC(d:W):Û:=λ_=>d%3
def Nv(i:Nat)(b:PE a h (zv i)):FE a h (Y i):=dI b λj H Q k E o=>by
 unfold Y at o;split at o;·rename_i d e;obtain⟨v,g,f⟩:=E.at' i d e;exact⟨v,g,o v H (.refl H) f⟩
 ·exact o.elim
def Ģ(h:a.env.kindOf d=Z .globalImplicit):Gl a d:=h
def SS(i:Nat){x:Str}(f:a.N[i]?=Z x:=by lk)(d:a.env.scope.names.lookup x=Z .local:=by lk)(e:(x==("__debug__":Str))=h_:=by lk)(b:(x==("__classdict__":Str))=h_:=by lk):FE a (.Name x k) (Y i):=Nv i (zw f (.inl d) e b)
def SU(i:Nat){x:Str}(f:a.N[i]?=Z x:=by lk)(d:a.env.scope.names.lookup x=Z .cell:=by lk)(e:(x==("__debug__":Str))=h_:=by lk)(b:(x==("__classdict__":Str))=h_:=by lk):FE a (.Name x k) (Y i):=Nv i (zw f (.inr (.inl d)) e b)
def ML(b:PE a h (tC υ))(r:∀K H,Ü K H m υ):FE a h (fC m):=dI b λ_ H _ _ _ o=>o υ H (.refl H) (r a.K H)
def Nw{i j}:FE a (.Constant (.int i) j k) (fC (.int i)):=ML M3 λ_ _=>rfl
def SV{b j}:FE a (.Constant (.bool b) j k) (fC (.bl b)):=ML Sq λ_ _=>rfl
def Nx{j}:FE a (.Constant .none j k) (fC .non):=ML M4 λ_ _=>rfl
def Ny{x j}:FE a (.Constant (.str x) j k) (fC (.str x)):=ML M5 λ_ _=>rfl
def IY{t:Tok}(e:Gl a d)(b:a.mg d=Z (.int y t))(f:(d==("__debug__":Str))=h_:=by lk):FE a (.Name d k) (fC (.int y)):=ML (zx (υ:=.int y) e b ⟨t,rfl⟩ f) λ_ _=>rfl
def IZ{t:Tok}(e:Gl a d)(b:a.mg d=Z (.str r t))(f:(d==("__debug__":Str))=h_:=by lk):FE a (.Name d k) (fC (.str r)):=ML (zx (υ:=.str r) e b ⟨t,rfl⟩ f) λ_ _=>rfl
def R(g:W->W->Rs W%1)(d b:Û):Û:=λa=>à (d a) λx=>à (b a) λy=>g x y
def Ĝ(X:C)(r:R2)(g:W->W->Rs W%1):Prop:=∀b a x y H Q,Ü X.K H b x->Ü X.K H a y->õ X H (g b a) Q->r x y H Q
variable{Ñ:Û}
def two{r:R2}{g:W->W->Rs W%1}(k:Ĝ a r g){d:L2.St}{H:Hp}{Q:VK}{b:Ev}(E:â a.K H d b)(o:õ a H (R g z Ñ b) Q):tOp r (tF a z) (tF a Ñ) d H Q:=⟨b,E,õ.bind o λe x s n h j=>⟨b,E.mono n,õ.bind j λp y q m f i=>k e p x y q Q (Ü.mono m e x h) f i⟩⟩
def yt{b:Operator}{r:R2}{g:W->W->Rs W%1}(d:ă a (ZL b) r)(e:Ĝ a r g)(i:FE a h z)(f:FE a v Ñ):FE a (.BinOp h b v k) (R g z Ñ):=dI (Nb d i.h f.h) λ_ _ _ _ E o=>two e E o
def mB{b:afn}{r:R2}{g:W->W->Rs W%1}(d:ă a (XZ b) r)(f:Ĝ a r g)(j:FE a h z)(i:FE a v Ñ)(e:W_ b v=h_):FE a (.Compare h [b] [v] k) (R g z Ñ):=dI (zL d j.h i.h e) λ_ _ _ _ E o=>two f E o
def ĉ:W->Rs Bool%1|.bl b=>b%3|_=>U
def fB(f:Û):ñ:=λa=>à (f a) ĉ
def wN{d:Bool->Hp->Prop}(r:Ü a.K g m υ)(o:ą a g (ĉ m) d):∃k,υ=.bl k/\d k g:=by cases m with|bl b=>exact⟨b,r,o g (.refl g)⟩|_=>exact o.elim
def jr{f:afn}{r:R2}{g:W->W->Rs W%1}(j:ă a (XZ f) r)(n:Ĝ a r g)(q:FE a h z)(p:FE a v Ñ)(m:W_ f v=h_):FT a (.Compare h [f] [v] k) (fB (R g z Ñ)):=IX (zM j q.h p.h m) λs H Q u E o=>by exact two n E (õ.bindB o λd b w e r i=>wN r i)
def Nz(i:FE a h z)(g:∀ý,isTrue h a.env ý=(do let v<-ý;acZ h.pos;ű [v] (truthy v)):=by intro _;lk):FT a h (fB z):=IX (GZ i.h g) λj H Q b E o=>⟨b,E,õ.bindB o λd v k e r f=>wN r f⟩
def mC(f g:ñ):ñ:=λa=>à (f a) λk=>if k then g a else h_%3
def Đ(f g:ñ):ñ:=λa=>à (f a) λk=>if k then L%3 else g a
def cC(f:ñ):ñ:=λa=>à (f a) λk=>(!k)%3
def I0(b:FT a h Ξ):FW a (.BoolOp .And [h] k) Ξ:=⟨IJ b.h⟩
def NA(b:FT a h Ξ):FW a (.BoolOp .Or [h] k) Ξ:=⟨G0 b.h⟩
def Hn{g:ñ}(m:FT a h Ξ)(j:FW a (.BoolOp .And (v::s) k) g):FW a (.BoolOp .And (h::v::s) k) (mC Ξ g):=Nu (M6 m.h j.h) λn H Q d E o=>⟨d,E,ą.bindB o λb i e f=>by cases b with|true=>exact D7 ⟨d,E.mono e,f⟩|false=>exact D6 (f i (.refl i))⟩
def NB{g:ñ}(m:FT a h Ξ)(j:FW a (.BoolOp .Or (v::s) k) g):FW a (.BoolOp .Or (h::v::s) k) (Đ Ξ g):=Nu (M7 m.h j.h) λn H Q d E o=>⟨d,E,ą.bindB o λb i e f=>by cases b with|true=>exact D7 (f i (.refl i))|false=>exact D6 ⟨d,E.mono e,f⟩⟩
def NC(i:FT a h Ξ):FT a (.UnaryOp .Not h k) (cC Ξ):=IX (Ha i.h) λj H Q f E o=>⟨f,E,ą.bindB o λb d e g=>g d (.refl d)⟩
def lB(f g:Û):Û:=λa=>à (f a) λx=>à (ĉ x) λk=>if k then g a else .bl h_%3
def İ(f g:Û):Û:=λa=>à (f a) λx=>à (ĉ x) λk=>if k then .bl L%3 else g a
def RQ(f:Û):Û:=λa=>à (f a) λx=>à (ĉ x) λk=>.bl (!k)%3
def vh{k:Bool->Rs W%1}(r:Ü a.K g m υ)(o:õ a g (à (ĉ m) k) Ê):∃b,υ=.bl b/\õ a g (k b) Ê:=by cases m with|bl b=>exact⟨b,r,o⟩|_=>exact o.elim
def ND{b}(d:FE a h z):FE a (.BoolOp b [h] k) z:=⟨M8 d.h⟩
def NE(p:FE a h z)(n:FE a (.BoolOp .And (v::s) k) Ñ):FE a (.BoolOp .And (h::v::s) k) (lB z Ñ):=dI (Hb p.h n.h) λq H Q g E o=>⟨g,E,õ.bind o λd f j e r m=>by obtain⟨b,rfl,i⟩:=vh r m;refine⟨b,rfl,?_⟩;cases b with|true=>exact D7 ⟨g,E.mono e,i⟩|false=>exact D6 (i _ j (.refl j) rfl)⟩
def SW(p:FE a h z)(n:FE a (.BoolOp .Or (v::s) k) Ñ):FE a (.BoolOp .Or (h::v::s) k) (İ z Ñ):=dI (Su p.h n.h) λq H Q g E o=>⟨g,E,õ.bind o λd f j e r m=>by obtain⟨b,rfl,i⟩:=vh r m;refine⟨b,rfl,?_⟩;cases b with|true=>exact D7 (i _ j (.refl j) rfl)|false=>exact D6 ⟨g,E.mono e,i⟩⟩
def NF(m:FE a h z):FE a (.UnaryOp .Not h k) (RQ z):=dI (M9 m.h) λn H Q g E o=>⟨g,E,õ.bind o λd v f e r j=>by obtain⟨b,rfl,i⟩:=vh r j;exact⟨b,rfl,i _ f (.refl f) rfl⟩⟩
def Ő(c:ñ)(f g:Û):Û:=λa=>à (c a) λk=>if k then f a else g a
def SX{c:s_}(g:FT a c Ξ)(j:FE a h z)(i:FE a v Ñ):FE a (.IfExp c h v k) (Ő Ξ z Ñ):=dI (DO g.h j.h i.h) λm H Q d E o=>⟨d,E,ą.bind o λb n e f=>by cases b with|true=>exact D7 ⟨d,E.mono e,f⟩|false=>exact D6 ⟨d,E.mono e,f⟩⟩
def dg:ê:=λ_=>Z (.ok [])
def aP(f:Û)(g:ê):ê:=λa=>à (f a) λx=>à (g a) λb=>(x::b)%3
abbrev al(f:Û):ê:=aP f dg
abbrev bP(f g:Û):ê:=aP f (al g)
abbrev cL(f g h:Û):ê:=aP f (bP g h)
abbrev sj(f g h k:Û):ê:=aP f (cL g h k)
abbrev sk(f g h k l:Û):ê:=aP f (sj g h k l)
abbrev z6(f g h k l m:Û):ê:=aP f (sk g h k l m)
abbrev X(i:Int):Û:=fC (.int i)
abbrev Ú(x:Str):Û:=fC (.str x)
variable{μ:ê}
def NG{t:TA}(h:PA a s t)(w:∀d H Q e,â a.K H d e->ô a H (μ e) Q->t d H Q):FA a s μ:=⟨λpos f b d H Q I⟨e,E,o⟩=>h pos f b d H Q I (w d H Q e E o)⟩
def z7:FA a [] dg:=NG sE λ_ H _ _ _ o=>o [] H (.refl H) rfl
def vi(n:FE a h z)(m:FA a s μ)(k:h%8:=by lk):FA a (h::s) (aP z μ):=NG (jp n.h m.h k) λq H Q b E o=>⟨b,E,õ.bindA o λd v w h r j=>⟨b,E.mono h,ô.bindA j λu f e p g i=>i _ e (.refl e) ⟨v,f,rfl,Ü.mono p d v r,g⟩⟩⟩
def jk(g:ê):Û:=λb=>à (g b) λa=>if a.length<=100000 then .lst a%3 else U
def ii(g:ê):Û:=λb=>à (g b) λa=>if a.length<=100000 then .tup a%3 else U
def bC(h:b<=100000):b<=sizeLine:=Xx h #v[]
def NH(h:FA a s μ):FE a (.List s k) (jk μ):=dI (wI h.h) λm H Q g E o=>⟨g,E,ô.bind o λn i q e d b=>by
 split at b;·rename_i j;refine⟨by rw[d.length];exact bC j,λp f=>b _ _ (aG f _) ⟨p,i,rfl,ao,S.mono (aG f _) _ _ d⟩⟩
 ·exact b.elim⟩
def NI{b}(h:FA a s μ):FE a (.Tuple s b k) (ii μ):=dI (zR h.h) λn H Q i E o=>⟨i,E,ô.bind o λq j r e f d=>by
 split at d;·rename_i m;refine⟨by rw[f.length];exact bC m,λp g=>d _ _ (aG g _) ⟨p,j,rfl,ao,S.mono (aG g _) _ _ f⟩⟩
 ·exact d.elim⟩
def Ja:Ĩ a [] (λb=>Z (.nx b)):=Hm u8 λD d H b E o=>o d H (.refl H) E
def aM(f g:á):á:=λa=>sq (f a) g
def D8{g:á}(j:FS a Γ Ψ)(i:Ĩ a Υ g):Ĩ a (Γ::Υ) (aM Ψ g):=Hm (gM j.h i.h) λD n H h E o=>⟨h,E,by unfold aM at o;match b:Ψ h with|none=>rw[b]at o;exact o.elim|some (.exc c)=>rw[b]at o;exact o|some (.rt d)=>rw[b]at o;exact o|some (.nx f)=>rw[b]at o;exactλm p e k=>⟨f,k,ÿ.mono e o⟩⟩
def z8(b:FS a Γ Ψ):Ĩ a [Γ] Ψ:=⟨qG b.h⟩
def aL(f:Û):á:=λa=>c9 (f a) λd=>Z (.rt d)
def Ho(g:FE a h z):FS a (.Return (Z h) k) (aL z):=vg (zC g.h) λD i H e E o=>⟨e,E,õ.bindS o λd v b h r f=>f v b (.refl b) r⟩
def eC(f:Û):á:=λa=>c9 (f a) λ_=>Z (.nx a)
def Jb(j:FE a h z)(i:Yb h U k.line a.env=pure h_:=by lk):FS a (.Expr h k) (eC z):=vg (u9 j.h i) λD e H f E o=>⟨f,E,õ.bindS o λd v b h r g=>g e b (.refl b) (E.mono h)⟩
def cO(i:Nat)(f:Û):á:=λa=>c9 (f a) λd=>Z (.nx (a.set i (Z d)))
def NJ(i:Nat){x:Str}{b:Pos}(s:a.N.Nodup)(n:a.N[i]?=Z x)(j:ŋ a.env.scope x)(q:FE a h z)(m:Yb h (Z (.Name x b)) k.line a.env=pure h_:=by lk)(p:a.fn x=L\/a.env.scope.names.lookup x=Z .local:=by first|exact .inl rfl|exact .inr rfl|assumption):FS a (.Assign [.Name x b] h k) (cO i z):=vg (pB s n j q.h m p) λD u H f E o=>⟨f,E,õ.bindS o λd v e h r g=>g _ e (.refl e) ((E.mono h).set r)⟩
def bg(c:ñ)(f g:á):á:=λa=>c9 (c a) λk=>if k then f a else g a
def SY{g:á}{i:Yd%0}(j:FT a h Ξ)(n:Ĩ a Υ Ψ)(m:Ĩ a i g):FS a (.If h Υ i k) (bg Ξ Ψ g):=vg (DP j.h n.h m.h) λD p H d E o=>⟨d,E,ą.bindS o λb q e f=>by cases b with|true=>exact D7 ⟨d,E.mono e,f⟩|false=>exact D6 ⟨d,E.mono e,f⟩⟩
def Its(z:Str):It:=⟨λi _=>i<z.cps.size,λi H x a=>a=H/\∃c,z.cps[i]?=Z c/\x=.str ⟨#[c]⟩,λi _=>i=z.cps.size⟩
def sQ(d:D.handled=U)(I:O)(x:Str)(t:Tok){a:String}(b:a="str_ascii_iterator"\/a="str_iterator"):Walks p n D I [I] [I] x.cps.size (SignAt x) (λi h=>h.IsStrIter I a x t i):=by
 rcases b with rfl|rfl;·exact Walks.strAscii d I x t
 ·exact Walks.strWide d I x t
def Ea(z:Str)(t:Tok)(f:O){y:String}(g:y="str_ascii_iterator"\/y="str_iterator"):DQ p n q h (Its z) [f] f (λi a=>a.IsStrIter f y z t i)where
 mem:=by simp
 obj:=λi a st b j=>by
  have e:b=f:=by simpa using j
  subst e;obtain⟨o,e,c,d⟩:=st;exact⟨o,e,λv z=>by lia⟩
 keep:=λi a h' st k=>let⟨o,ho,r⟩:=st;⟨o,k f ∅ o ho,r⟩;item:=by intro X hP P hK hc i f' s σ H E I w st hg;subst hP P hK;obtain⟨f0,f1,R,f3,f4,f5⟩:=w f ∅;refine(sQ (I.ok.hd hc) f z t g).item i s _ _ hg st λv h' tk hv m D=>?_;obtain⟨c,u,a',rfl⟩:=hv;obtain⟨o,e,c',d⟩:=id m;refine⟨_,rfl,yh e c' d (by rcases g with rfl|rfl<;>decide) ⟨.str _,H,(I.turned (λb o j e=>D b o (by simpa using j) e) f0 f1 f3 f4 f5),⟨u,rfl⟩,⟨rfl,c,a',rfl⟩,m,λb j=>(w b j).1⟩⟩
 done:=by intro X hP P hK hc i f' s σ H E I w st hg;subst hP P hK;obtain⟨f0,f1,R,f3,f4,f5⟩:=w f ∅;subst hg;exact(sQ (I.ok.hd hc) f z t g).done s _ _ st λh' tk D=>⟨rfl,I.turned (λb o j e=>D b o (by simpa using j) e) f0 f1 f3 f4 f5⟩
 self:=λA i s Q E st a=>by
  rcases g with rfl|rfl;·exact wpAny_pyIter_striter_ascii st a
  ·exact wpAny_pyIter_striter_wide st a
structure Wk(K:d_)(J:It)(ds:W%0)(H0:Hp):Prop where
 go:∀i H,Õ H0 H->i<ds.length->J.go i H
 stop:∀H,Õ H0 H->J.stop ds.length H
 yld:∀i H x H',Õ H0 H->i<ds.length->J.yld i H x H'->H'=H/\∃d,ds[i]?=Z d/\Ü K H d x
def ļ(X:C)(H:Hp)(o:Rs (W%0)%1)(R:It->Hp->Prop):Prop:=match o with|none=>False|some (.exc c)=>XW X c H|some (.ok b)=>∀J a,Õ H a->Wk X.K J b a->R J a
structure FI(X:C)(tg iter:s_)(f:ê):Prop where h:PI X tg iter λσ H R=>∃ρ,â X.K H σ ρ/\ļ X H (f ρ) R
def ļ.mono{R:It->Hp->Prop}(e:Õ g ξ):∀{o:Rs (W%0)%1},ļ a g o R->ļ a ξ o R|none,h=>h|some (.exc _),h=>XW.mono h e|some (.ok _),h=>λv d b r=>h v d (e.trans b) r
def ı(z:Str):W%0:=z.cps.toList.map λc=>.str ⟨#[c]⟩
def Ô:W->Rs (W%0)%1|.lst a=>a%3|.tup a=>a%3|.str z=>ı z%3|_=>U
def eQ(f:Û):ê:=λa=>à (f a) Ô
def Jc(h:g e=Z (.lst ζ))(r:S q g u ζ):Wk q (Itl q e) u g where
 go:=λi f a b=>by
  have j:i<ζ.length:=by rw[r.length];exact b
  exact⟨ζ,ζ[i],ā.of (a _ _ h),by simp[j]⟩
 stop:=λf a=>⟨ζ,ā.of (a _ _ h),by rw[r.length];exact o_ _⟩;yld:=λi f x o a b y=>by obtain⟨n,y⟩:=y;obtain⟨d,m,k⟩:=S.get (S.mono a _ _ r) (y ζ (ā.of (a _ _ h)));exact⟨n,d,m,k⟩
def NK(h:g e=Z (.tup ζ))(r:S q g u ζ):Wk q (Itt q e) u g where
 go:=λi f a b=>by
  have j:i<ζ.length:=by rw[r.length];exact b
  exact⟨ζ,ζ[i],û.of (a _ _ h),by simp[j]⟩
 stop:=λf a=>⟨ζ,û.of (a _ _ h),by rw[r.length];exact o_ _⟩;yld:=λi f x o a b y=>by obtain⟨n,y⟩:=y;obtain⟨d,m,k⟩:=S.get (S.mono a _ _ r) (y ζ (û.of (a _ _ h)));exact⟨n,d,m,k⟩
def NL:Wk q (Its d) (ı d) g where
 go:=λi f e b=>by show i<d.cps.size;simpa[ı]using b
 stop:=λf e=>by show(ı d).length=d.cps.size;simp[ı]
 yld:=λi f x k e b y=>by
  obtain⟨j,c,h,rfl⟩:=y;refine⟨j,.str _,?_,rfl⟩;have a:d.cps.toList[i]?=Z c:=by simpa using h
  rw[ı,P_,a]<;>rfl
def rng(a:Int):Nat->W%0|0=>[]|n+1=>.int a::rng (a+1) n
def jT:∀(n:Nat)(lo:Int),(rng lo n).length=n|0,_=>rfl|n+1,lo=>by show(rng _ n).length+1=n+1;rw[jT]
def z9:∀(n:Nat)(lo:Int)(i:Nat),i<n->(rng lo n)[i]?=Z (.int (lo+i))|0,_,_,h=>by lia|n+1,lo,0,_=>by simp[rng]|n+1,lo,i+1,h=>by show(W.int lo::rng _ n)[i+1]?=_;rw[acV,(z9 n _ i ())];lia
def wO:Wk q (Itr y b) (rng y b) g where
 go:=λi f e d=>by rw[jT]at d;exact d
 stop:=λf e=>by rw[jT];exact o_ _
 yld:=λi f x j e d a=>by obtain⟨h,rfl⟩:=a;rw[jT]at d;exact⟨h,_,z9 b y i d,rfl⟩
def NM(hl:FE a v z):FI a h v (eQ z):=by
 constructor;intro f' s σ H R I j;obtain⟨P,E,o⟩:=j;have key:õ a H (z P) λx k=>∃d,Ü a.K k d x/\ļ a k (Ô d) R:=by unfold eQ at o;match hf:z P,o with|some (.exc c),o=>exact o|some (.ok d),o=>exactλi k e r=>⟨d,r,ļ.mono e o⟩|none,o=>exact o
 refine í (hl.h f' s σ H _ I ⟨P,E,key⟩) λi u⟨x,k,A,Q,d,rd,q⟩=>?_;have n:∀(o:Obj)(D:Nat->O_->Prop)(J:It)(m:W%0),DQ a.prog a.w a.K h J _ u.heap.objs.size D->D 0 (u.heap.push o)->Wk a.K J m k->(∀J H',Õ k H'->Wk a.K J m H'->R J H')->PIE a f' σ h R _ _:=λo D J m T t0 w q=>by
  refine⟨u.heap.objs.size,[u.heap.objs.size],D,J,k,rfl,A.kept (t':=u.toks) λb o e=>l_ _ e,T,t0,λb hb=>?_,q J k (.refl k) w⟩;have e:b=u.heap.objs.size:=by simpa using hb
  subst e;exact A.fpOk (o_ _) (A.hok.fresh (o_ _))
 cases d with|lst m=>obtain⟨g,xs,rfl,y,h2⟩:=rd.lstE;cases Q;obtain⟨a',rv,p,hz⟩:=A.list (ā.of y);exact aan p.isList (n _ _ _ m (su g _) ⟨_,rl _ rfl,rfl,rfl⟩ (Jc y h2) q)|tup m=>obtain⟨g,xs,rfl,y,h2⟩:=rd.tupE;cases Q;obtain⟨a',rv,p,hz⟩:=A.tuple (û.of y);exact aaT ((p)) (n _ _ _ m (pC g _) ⟨_,rl _ rfl,rfl,rfl⟩ (NK y h2) q)|str f=>
  cases((rd));obtain⟨t,rfl⟩:=Q;have b':aeT f="str_ascii_iterator"\/aeT f="str_iterator":=by
   unfold aeT;split;·exact .inl rfl
   ·exact .inr rfl
  exact wpAny_pyIter_strU (n _ _ _ _ (Ea f t _ b') ⟨_,rl _ rfl,rfl,rfl⟩ NL q)|_=>exact q.elim
def wP:W%0->Rs (W%0)%1|[.int j]=>if-(2^62)<=j/\j<2^62 then rng 0 j.toNat%3 else U|_=>U
def Eb:W%0->Rs (W%0)%1|[.int i,.int j]=>if-(2^62)<=i/\i<2^62/\-(2^62)<=j/\j<2^62 then rng i (j-i).toNat%3 else U|_=>U
def pH{R:It->Hp->Prop}{o:Rs (W%0)%1}{k:W%0->Rs (W%0)%1}{P:V%0->Hp->Prop}(h:ļ a g (à o k) R)(j:∀i f b,Õ g b->S a.K b i f->ļ a b (k i) R->P f b):ô a g o P:=by match o,h with|some (.exc _),h=>exact h|some (.ok d),h=>exactλv m e r=>j d v m e r (ļ.mono e h)
def Aa(A:Gl a "range")(z:a.mg "range"=U)(D:FA a [v] μ)(y:k_ [v] a.env=[(h_,eval v a.env)]:=by lk):FI a h (.Call (.Name "range" w) [v] [] k) (λi=>à (μ i) wP):=by
 constructor;intro P s p H R I d;obtain⟨i,E,o⟩:=d;refine sw A z D.h y P s p H R I ⟨i,E,pH o λQ q g e u f=>?_⟩;unfold wP at f;split at f
 · rename_i j;split at f;·rename_i n;obtain⟨b,m,rfl,r,t⟩:∃b m,q=b::m/\Ü a.K g _ b/\S a.K g [] m:=u;cases((t));cases((r));exact⟨j,rfl,n.1,n.2,f _ g (.refl g) wO⟩
   ·exact f.elim
 ·exact f.elim
def Ab{b:s_}(hg:Gl a "range")(hm:a.mg "range"=U)(ha:FA a [v,b] μ)(Q:k_ [v,b] a.env=[(h_,eval v a.env),(h_,eval b a.env)]:=by lk)(u:k_ [b] a.env=[(h_,eval b a.env)]:=by lk):FI a h (.Call (.Name "range" w) [v,b] [] k) (λq=>à (μ q) Eb):=by
 constructor;intro f' s y H R I f;obtain⟨q,E,o⟩:=f;refine zE hg hm ha.h Q u f' s y H R I ⟨q,E,pH o λds z m e D g=>?_⟩;unfold Eb at g;split at g
 · rename_i i j;split at g;·rename_i hj;obtain⟨d,p,rfl,r,t⟩:∃d p,z=d::p/\Ü a.K m _ d/\S a.K m _ p:=D;obtain⟨v2,a',rfl,P,A⟩:∃d n,p=d::n/\Ü a.K m _ d/\S a.K m [] n:=t;cases((A));cases((r));cases((P));exact⟨i,j,rfl,hj,g _ m (.refl m) wO⟩
   ·exact g.elim
 ·exact g.elim
def Ac(i:Nat)(e:Nat%0)(a:á):W%0->Ev->Fl%1|[],b=>Z (.nx (fgt e b))|d::g,b=>match a ((fgt e b).set i (Z d))with|some (.nx f)=>Ac i e a g f|o=>o
def NN(i:Nat)(e:Nat%0)(b:ê)(a:á):á:=λd=>c9 (b d) λf=>Ac i e a f d
def gf{a:Q%0}(h:a[b]?=Z Ò):a.drop b=Ò::a.drop (b+1):=by obtain⟨d,e⟩:=u_.mp h;rw[List.drop_eq_getElem_cons d,e]
def NO(i:Nat)(z:Nat%0)(hp:aaG (B_ a.prog a.w) a.A a.env a.xe)(hc:a.calm=L)(hi:FI a h v μ)(hg:PG a h (qH i))(hb:Ĩ a Υ Ψ)(hs:∀x,V_ v a.env x=pure x:=by intro _;lk):FS a (.For h v Υ [] k) (NN i z μ Ψ):=by refine vg (sx hp hc hi.h hg hb.h hs) λD σ H A E o=>⟨A,E,?_⟩;unfold NN at o;match hf:μ A,o with
 |none,o=>exact o|some (.exc c),o=>exact o|some (.ok j),o=>
 intro J Q e1 wk;have o1:ÿ a Q (Ac i z Ψ j A) D:=ÿ.mono e1 o;refine⟨λn m q f=>m=j.length-n/\n<=j.length/\Õ Q f/\∃s,â a.K f q s/\ÿ a f (Ac i z Ψ (j.drop n) s) D,⟨j.length,by simp,XG _,.refl Q,A,E.mono e1,by simpa using o1⟩,?_⟩;rintro n m q f⟨rfl,hn,P,s,E',b⟩;by_cases u:n<j.length;·refine .inr ⟨wk.go n f P u,λp w=>Õ Q w/\∃e,â a.K w p e/\ÿ a w _ D,λp w⟨I,e,E2,o2⟩=>⟨_,by lia,rfl,u,I,e,E2,o2⟩,λx w y=>?_⟩;obtain⟨rfl,d,hd,rd⟩:=wk.yld n f x w P u y;rw[gf hd]at b;refine⟨_,(â.fgt z E').set rd,?_⟩;unfold Ac at b;match g:Ψ _ with|none=>rw[g]at b;exact b|some (.exc c)=>rw[g]at b;exact b|some (.rt r)=>rw[g]at b;exact b|some (.nx e)=>rw[g]at b;exactλp H3 I E3=>⟨P.trans I,e,E3,ÿ.mono I b⟩
 · have a':n=j.length:=by lia
   subst a';rw[Zv]at b;exact .inl ⟨wk.stop f P,b q f (.refl f) (â.fgt z E')⟩
def ş(K:d_)(F:Þ)(n:Nat):Sp:=λe H Q _=>∃a,S K H a e/\a.length=n/\match F a with|some (.ok d)=>∀v b,Õ H b->Ü K b d v->Q v b|_=>False
def ae(F:Þ)(n:Nat)(g:ê):Û:=λb=>à (g b) λa=>if a.length=n then(match F a with|some (.ok d)=>d%3|_=>U)else U
def Je(G:ö a.prog a.w a.K a.mg a.base Ĳ b e Ç E (ş a.K Â o))(v:ã b a.A)(D:Gl a d)(y:a.mg d=Z (.ref e))(A:Yv a.K (.ref e)=L)(P:ø a.K Ç E [])(ha:FA a (h::s) μ)(p:(d==("__debug__":Str))=h_:=by lk)(I:h%8:=by lk)(n:(Xv w (k_ s a.env)).any (·.1)=h_:=by lk):FE a (.Call (.Name d k) (h::s) [] w) (ae Â o μ):=dI (nF G v D y A P .nil Nr ha.h p I n) λσ H Q r g f=>⟨r,g,ô.bind f λq vs H' h u j=>by
 rw[Y1];split at j
 ·rename_i z;refine⟨q,u,z,?_⟩;match m:Â q with|some (.ok i)=>rw[m]at j;exact j|some (.exc c)=>rw[m]at j;exact j|none=>rw[m]at j;exact j
 ·exact j.elim⟩
def Has(P:m_)(w:v_)(K:d_)(d:Str->B%1)(a:O_)(x:Str)(k:Nat)(b:Str%0)(F:Þ):Prop:=∃f e,ö P w K d a Ĳ k f e b (ş K F b.length)/\d x=Z (.ref f)/\Yv K (.ref f)=L/\ø K e b []
def Ec(e:Nat)(n:Str%0)(F:Þ)(g:Has a.prog a.w a.K a.mg a.base d e n F)(p:ã o a.A)(u:e<=o)(v:Gl a d)(A:FA a (h::s) μ)(q:b=n.length:=by lk)(m:(d==("__debug__":Str))=h_:=by lk)(y:h%8:=by lk)(i:(Xv w (k_ s a.env)).any (·.1)=h_:=by lk):FE a (.Call (.Name d k) (h::s) [] w) (ae F b μ):=by subst q;obtain⟨f,D,G,r,j,z⟩:=g;exact Je (G.mono u) p v r j z A m y i
def bL(m:Nat)(b:á):Þ:=λa=>match b (a.map Z++XF (m-a.length) U)with|some (.nx _)=>.non%3|some (.rt d)=>d%3|_=>U
def pI(r:S q g u ζ):â q g (L2.start E ζ) (u.map Z++XF (E.length-u.length) U):=by
 have f:=r.length;refine⟨by unfold L2.start;rw[X2,X2,T_,T_,YX,YX,f],λi d h=>?_⟩;by_cases b:i<u.length;·rw[w_ (by simpa using b),P_]at h;cases e:u[i]? with|none=>rw[e]at h;cases h|some m=>rw[e]at h;have a:=h;injection a with a;injection a with a;subst a;obtain⟨v,k,j⟩:=r.get' e;refine⟨v,?_,j⟩;unfold L2.start;rw[w_ (by rw[T_,f];exact b),P_,k]<;>rfl
 ·rw[G_ (by simpa using b),Z7]at h;split at h<;>cases h
def SZ{N:Str%0}(P:Ń q d r Γ e Ç)(S:iL N E (au Γ))(y:∀(m:B)(A:x_)(k:Env%0)(s:ge)(H:Hp)(f:XK),ã b (A.deeper (ĸ r (au Γ) s.heap.objs.size e m))->Ĩ (qK Ĳ p n q Ζ I N r (au Γ) e m A k s H f).nox (bS Γ) Ψ):ö p n q Ζ I Ĳ (b+1) e Ç E (ş q (bL N.length Ψ) E.length):=by
 refine P.ok S (λv H Q f h=>?_) (λm A k s H v Q f w h=>?_);·obtain⟨z,g,u,_⟩:=h;rw[g.length,u]
 ·obtain⟨z,g,u,a⟩:=h;refine⟨_,(y m A k s H f w).h,_,pI g,?_⟩;unfold bL at a;match o:Ψ _ with|none=>rw[o]at a;exact a.elim|some (.exc c)=>rw[o]at a;exact a.elim|some (.rt j)=>rw[o]at a;exact a|some (.nx ρ)=>rw[o]at a;exactλa' D i _=>a _ D i rfl
def NQ(N g:Str%0)(h:á)(k:Â=bL N.length h)(i:o=g.length)(m:Ń q d r Γ e Ç)(S:iL N g (au Γ))(j:∀(f:B)(A:x_)(a:Env%0)(s:ge)(H:Hp)(E:XK),ã b (A.deeper (ĸ r (au Γ) s.heap.objs.size e f))->Ĩ (qK Ĳ p n q Ζ I N r (au Γ) e f A a s H E).nox (bS Γ) h):ö p n q Ζ I Ĳ (b+1) e Ç g (ş q Â o):=by subst k i;exact SZ m S j
def mI(b:(Str×Z1)%0)(d:Env)(a:(Str×O)%0):(Str×O)%0:=match b with|[]=>a|(n,k)::r=>mI r d (if k==.free then(n,(d.cells.lookup n).getD 0)::a else a)
def pJ{d:Env}{n:Str}{c:O}:∀(a:(Str×Z1)%0)(b:(Str×O)%0),(mI a d b).lookup n=Z c->b.lookup n=Z c\/((n,Y6)∈a/\c=(d.cells.lookup n).getD 0)
 |[],b,h=>.inl h|(m,k)::r,b,h=>by
  rcases pJ r _ h with q|⟨j,i⟩
  · by_cases g:k=.free;·subst g;simp![beq_self_eq_true,if_true]at q;rw[XV]at q;cases f:n==m with
      |true=>
      rw[f]at q;have e:n=m:=by simpa using f
      subst e;exact .inr ⟨on,(X3 q).symm⟩|false=>rw[f]at q;exact .inl q
    · have o:(k==Y6)=h_:=by simpa using g
      rw[o]at q;exact .inl (by simpa using q)
  ·exact .inr ⟨pi _ j,i⟩
def sR{d:Env}{n:Str}:∀(b:(Str×Z1)%0)(a:(Str×O)%0),(a.lookup n).isSome=L->((mI b d a).lookup n).isSome=L
 |[],a,h=>h|(m,k)::r,a,h=>by
  refine sR r _ ?_;split;·rw[XV];cases n==m with|true=>rfl|false=>exact h
  ·exact h
def qN{d:Env}{n:Str}:∀(a:(Str×Z1)%0)(b:(Str×O)%0),(n,Y6)∈a->((mI a d b).lookup n).isSome=L
 |[],b,h=>by cases h|(m,k)::r,b,h=>by
  rcases p_.mp h with e|q;·injection e with g f;subst g;subst f;refine sR r _ ?_;simp![beq_self_eq_true,if_true,XV];rfl
  ·exact qN r _ q
def ij{b:Type}{n:Str}{k:b}:∀{l:(Str×b)%0},l.lookup n=Z k->(n,k)∈l|[],h=>by simp at h|(m,j)::r,h=>by rw[XV]at h;cases a:n==m with
 |true=>
 rw[a]at h;have e:n=m:=by simpa using a
 subst e;have d:=X3 h;subst d;exact on|false=>rw[a]at h;exact pi _ (ij h)
def mD{f:Env}{k:Z1}(h:(relabel ι f).names.lookup d=Z k):(d,k)∈ι.names\/(k=.cell/\(d,Y6)∈ι.names):=by
 have q:=ij h;obtain⟨⟨m,j⟩,g,e⟩:=L_.mp q;dsimp only at e;split at e
 · rename_i i;injection e with b a;subst b;have n:j=.free:=by rw[n_,n_]at i;simpa using i.1.1
   subst n;exact .inr ⟨a.symm,g⟩
 ·injection e with b a;subst b;subst a;exact .inl g
def mE{a:Env}:∀{b:(Str×Z1)%0}{n:Str},b.lookup n=Z .free->(b.map λ(n,k)=>if(k==Y6&&a.scope.kind==.function&&a.kindOf n==Z .cell)then(n,ZT)else(n,k)).lookup n=Z .cell\/(b.map λ(n,k)=>if(k==Y6&&a.scope.kind==.function&&a.kindOf n==Z .cell)then(n,ZT)else(n,k)).lookup n=Z .free
 |[],_,h=>by simp at h|(m,k)::r,n,h=>by have f:=@mE a r n;rw[XV]at h;rw[F_];cases d:n==m with
 |true=>
 rw[d]at h;have g:=X3 h;subst g;by_cases e:(Y6==Y6&&a.scope.kind==.function&&a.kindOf m==Z .cell)=L;·dsimp!;rw[if_pos e,XV,d];exact .inl rfl
 ·dsimp!;rw[if_neg e,XV,d];exact .inr rfl    |false=>
 rw[d]at h;dsimp!;by_cases e:(k==Y6&&a.scope.kind==.function&&a.kindOf m==Z .cell)=L;·rw[if_pos e,XV,d];exact f h
 ·rw[if_neg e,XV,d];exact f h
def Hq(b:(Str×Nat)%0)(a:Ev):Ev:=U::b.map λc=>(a[c.2]?).join
def Ad(a:ñ%1)(b:Û)(e:Ev):W%0->(W%0)%1|[]=>Z []|d::g=>let f:=e.set 0 (Z d);match(match a with|none=>(L%3:Rs Bool%1)|some t=>t f)with|some (.ok L)=>(match b f with|some (.ok y)=>(match Ad a b e g with|some h=>Z (y::h)|none=>U)|_=>U)|some (.ok h_)=>Ad a b e g|_=>U
def cu(h:(Str×Nat)%0)(b:ê)(a:ñ%1)(d:Û):Û:=λe=>à (b e) λg=>match Ad a d (Hq h e) g with|some f=>if f.length<=100000/\g.length<=100000 then .lst f%3 else U|none=>U
def LAt(h:O_)(D:O)(a:B%0):Prop:=∃n,h.get? D=Z {cls:=.type "list",data:=.seq a.toArray n}
def yu(h:LAt f.heap e P)(i:P.length<=100000)(m:∀g,LAt g e (P++[ω])->(∀b o,b≠e->f.heap.get? b=Z o->g.get? b=Z o)->Å .none {f with heap:=g}):xy (B_ p n) D (call (.builtin "list.append") [.ref e,ω]) Å ν f:=by
 obtain⟨d,a⟩:=h;refine aau aam ⟨_,a,rfl⟩ adZ (adE _ _) (aen e P.toArray d ω (by exact bC i)) ⟨a,?_⟩;have q:=aeM a (·.push ω);have r:P.toArray.push ω=(P++[ω]).toArray:=by simp
 rw[r]at q;exact m _ ⟨_,q⟩ λb o k j=>(Zr f.heap _ (YH k)).trans j
def uX(X:C)(a:s_%0)(b:ñ%1):Prop:=match b with|none=>a=[]|some t=>∃c,a=[c]/\FT X c t
def č.add{f:O_}(x:č p n g I)(j:g e=U)(m:g A=U)(k:∀b u,b≠A->I.get? b=Z u->f.get? b=Z u)(h:ð p n (å g e Î) f e Î):č p n (å g e Î) f:=λb u a=>by
 by_cases i:b=e;·subst i;rw[ao]at a;cases a;exact h
 · rw[aq i]at a;refine(x b u a).stay (λc v d q=>k c v ?_ q) (λc q=>by rw[aq (aA q j)];exact q) λc o q=>by rw[aq (aA q j)];exact q
   rcases d with rfl|d;·exact aA a m
   ·exact aA d m
def Jf(h:b<o):b≠o:=by lia
def NR(h:b<o):b≠o+1:=by lia
def VS:b≠b+1:=by lia
def eD:W->W->Rs W%1|.int i,.int j=>.int (i+j)%3|.str x,.str y=>if x.length+y.length<=100000 then .str (x++y)%3 else U|.lst a,.lst b=>if a.length+b.length<=100000 then .lst (a++b)%3 else U|_,_=>U
def Jg:R2:=λx y H Q=>ŧ (λi j=>.int (i+j)) x y H Q\/((∃i j,x=.str i/\y=.str j/\i.length+j.length<=sizeLine/\Q (.str (i++j)) H)\/VP x y H Q)
def o_add:ă a (ZL .Add) Jg:=op_add.or (op_add_str.or Hk)
def NS:Ĝ a Jg eD:=by
 intro s r x y H Q e d o;cases s<;>cases r<;>try exact((o)).elim
 ·rename_i i j;exact .inl ⟨i,j,e,d,o _ H (.refl H) rfl⟩
 · rename_i i j;simp![eD]at o;split at o;·rename_i b;exact .inr (.inl ⟨i,j,e,d,bC b,o _ H (.refl H) rfl⟩)
   ·exact o.elim
 · simp![eD]at o;split at o;·rename_i b;obtain⟨p,k,rfl,q,h⟩:=e.lstE;obtain⟨m,f,rfl,n,g⟩:=d.lstE;refine .inr (.inr ⟨p,m,k,f,rfl,rfl,q,n,by rw[h.length,g.length];exact bC b,λl b=>o _ _ (aG b _) ⟨l,_,rfl,ao,S.mono (aG b _) _ _ (h.append g)⟩⟩)
   ·exact o.elim
def DC:W->W->Rs W%1|.int i,.int j=>.int (i-j)%3|_,_=>U
def S5:Ĝ a (ŧ λi j=>.int (i-j)) DC:=by
 intro f e x y H Q d b o;cases f<;>cases e<;>try exact((o)).elim
 rename_i i j;exact⟨i,j,d,b,o _ H (.refl H) rfl⟩
def lI:W->W->Rs W%1|.int i,.int j=>if(-18446744073709551616<i/\i<18446744073709551616)\/(-18446744073709551616<j/\j<18446744073709551616)then .int (i*j)%3 else U|_,_=>U
def S6:Ĝ a (rI V' λi j=>.int (i*j)) lI:=by
 intro f e x y H Q d b o;cases f<;>cases e<;>try exact((o)).elim
 rename_i i j;simp![lI]at o;split at o;·rename_i h;exact⟨i,j,d,b,h,o _ H (.refl H) rfl⟩
 ·exact o.elim
def lJ:W->W->Rs W%1|.int i,.int j=>if 0<j then .int (i%j)%3 else U|_,_=>U
def S7:Ĝ a (rI (λ_ j=>0<j) λi j=>.int (i%j)) lJ:=by
 intro f e x y H Q d b o;cases f<;>cases e<;>try exact((o)).elim
 rename_i i j;simp![lJ]at o;split at o;·rename_i h;exact⟨i,j,d,b,h,o _ H (.refl H) rfl⟩
 ·exact o.elim
def lK:W->W->Rs W%1|.int i,.int j=>if 0<j/\j<1073741824 then .int (i/j)%3 else U|_,_=>U
def NT:Ĝ a (rI VH λi j=>.int (i/j)) lK:=by
 intro f e x y H Q d b o;cases f<;>cases e<;>try exact((o)).elim
 rename_i i j;simp![lK]at o;split at o;·rename_i h;exact⟨i,j,d,b,h,o _ H (.refl H) rfl⟩
 ·exact o.elim
def MM:W->Rs W%1|.int i=>.int (-i)%3|_=>U
def f1(g:W->Rs W%1)(b:Û):Û:=λa=>à (b a) g
def NU(j:FE a h z):FE a (.UnaryOp .USub h k) (f1 MM z):=dI (SF Ng j.h) λm H Q g E o=>⟨g,E,õ.bind o λd v f e r b=>by
 cases d<;>try exact((b)).elim
 rename_i i;exact⟨i,r,b _ f (.refl f) rfl⟩⟩
def seq(x y:Str):Bool:=x.cps.toList==y.cps.toList
def Ae(x y:Str):(x==y)=seq x y:=by rw[Yt];unfold seq;obtain⟨⟨a⟩⟩:=x;obtain⟨⟨b⟩⟩:=y;simp
def Ÿ:W->W->Bool%1|.non,.non=>Z L|.non,.int _=>Z h_|.int _,.non=>Z h_|.non,.bl _=>Z h_|.bl _,.non=>Z h_|.non,.str _=>Z h_|.str _,.non=>Z h_|.int i,.int j=>Z (i==j)|.bl i,.bl j=>Z (i==j)|.str i,.str j=>Z (seq i j)|.int _,.str _=>Z h_|.str _,.int _=>Z h_|.bl _,.str _=>Z h_|.str _,.bl _=>Z h_|_,_=>U
variable{π:W}
def Hr{y:V}(b:Ü q g m υ)(a:Ü q g π y)(h:Ÿ m π=Z H):SH υ y=L/\A_ (υ=y)=H:=by cases m<;>cases π<;>(try cases h)<;>(try(cases b;cases a;exact⟨rfl,by first|rfl|exact vb|exact zF|(rw[ve,Ae])|simp⟩))
def S8(p:Int->Int->Bool):W->W->Rs W%1|.int i,.int j=>.bl (p i j)%3|_,_=>U
def NV(p:Int->Int->Bool):Ĝ a (ŧ λi j=>.bl (p i j)) (S8 p):=by
 intro f e x y H Q d b o;cases f<;>cases e<;>try exact((o)).elim
 rename_i i j;exact⟨i,j,d,b,o _ H (.refl H) rfl⟩
abbrev ŝ:=S8 λi j=>A_ (j<i)
def Ė:W->W->Rs W%1|x,.non=>(.bl (match x with|.non=>L|_=>h_))%3|_,_=>U
def sS:W->W->Rs W%1|x,.non=>(.bl (match x with|.non=>h_|_=>L))%3|_,_=>U
def Ag(r:Ü q g m υ):A_ (υ=.non)=(match m with|.non=>L|_=>h_):=by cases m with|non=>cases(show υ=.non from r);rfl|bl b=>cases(show υ=.bl b from r);rfl|int b=>cases(show υ=.int b from r);rfl|str b=>cases(show υ=.str b from r);rfl|tup d=>obtain⟨a,e,rfl,_⟩:=r.tupE;rfl|lst d=>obtain⟨a,e,rfl,_⟩:=r.lstE;rfl|scr d=>obtain⟨a,rfl,_⟩:=r.scrE;rfl|exn c=>obtain⟨a,_,_,_,rfl,_⟩:=r.exnE;rfl|obj k d=>obtain⟨a,_,_,_,rfl,_⟩:=r.objE;rfl
def NW:Ĝ a (λx y H Q=>y=.non/\Q (.bl (A_ (x=.non))) H) Ė:=by
 intro f e x y H Q d b o;cases e<;>try exact((o)).elim
 refine⟨b,?_⟩;cases f<;>(rw[(Ag d)];exact(o _ H (.refl H) rfl))
def Hs:Ĝ a (λx y H Q=>y=.non/\Q (.bl (!A_ (x=.non))) H) sS:=by
 intro f e x y H Q d b o;cases e<;>try exact((o)).elim
 refine⟨b,?_⟩;cases f<;>(rw[(Ag d)];exact(o _ H (.refl H) rfl))
def inS(x y:Str):Bool:=!(X0 y x 0 y.length 1).isEmpty
def ik:W->Bool|.non=>L|.bl _=>L|.int _=>L|.str _=>L|_=>h_
def eqF:W->W->Bool|.non,.non=>L|.bl a,.bl b=>a==b|.bl a,.int b=>(if a then 1 else 0)==b|.int a,.bl b=>a==(if b then 1 else 0)|.int a,.int b=>a==b|.str a,.str b=>seq a b|_,_=>h_
def F'(x:W)(a:W%0):Bool%1:=if ik x&&a.all ik then Z (a.any λy=>eqF y x)else U
def Jh:W->W->Bool%1|.str x,.str y=>Z (inS x y)|x,.lst a=>F' x a|x,.tup a=>F' x a|_,_=>U
def ł(x y:W):Rs W%1:=match Jh x y with|some b=>.bl b%3|none=>U
def sU(x y:W):Rs W%1:=match Jh x y with|some b=>.bl (!b)%3|none=>U
def qO(r:Ü q g m υ)(h:ik m=L):jj υ=L:=by cases m<;>first|(cases h;done)|(cases r;rfl)
def mQ{K:d_}{H:Hp}:∀{b:W%0}{a:V%0},S K H b a->b.all ik=L->a.all jj=L|[],a,r,_=>by cases((r));rfl|d::b,a,r,h=>by obtain⟨v,e,rfl,g,f⟩:∃v e,a=v::e/\Ü K H d v/\S K H b e:=r;rw[Y0,n_]at h;rw[Y0,n_];exact⟨qO g h.1,mQ f h.2⟩
def Ah{u:V}(r:Ü q g m υ)(a:Ü q g π u)(h:ik m=L)(b:ik π=L):ŀ υ u=eqF m π:=by cases m<;>first|(cases h;done)|(cases r;cases π<;>first|(cases b;done)|(cases a;first|rfl|exact Ae _ _))
def Ht{K:d_}{H:Hp}{e:W}{u:V}(q:Ü K H e u)(g:ik e=L):∀{b:W%0}{a:V%0},S K H b a->b.all ik=L->(a.any λy=>ŀ y u)=b.any λy=>eqF y e|[],a,r,_=>by cases((r));rfl|d::b,a,r,h=>by obtain⟨v,f,rfl,j,i⟩:∃v f,a=v::f/\Ü K H d v/\S K H b f:=r;rw[Y0,n_]at h;rw[Ze,Ze,Ah j q h.1 g,Ht q g i h.2]
def wQ(d:Ü q g m υ)(b:S q g u ζ)(h:F' m u=Z H):jj υ=L/\ζ.all jj=L/\inV υ ζ=H:=by
 unfold F' at h;split at h;·rename_i a;rw[n_]at a;cases h;exact⟨qO d a.1,mQ b a.2,Ht d a.1 b a.2⟩
 ·cases h
def S9(K:d_):R2:=λx y H Q=>(∃i j,x=.str i/\y=.str j/\Q (.bl (!(X0 j i 0 j.length 1).isEmpty)) H)\/rIn K h_ x y H Q
def vj(K:d_):R2:=λx y H Q=>(∃i j,x=.str i/\y=.str j/\Q (.bl (!(!(X0 j i 0 j.length 1).isEmpty))) H)\/rIn K L x y H Q
def Ż:ă a (XZ .In) (S9 a.K):=op_in_str.or zY
def Ş:ă a (XZ .NotIn) (vj a.K):=op_notIn_str.or sN
def NX:Ĝ a (S9 a.K) ł:=by
 intro f s x y H Q k j o;unfold ł at o;split at o
 · rename_i b g;have q:=o _ H (.refl H) rfl;cases s<;>try(cases f<;>cases g;done)
   · rename_i z;cases f<;>try(cases g;done)
     rename_i r;cases g;exact .inl ⟨r,z,k,j,q⟩
   · rename_i h;have e:F' f h=Z b:=by cases f<;>exact g
     obtain⟨d,i,rfl,n,m⟩:=j.tupE;obtain⟨f1,R,p⟩:=wQ k m e;exact .inr ⟨d,i,rfl,.inr (û.of n),f1,R,by rw[if_neg H_,p];exact q⟩
   · rename_i h;have e:F' f h=Z b:=by cases f<;>exact g
     obtain⟨d,i,rfl,n,m⟩:=j.lstE;obtain⟨f1,R,p⟩:=wQ k m e;exact .inr ⟨d,i,rfl,.inl (ā.of n),f1,R,by rw[if_neg H_,p];exact q⟩
 ·exact o.elim
def Ai:Ĝ a (vj a.K) sU:=by
 intro f s x y H Q k j o;unfold sU at o;split at o
 · rename_i b g;have q:=o _ H (.refl H) rfl;cases s<;>try(cases f<;>cases g;done)
   · rename_i z;cases f<;>try(cases g;done)
     rename_i r;cases g;exact .inl ⟨r,z,k,j,q⟩
   · rename_i h;have e:F' f h=Z b:=by cases f<;>exact g
     obtain⟨d,i,rfl,n,m⟩:=j.tupE;obtain⟨f1,R,p⟩:=wQ k m e;exact .inr ⟨d,i,rfl,.inr (û.of n),f1,R,by rw[if_pos rfl,p];exact q⟩
   · rename_i h;have e:F' f h=Z b:=by cases f<;>exact g
     obtain⟨d,i,rfl,n,m⟩:=j.lstE;obtain⟨f1,R,p⟩:=wQ k m e;exact .inr ⟨d,i,rfl,.inl (ā.of n),f1,R,by rw[if_pos rfl,p];exact q⟩
 ·exact o.elim
def Č(a:Q%0)(i:Int):Q%1:=if 0<=i then a[i.toNat]? else if-(a.length:Int)<=i then a[(i+a.length).toNat]? else U
def qP{a:Q%0}(h:Č a y=Z Ò):atI a y=Z Ò:=by
 unfold Č at h;unfold atI ixN;split at h
 · rename_i b;have e:y.toNat<a.length:=by obtain⟨q,_⟩:=u_.mp h;exact q
   rw[if_pos b,if_pos ()];exact h
 · rename_i b;split at h;·rename_i d;rw[if_neg b,if_pos d];exact h
   ·cases h
def Ø:W->W->Rs W%1|.lst a,.int i=>(match Č a i with|some d=>d%3|none=>U)|.tup a,.int i=>(match Č a i with|some d=>d%3|none=>U)|.str z,.int i=>if z.length<=100000 then(match Č z.cps.toList i with|some c=>.str ⟨#[c]⟩%3|none=>U)else U|.scr b,.int i=>(match Č b i with|some d=>.int d%3|none=>U)|_,_=>U
def vm{f:Type}{b:Q%0}{a:f%0}(h:a.length=b.length){i:Int}{x:Q}(e:Č b i=Z x):∃j:Nat,b[j]?=Z x/\∀y,a[j]?=Z y->Č a i=Z y:=by
 unfold Č at e;split at e;·rename_i d;exact⟨_,e,λy q=>by unfold Č;rw[if_pos d];exact q⟩
 · rename_i d;split at e;·rename_i g;exact⟨_,e,λy q=>by unfold Č;rw[if_neg d,h,if_pos g];exact q⟩
   ·cases e
def WO:Ĝ a (rIx a.K) Ø:=by
 intro D A x y H Q n m o;cases D<;>cases A<;>try exact((o)).elim
 · rename_i z i;simp![Ø]at o;split at o
   · rename_i u;split at o;·rename_i c w;exact .inr (.inr ⟨z,i,c,n,m,bC u,qP w,o _ H (.refl H) rfl⟩)
     ·exact o.elim
   ·exact o.elim
 · rename_i E i;simp![Ø]at o;split at o;·rename_i d e;obtain⟨b,p,rfl,g,f⟩:=n.tupE;obtain⟨j,k,h⟩:=vm f.length e;obtain⟨v,r,q⟩:=f.get' k;exact .inr (.inl ⟨b,p,i,v,rfl,m,û.of g,qP (h v r),o v H (.refl H) q⟩)
   ·exact o.elim
 · rename_i E i;simp![Ø]at o;split at o;·rename_i d e;obtain⟨b,p,rfl,g,f⟩:=n.lstE;obtain⟨j,k,h⟩:=vm f.length e;obtain⟨v,r,q⟩:=f.get' k;exact .inl ⟨b,p,i,v,rfl,m,ā.of g,qP (h v r),o v H (.refl H) q⟩
   ·exact o.elim
 · rename_i s i;simp![Ø]at o;split at o;·rename_i d e;obtain⟨b,rfl,g⟩:=n.scrE;obtain⟨j,k,h⟩:=vm (a:=s.map V.int) ∅ e;exact .inl ⟨b,_,i,_,rfl,m,g,qP (h _ (by rw[P_,k]<;>rfl)),o _ H (.refl H) rfl⟩
   ·exact o.elim
def Ta(e:FE a h z)(d:FE a v Ñ)(b:zW v:=by intro _ _;lk):FE a (.Subscript h v k) (R Ø z Ñ):=dI (SN Nn e.h d.h b) λ_ _ _ _ E o=>two WO E o
abbrev FnO:=Ev->Rs (Int%1)%1
def VT(X:C)(H:Hp)(o:Rs (Int%1)%1)(Q:Int%1->Hp->Prop):Prop:=match o with|none=>False|some (.exc c)=>XW X c H|some (.ok d)=>∀a,Õ H a->Q d a
structure FO(X:C)(e:s_%1)(f:FnO):Prop where h:PO X e λσ H Q=>∃ρ,â X.K H σ ρ/\VT X H (f ρ) Q
def kg:FnO:=λ_=>U%3
def toI:W->Rs (Int%1)%1|.int i=>Z i%3|_=>U
def il(f:Û):FnO:=λa=>à (f a) toI
def Ji:FO a U kg:=⟨λd s b H Q I⟨_,_,o⟩=>IU d s b H Q I (o H (.refl H))⟩
def Jk(b:FE a h z):FO a (Z h) (il z):=⟨λg s f H Q I⟨e,E,o⟩=>IV b.h g s f H Q I ⟨e,E,by unfold il at o;match k:z e,o with
 |none,o=>exact o|some (.exc c),o=>exact o|some (.ok d),o=>
 intro v j h r;cases d<;>try exact((o)).elim
 rename_i i;exact⟨i,r,o j h⟩⟩⟩
def Jl(a:Q%0)(b d:Int%1):Q%0:=(a.drop (HT.sIx a.length 0 b)).take (HT.sIx a.length a.length d-HT.sIx a.length 0 b)
def WP:V->Int%1->Int%1->Hp->VK->Prop:=λx lo a H Q=>∃z,x=.str z/\z.length<=sizeLine/\Q (.str (Txt.slice z lo a)) H
def Ž:SlR a WP:=by intro o s m H x v r p lo y w Q I n e pl h q;obtain⟨z,rfl,d,q⟩:=q;obtain⟨t,rfl⟩:=n;refine⟨_,_,F.slot_str_getitem.lookup,aaU _ _ _,?_⟩;have b:∀(g:Tok)(k:Nat),EP a o m Q (.str _ g) {s with toks:=k}:=λg k=>⟨.str _,H,I.tok _,⟨_,rfl⟩,q⟩;cases pl with
 |none=>cases h with|none=>exact ZZ (l:=U) (u:=U) (st:=U) e rfl (abI ⟨Xx (ac5 z _ _) d,b⟩)|int j u=>exact ZZ (l:=U) (u:=Z (j,u)) (st:=U) e rfl (abI ⟨Xx (ac5 z _ _) d,b⟩)
 |int i f=>cases h with|none=>exact ZZ (l:=Z (i,f)) (u:=U) (st:=U) e rfl (abI ⟨Xx (ac5 z _ _) d,b⟩)|int j u=>exact ZZ (l:=Z (i,f)) (u:=Z (j,u)) (st:=U) e rfl (abI ⟨Xx (ac5 z _ _) d,b⟩)
def RS(x:W)(a b:Int%1):Rs W%1:=match x with|.str z=>if z.length<=100000 then .str (Txt.slice z a b)%3 else U|.lst d=>.lst (Jl d a b)%3|_=>U
def Aj(f:Û)(d e:FnO):Û:=λa=>à (f a) λx=>à (d a) λlo=>à (e a) λb=>RS x lo b
def kL{o:Rs (Int%1)%1}{k:Int%1->Rs W%1}{P:Int%1->Hp->Prop}(h:õ a g (à o k) Ê)(i:∀b f,Õ g f->õ a f (k b) Ê->P b f):VT a g o P:=by match o,h with|some (.exc _),h=>exact h|some (.ok d),h=>exactλj e=>i d j e (õ.mono e h)
def NY{i m:s_%1}{q r:FnO}(ha:FE a h z)(hl:FO a i q)(hh:FO a m r):FE a (.Subscript h (.Slice i m U k) w) (Aj z q r):=dI (wL (Ž.or zX) ha.h hl.h hh.h) λσ H Q f E o=>⟨f,E,õ.bind o λd v H1 y I o1=>⟨f,E.mono y,kL o1 λl H2 s P=>⟨f,(E.mono y).mono s,kL P λu A e3 e=>by
 have g:=Ü.mono e3 d v (Ü.mono s d v I);cases d<;>try exact((e)).elim
 · rename_i b;unfold RS at e;dsimp only at e;split at e;·rename_i hz;exact .inl ⟨b,g,bC hz,e _ A (.refl A) rfl⟩
   ·exact e.elim
 ·obtain⟨a',D,rfl,h1,n⟩:=g.lstE;refine .inr ⟨a',D,rfl,ā.of h1,λp j=>e _ _ (aG j _) ⟨p,_,rfl,ao,S.mono (aG j _) _ _ ?_⟩⟩;unfold DX Jl;rw[n.length];exact(n.drop _).take _⟩⟩⟩
def gL:Þ|[.str z]=>if z.length<=100000 then .int z.length%3 else U|[.lst a]=>.int a.length%3|[.tup a]=>.int a.length%3|[.scr b]=>.int b.length%3|_=>U
def ì(g:Þ)(b:ê):Û:=λa=>à (b a) g
def dL(r:S q g [m] ζ):∃v,ζ=[v]/\Ü q g m v:=by obtain⟨v,a,rfl,d,b⟩:∃v a,ζ=v::a/\Ü q g m v/\S q g [] a:=r;cases((b));exact⟨v,rfl,d⟩
def Jm(r:S q g [m,π] ζ):∃v v2,ζ=[v,v2]/\Ü q g m v/\Ü q g π v2:=by obtain⟨v,a,rfl,e,d⟩:∃v a,ζ=v::a/\Ü q g m v/\S q g _ a:=r;obtain⟨v2,rfl,b⟩:=dL d;exact⟨v,v2,rfl,e,b⟩
def NZ(u:Gl a "len")(q:a.mg "len"=U)(A:FA a (h::s) μ)(y:h%8:=by lk)(m:(Xv w (k_ s a.env)).any (·.1)=h_:=by lk):FE a (.Call (.Name "len" k) (h::s) [] w) (ì gL μ):=dI (iM DR u q afd A.h #v[] #v[] y m) λD H Q n E o=>⟨n,E,ô.bind o λds I e P g d=>by
 unfold gL at d;split at d
 · rename_i z;split at d;·rename_i p;obtain⟨v,rfl,r⟩:=dL g;cases((r));exact⟨_,_,rfl,⟨bC p,rfl⟩,d _ e (.refl e) rfl⟩
   ·exact d.elim
 ·obtain⟨v,rfl,r⟩:=dL g;obtain⟨b,i,rfl,f,j⟩:=r.lstE;exact⟨_,_,rfl,.inl ⟨i,ā.of f,rfl⟩,d _ e (.refl e) (by rw[j.length];rfl)⟩
 ·obtain⟨v,rfl,r⟩:=dL g;obtain⟨b,i,rfl,f,j⟩:=r.tupE;exact⟨_,_,rfl,.inr ⟨i,û.of f,rfl⟩,d _ e (.refl e) (by rw[j.length];rfl)⟩
 ·obtain⟨v,rfl,r⟩:=dL g;obtain⟨b,rfl,f⟩:=r.scrE;exact⟨_,_,rfl,.inl ⟨_,f,rfl⟩,d _ e (.refl e) (by rw[T_];rfl)⟩
 ·exact d.elim⟩
def kN:W%0->(Bool%0)%1|[]=>Z []|.bl b::r=>(match kN r with|some bs=>Z (b::bs)|none=>U)|_=>U
def pK:Þ|[.lst a]=>(match kN a with|some bs=>.bl (bs.all id)%3|none=>U)|_=>U
def qQ{K:d_}{H:Hp}:∀{f:W%0}{e:V%0}{a:B%0}{bs:Bool%0},S K H f e->Ö e a->kN f=Z bs->a=bs.map XA
 |[],e,a,bs,r,q,h=>by cases((r));cases q;cases h;rfl|d::f,e,a,bs,r,q,h=>by obtain⟨v,o,rfl,j,i⟩:∃v a,e=v::a/\Ü K H d v/\S K H f a:=r;cases q with|cons m k=>
 cases d<;>try(cases h)
 rename_i b;simp![kN]at h;cases g:kN f with|none=>rw[g]at h;cases h|some n=>rw[g]at h;cases h;cases((j));cases m;rw[qQ i k g];rfl
def Ed:lH a (.builtin "all") (λy H Q=>∃d o bs w,y=[.ref d]/\H d=Z (.lst o)/\S a.K H w o/\kN w=Z bs/\a.calm=L/\Q (.bl (bs.all id)) H):=by
 intro f' s σ H y us Q I r h;obtain⟨d,o,bs,w,rfl,h1,h2,h3,hc,q⟩:=h;obtain⟨u,rfl,P⟩:=gK r;cases P;obtain⟨z,a',n,E,hl,e⟩:=I.lstM h1;have k:=qQ h2 E h3;subst k;have A:s.heap.IsList d _:=⟨_,e,rfl,_,rfl⟩;refine call_all_walk (aan A ?_);refine⟨s.heap.objs.size,_,_,_,_,_,λi=>(bs[i]?).getD L,rfl,afh (A:=a.A.in1) (I.ok.hd hc) _ d (D_ (uk e)) _,⟨⟨_,rl _ rfl,rfl,rfl⟩,A.push _⟩,λi v D Q' E' hP hQ=>?_,λh' tk hk=>?_⟩
 · have f:(bs.map XA)[i]?=Z v:=by simpa using hP
   rw[P_]at f;cases j:bs[i]? with|none=>rw[j]at f;cases f|some b=>rw[j]at f;cases f;have m:Q' ((bs[i]?).getD L) D:=hQ;rw[j]at m;exact Y7 m
 · have e2:((y_ (bs.map XA).toArray.size).all λi=>(bs[i]?).getD L)=bs.all id:=by
    rw[I_,T_,Yt];simp![XQ,X5,id];constructor;·intro p b j;obtain⟨i,g,rfl⟩:=adL.mp j;simpa[g]using p i g
    ·intro p i g;simp![r_ g];exact p _ (aaK g)
   rw[e2];refine⟨.bl _,H,I.kept λb x k=>hk b x (λhm=>?_) (l_ _ k),rfl,q⟩;rw[S_.mp hm]at k;exact Yx _ (uk k)
def N0(u:a.calm=L)(p:Gl a "all")(n:a.mg "all"=U)(z:FA a (h::s) μ)(q:h%8:=by lk)(e:(Xv w (k_ s a.env)).any (·.1)=h_:=by lk):FE a (.Call (.Name "all" k) (h::s) [] w) (ì pK μ):=dI (iM Ed p n PyProof.Rows.boot_all z.h #v[] #v[] q e) λI H Q g E o=>⟨g,E,ô.bind o λds P f e1 m d=>by
 unfold pK at d;split at d
 · rename_i i;split at d;·rename_i bs y;obtain⟨v,rfl,r⟩:=dL m;obtain⟨b,j,rfl,D,A⟩:=r.lstE;exact⟨b,j,bs,i,rfl,D,A,y,u,d _ f (.refl f) rfl⟩
   ·exact d.elim
 ·exact d.elim⟩
def tyD:W->String|.non=>"NoneType"|.bl _=>"bool"|.int _=>"int"|.str _=>"str"|.tup _=>"tuple"|.lst _=>"list"|.scr _=>"list"|.exn _=>"object"|.obj _ _=>"object"
def Jn(r:Ü q g m υ)(j:∀e,m≠.scr e)(i:∀c,m≠.exn c)(n:∀k d,m≠.obj k d):wH q g υ (.type (tyD m)):=by cases m with|non=>cases((r));exact .non|bl b=>cases((r));exact .bl b|int b=>cases((r));exact .int b|str b=>cases((r));exact .str b|tup d=>obtain⟨a,f,rfl,h,_⟩:=r.tupE;exact .tup h|lst d=>obtain⟨a,f,rfl,h,_⟩:=r.lstE;exact .lst h|scr e=>exact absurd rfl (j e)|exn c=>exact absurd rfl (i c)|obj k d=>exact absurd rfl (n k d)
def Ee(T:String):lH a (.builtin "isinstance") (λe H Q=>∃x t b,e=[x,.ty T]/\wH a.K H x t/\Zx a.K t (.type T)=Z b/\Q (.bl b) H):=by intro o s k H e n Q I r h;obtain⟨x,t,b,rfl,f,j,q⟩:=h;obtain⟨u,m,rfl,i,d⟩:=IM r;cases((d));exact zQ I i f j λg=>⟨.bl b,H,I.tok g,rfl,q⟩
def j9(a:W->Bool):W->Rs W%1|.scr _=>U|.exn _=>U|.obj _ _=>U|d=>.bl (a d)%3
variable{Λ:Pos}
def sV{T:String}{s:W->Bool}(P:∀K d,Zx K (.type (tyD d)) (.type T)=Z (s d))(hT:Yz (b_ T)=Z (.type T))(D:b_ T≠"__name__")(q:(b_ T==("__debug__":Str))=h_)(hg:Gl a "isinstance")(I:a.mg "isinstance"=U)(p:Gl a (b_ T))(n:a.mg (b_ T)=U)(ha:FE a h z)(g:k_ [h,.Name (b_ T) Λ] a.env=(h_,eval h a.env)::k_ [.Name (b_ T) Λ] a.env:=by lk)(j:k_ [.Name (b_ T) Λ] a.env=(h_,eval (.Name (b_ T) Λ) a.env)::k_ [] a.env:=by lk)(m:(Xv w (k_ [.Name (b_ T) Λ] a.env)).any (·.1)=h_:=by lk):FE a (.Call (.Name "isinstance" k) [h,.Name (b_ T) Λ] [] w) (f1 (j9 s) z):=dI (iM (Ee T) hg I abM (jp ha.h (jp (zy (υ:=.ty T) p n hT rfl D q) sE j) g) #v[] #v[] g m) λσ H Q y E o=>⟨y,E,õ.bind o λd v u e1 r i=>by show∃x t b,[v,V.ty T]=[x,.ty T]/\_;cases d with|scr A=>exact i.elim|exn c=>exact i.elim|obj f ds=>exact i.elim|_=>exact⟨v,_,_,rfl,Jn r (λA e=>by cases e) (λc e=>by cases e) (λf ds e=>by cases e),P a.K _,i _ u (.refl u) rfl⟩⟩
def vn:W->Bool|.str _=>L|_=>h_
def Jp(K:d_)(d:W):Zx K (.type (tyD d)) (.type "str")=Z (vn d):=by cases d<;>lk
def vo:W->Bool|.tup _=>L|_=>h_
def Jq(K:d_)(d:W):Zx K (.type (tyD d)) (.type "tuple")=Z (vo d):=by cases d<;>lk
def gh:W->Bool|.bl _=>L|_=>h_
def Ef(K:d_)(d:W):Zx K (.type (tyD d)) (.type "bool")=Z (gh d):=by cases d<;>lk
def fM(g:Str->Þ)(e:Û)(d:ê):Û:=λa=>à (e a) λx=>match x with|.str i=>à (d a) λb=>g i b|_=>U
def sW(h:Str->Str->Bool):Str->Þ|x,[.str y]=>.bl (h x y)%3|_,_=>U
def RT(h:Str->Str->Int):Str->Þ|x,[.str y]=>.int (h x y)%3|_,_=>U
def Jr(h:Str->Str->Bool):V->V%0->Hp->VK->Prop:=λx a H Q=>∃i j,x=.str i/\a=[.str j]/\Q (.bl (h i j)) H
def N1(h:Str->Str->Int):V->V%0->Hp->VK->Prop:=λx a H Q=>∃i j,x=.str i/\a=[.str j]/\Q (.int (h i j)) H
def Tc:ś a "str.startswith" (Jr X4):=by intro n s f H x g v k Q I b e h;obtain⟨i,j,rfl,rfl,q⟩:=h;obtain⟨t,rfl⟩:=b;obtain⟨u,rfl,d⟩:=gK e;obtain⟨m,rfl⟩:=d;exact SC.startswith ⟨.bl _,H,I,rfl,q⟩
def Td:ś a "str.endswith" (Jr abV):=by intro n s f H x g v k Q I b e h;obtain⟨i,j,rfl,rfl,q⟩:=h;obtain⟨t,rfl⟩:=b;obtain⟨u,rfl,d⟩:=gK e;obtain⟨m,rfl⟩:=d;exact SC.endswith ⟨.bl _,H,I,rfl,q⟩
def Eg:ś a "str.rfind" (N1 afw):=by intro n s f H x g v k Q I b e h;obtain⟨i,j,rfl,rfl,q⟩:=h;obtain⟨t,rfl⟩:=b;obtain⟨u,rfl,d⟩:=gK e;obtain⟨m,rfl⟩:=d;exact SC.rfind ⟨.int _,H,I.tok _,⟨_,rfl⟩,q⟩
def Jt{u:String}{r:V->V%0->Hp->VK->Prop}{g:Str->Þ}(n:Slot "str" d u)(y:aeF (.builtin u)=pure (.type "method_descriptor"))(hm:ś a u r)(hg:∀i q p H Q,S a.K H q p->õ a H (g i q) Q->r (.str i) p H Q)(ho:FE a v z)(ha:FA a (h::s) μ)(m:X_ v d a.env (eval v a.env)=eval v a.env:=by lk)(o:((Xv w (k_ (h::s) a.env)).all (λx=>!x.1)&&(Y_ w (Yq [] a.env)).all (λx=>x.1.isSome)&&A_ ((h::s).length+([]:Zc%0).length+(if([]:Zc%0).isEmpty then 0 else 1)<30))=L:=by lk)(j:(k.endLine==w.line)=L:=by lk)(hs:h%8:=by lk)(f:(Xv w (k_ s a.env)).any (·.1)=h_:=by lk):FE a (.Call (.Attribute v d k) (h::s) [] w) (fM g z μ):=dI (zZ PySem.F.plainAttrs_str n y hm ho.h ha.h m o j hs f) λσ H Q A E v=>⟨A,E,õ.bind v λb e H1 e1 rd D=>by
 cases b<;>try exact((D)).elim
 rename_i i;cases((rd));exact⟨rfl,A,E.mono e1,ô.bind D λq p H2 e2 I P=>hg i q p H2 Q I P⟩⟩
def Hu{h:Str->Str->Bool}(i:Str)(e:W%0)(d:V%0)(H:Hp)(Q:VK)(f:S a.K H e d)(o:õ a H (sW h i e) Q):Jr h (.str i) d H Q:=by
 unfold sW at o;split at o;·rename_i j;obtain⟨w,rfl,b⟩:=dL f;cases((b));exact⟨i,j,rfl,rfl,o _ H (.refl H) rfl⟩
 ·exact o.elim
def N2{h:Str->Str->Int}(i:Str)(e:W%0)(d:V%0)(H:Hp)(Q:VK)(f:S a.K H e d)(o:õ a H (RT h i e) Q):N1 h (.str i) d H Q:=by
 unfold RT at o;split at o;·rename_i j;obtain⟨w,rfl,b⟩:=dL f;cases((b));exact⟨i,j,rfl,rfl,o _ H (.refl H) rfl⟩
 ·exact o.elim
def VU(K:d_):R2:=λx y H Q=>∃(a b:O)(d:Int%0),x=.ref a/\y=.ref b/\ā K H a (d.map V.int)/\H b=Z (.lst [])/\Q (.bl d.isEmpty) H
def Te(g:a.A.units<cLine):ă a (XZ .Eq) (VU a.K):=by intro f' s σ H x y v u Q I p o h;obtain⟨d,b,f,rfl,rfl,E,D,q⟩:=h;cases p;cases o;obtain⟨e,r,pl,hz⟩:=I.list E;obtain⟨z2,m,n2,w,a',P⟩:=I.lstM D;cases w;have k:s.heap.IsList b #[]:=⟨_,P,rfl,_,rfl⟩;have j:=r.length;cases f with
 |nil=>
 have e0:e=[]:=by cases e with|nil=>rfl|cons _ _=>simp at j
 subst e0;exact SeqAt.eq_listAt (e:=λ_=>L) pl.isList k rfl g (λi A=>absurd A ∅) (by first|exact⟨.bl _,H,I,rfl,q⟩|(refine⟨_,H,I,?_,q⟩))        |cons n f=>
 refine SeqAt.eq_list_lengthsAt pl.isList k ?_ g ⟨.bl _,H,I,rfl,q⟩;have:0<e.length:=by rw[<-j];simp
 simp;exactλz=>by rw[z]at this;simp at this
def RU:W->W->Rs W%1|.scr a,.lst []=>.bl a.isEmpty%3|_,_=>U
def Tf:Ĝ a (VU a.K) RU:=by
 intro n m x y H Q f e o;unfold RU at o;split at o;·rename_i g;obtain⟨d,rfl,j⟩:=f.scrE;obtain⟨b,k,rfl,i,h⟩:=e.lstE;cases((h));exact⟨d,b,g,rfl,rfl,j,i,o _ H (.refl H) rfl⟩
 ·exact o.elim
def N3:Yz (b_ "str")=Z (.type "str"):=PyProof.Rows.boot_str
def Eh:Yz (b_ "tuple")=Z (.type "tuple"):=by decide+kernel
def Ju:Yz (b_ "bool")=Z (.type "bool"):=by decide+kernel
mutual
def dj:W->PyData|.non=>.none|.bl b=>.bool b|.int i=>.int i|.str x=>.str x|.tup a=>.tuple (ï a)|.lst a=>.list (ï a)|.scr e=>.list (e.map PyData.int)|.exn _=>.dict []|.obj _ _=>.dict []def ï:W%0->PyData%0|[]=>[]|d::f=>dj d::ï f
end
def pL{s:ge}:∀{b:Int%0}{a:B%0},Ö (b.map V.int) a->∃as,ReadsAll s.heap a (b.map PyData.int) as|[],a,r=>by cases r;exact⟨_,.nil⟩|n::b,a,r=>by cases r with|cons e d=>obtain⟨t,rfl⟩:=e;obtain⟨as,q⟩:=pL d;exact⟨_,.cons (.int n t) q⟩
mutual
theorem Ü.reads{X:C}{P:(O×Obj)%0}{A:L2.St}{H:Hp}{s:ge}(I:N X P A H s):∀(d:W)(v:V)(u:B),Ü X.K H d v->ß v u->(dj d).canLay0=L->∃as,Reads s.heap u (dj d) as|.non,v,u,r,q,f=>by cases(show v=.non from r);cases(show u=M_ from q);exact⟨_,.none⟩|.bl b,v,u,r,q,f=>by cases(show v=.bl b from r);cases(show u=XA b from q);exact⟨_,.bool b⟩|.int i,v,u,r,q,f=>by cases(show v=.int i from r);obtain⟨t,rfl⟩:=(show∃t,u=adS i t from q);exact⟨_,.int i t⟩|.str x,v,u,r,q,f=>by cases(show v=.str x from r);obtain⟨t,rfl⟩:=(show∃t,u=Zh x t from q);exact⟨_,.str x t⟩|.tup g,v,u,r,q,f=>by obtain⟨a,D,rfl,h,E⟩:=r.tupE;cases(show u=U_ a from q);obtain⟨j,p,⟨o,e,c,n,d⟩,hz⟩:=I.tuple (û.of h);obtain⟨as,w⟩:=S.reads I g D j E p (by simpa[dj,XE]using f);exact⟨as,.tuple e c d (by simpa using w)⟩|.lst g,v,u,r,q,f=>by obtain⟨a,D,rfl,h,E⟩:=r.lstE;cases(show u=U_ a from q);obtain⟨z,j,n,p,hl,e⟩:=I.lstM h;obtain⟨as,w⟩:=S.reads I g D j E p (by simpa[dj,XE]using f);exact⟨a::as,.list e rfl rfl (by simpa using w)⟩|.scr ns,v,u,r,q,f=>by obtain⟨a,rfl,h⟩:=r.scrE;cases(show u=U_ a from q);obtain⟨j,p,⟨o,n,e,c,hd,d⟩,hz⟩:=I.list h;obtain⟨as,w⟩:=pL (s:=s) p;exact⟨a::as,.list e c d (by simpa using w)⟩|.exn c,v,u,r,q,f=>by simp[dj,XE]at f|.obj c g,v,u,r,q,f=>by simp[dj,XE]at f
theorem S.reads{X:C}{P:(O×Obj)%0}{A:L2.St}{H:Hp}{s:ge}(I:N X P A H s):∀(g:W%0)(m:V%0)(k:B%0),S X.K H g m->Ö m k->YW (ï g)=L->∃as,ReadsAll s.heap k (ï g) as|[],m,k,r,q,_=>by cases(show m=[]from r);cases q;exact⟨_,.nil⟩|d::g,m,k,r,q,f=>by obtain⟨v,Q,rfl,r1,r2⟩:∃v k,m=v::k/\Ü X.K H d v/\S X.K H g k:=r;cases q with|cons q1 q2=>
 have y:(dj d).canLay0=L/\YW (ï g)=L:=by simpa[ï,YW]using f
 obtain⟨as,a⟩:=Ü.reads I d v _ r1 q1 y.1;obtain⟨bs,b⟩:=S.reads I g Q _ r2 q2 y.2;exact⟨_,.cons a b⟩end
def okP(d:W):Bool:=SeqAt.shaped (dj d)
def rPy(X:C)(d:Bool):R2:=λx y H Q=>∃b a,Ü X.K H b x/\Ü X.K H a y/\okP b=L/\okP a=L/\Q (.bl (if d then !Yk (dj b) (dj a)else Yk (dj b) (dj a))) H
def N4(m:a.A.units+64<cLine):ă a (XZ .Eq) (rPy a h_):=by intro r s p H x y v u Q I f e h;obtain⟨o,n,k,j,d,b,q⟩:=h;obtain⟨as,i⟩:=Ü.reads I o x v k f (Yl.mp d).1;obtain⟨bs,g⟩:=Ü.reads I n y u j e (Yl.mp b).1;exact SeqAt.compareEq_shaped i g d b m ⟨.bl _,H,I,rfl,q⟩
def N5(m:a.A.units+64<cLine):ă a (XZ .NotEq) (rPy a L):=by intro r s p H x y v u Q I f e h;obtain⟨o,n,k,j,d,b,q⟩:=h;obtain⟨as,i⟩:=Ü.reads I o x v k f (Yl.mp d).1;obtain⟨bs,g⟩:=Ü.reads I n y u j e (Yl.mp b).1;exact SeqAt.compareNe_shaped i g d b m ⟨.bl _,H,I,rfl,q⟩
def è(x y:W):Rs W%1:=match Ÿ x y with|some b=>.bl b%3|none=>if okP x&&okP y then .bl (Yk (dj x) (dj y))%3 else U
def Ŕ(x y:W):Rs W%1:=match Ÿ x y with|some b=>.bl (!b)%3|none=>if okP x&&okP y then .bl (!Yk (dj x) (dj y))%3 else U
def VV(X:C):R2:=λx y H Q=>rEq x y H Q\/rPy X h_ x y H Q
def VW(X:C):R2:=λx y H Q=>rNe x y H Q\/rPy X L x y H Q
def Jv(b:a.A.units+64<cLine):ă a (XZ .Eq) (VV a):=op_eq.or (N4 b)
def Tg(b:a.A.units+64<cLine):ă a (XZ .NotEq) (VW a):=op_ne.or (N5 b)
def Jz:Ĝ a (VV a) è:=by
 intro k j x y H Q f e o;unfold è at o;split at o;·rename_i b g;obtain⟨i,h⟩:=Hr f e g;exact .inl ⟨i,by rw[h];exact o _ H (.refl H) rfl⟩
 · split at o;·rename_i d;rw[n_]at d;exact .inr ⟨k,j,f,e,d.1,d.2,o _ H (.refl H) rfl⟩
   ·exact o.elim
def Th:Ĝ a (VW a) Ŕ:=by
 intro k j x y H Q f e o;unfold Ŕ at o;split at o;·rename_i b g;obtain⟨i,h⟩:=Hr f e g;exact .inl ⟨i,by rw[h];exact o _ H (.refl H) rfl⟩
 · split at o;·rename_i d;rw[n_]at d;exact .inr ⟨k,j,f,e,d.1,d.2,o _ H (.refl H) rfl⟩
   ·exact o.elim
def ltX:W->W->Rs W%1|.int i,.int j=>.bl (A_ (i<j))%3|.str x,.str y=>.bl (A_ (x.cps.toList<y.cps.toList))%3|_,_=>U
def VX:R2:=λx y H Q=>ŧ (λi j=>.bl (A_ (i<j))) x y H Q\/∃i j,x=.str i/\y=.str j/\Q (.bl (A_ (i.cps.toList<j.cps.toList))) H
def N6:ă a (XZ .Lt) VX:=op_lt.or zJ
def N7:Ĝ a VX ltX:=by
 intro f e x y H Q d b o;cases f<;>cases e<;>try exact((o)).elim
 ·rename_i i j;exact .inl ⟨i,j,d,b,o _ H (.refl H) rfl⟩
 ·rename_i i j;exact .inr ⟨i,j,d,b,o _ H (.refl H) rfl⟩
def sX:∀(a:Str%0)(k:Nat),Ö (a.map V.str) (strsFrom k a)|[],_=>.nil|p::a,k=>.cons ⟨k,rfl⟩ (sX a _)
def sY{K:d_}{H:Hp}:∀a:Str%0,S K H (a.map W.str) (a.map V.str)|[]=>rfl|p::a=>⟨_,_,rfl,rfl,sY a⟩
def jt:Str->Þ|x,[.str y]=>if y.length≠0/\x.length<=100000/\(ZH x y).length<=100000 then .lst ((ZH x y).map W.str)%3 else U|_,_=>U
def Hv:V->V%0->Hp->VK->Prop:=λx a H Q=>∃i j,x=.str i/\a=[.str j]/\j.length≠0/\i.length<=sizeLine/\(ZH i j).length<=sizeLine/\∀p,H p=U->Q (.ref p) (å H p (.lst ((ZH i j).map V.str)))
def Ei:ś a "str.split" Hv:=by
 intro A s o H x D v E Q I p w h;obtain⟨i,j,rfl,rfl,y,z,g,q⟩:=h;obtain⟨t,rfl⟩:=p;obtain⟨u,rfl,r⟩:=gK w;obtain⟨f,rfl⟩:=r;have n:(j.length==0)=h_:=by simpa using y
 have one:∀{m:ge},m={s with heap:=s.heap.push {cls:=.type "list",data:=.seq [Zh i t].toArray}}->ZH i j=[i]->EP a A o Q _ m:=λe k=>by subst e;rw[k]at q;exact⟨.ref _,_,I.lnew (ys:=[V.str i]) (.cons ⟨t,rfl⟩ .nil) (by show 1<=sizeLine;decide),rfl,q _ I.fresh⟩
 cases b:(A_ (i.length<j.length)||A_ (Zq i<Zq j))
 · cases d:(X0 i j 0 i.length _).isEmpty
   · have k:ZH i j=Builtin.Str.partsBetween i (X0 i j 0 i.length (i.length+1)) j.length:=by unfold ZH;rw[if_neg (by rw[b];exact H_),if_neg (by rw[d];exact H_)]
     rw[k]at q g;exact aau aa9 (aaU _ _ _) acq (ab_ _ _) (meets_str_split_sep i j t f b n d z g) ⟨.ref _,_,I.lnew (sX _ _) (by rw[T_];exact g),rfl,q _ I.fresh⟩
   ·exact aau aa9 (aaU _ _ _) acq (ab_ _ _) (meets_str_split_not_found i j t f b n d) (one rfl (by unfold ZH;rw[if_neg (by rw[b];exact H_),if_pos d]))
 ·exact aau aa9 (aaU _ _ _) acq (ab_ _ _) (meets_str_split_cannot_occur i j t f b) (one rfl (by unfold ZH;rw[if_pos b]))
def JA(i:Str)(f:W%0)(e:V%0)(H:Hp)(Q:VK)(g:S a.K H f e)(o:õ a H (jt i f) Q):Hv (.str i) e H Q:=by
 unfold jt at o;split at o
 · rename_i j;split at o;·rename_i b;obtain⟨w,rfl,d⟩:=dL g;cases((d));exact⟨i,j,rfl,rfl,b.1,bC b.2.1,bC b.2.2,λp h=>o _ _ (aG h _) ⟨p,_,rfl,ao,sY _⟩⟩
   ·exact o.elim
 ·exact o.elim
def yw:W%0->(Str%0)%1|[]=>Z []|.str x::r=>(match yw r with|some a=>Z (x::a)|none=>U)|_=>U
def Ej:Str->Þ|x,[.lst b]=>(match yw b with|some a=>if JoinOk x a=L then .str (ſ x a)%3 else U|none=>U)|_,_=>U
def N8(K:d_):V->V%0->Hp->VK->Prop:=λx f H Q=>∃i a d e b,x=.str i/\f=[.ref a]/\H a=Z (.lst d)/\S K H e d/\yw e=Z b/\JoinOk i b=L/\Q (.str (ſ i b)) H
def pM{K:d_}{H:Hp}:∀{f:W%0}{e:V%0}{a:B%0}{g:Str%0},S K H f e->Ö e a->yw f=Z g->∃l:(Str×Tok)%0,a=strValues l/\l.map (·.1)=g
 |[],e,a,g,r,q,h=>by cases((r));cases q;cases h;exact⟨[],rfl,rfl⟩|d::f,e,a,g,r,q,h=>by obtain⟨v,u,rfl,k,j⟩:∃v a,e=v::a/\Ü K H d v/\S K H f a:=r;cases q with|cons n m=>
 cases d<;>try(cases h)
 rename_i b;simp![yw]at h;cases i:yw f with|none=>rw[i]at h;cases h|some s=>rw[i]at h;cases h;cases((k));obtain⟨t,rfl⟩:=n;obtain⟨l,p,o⟩:=pM j m i;exact⟨(b,t)::l,by rw[p];rfl,by rw[F_,o]⟩
def JC:ś a "str.join" (N8 a.K):=by intro f' s D H x E v us Q I d j h;obtain⟨i,b,P,ds,ts,rfl,rfl,r,p,o,m,q⟩:=h;obtain⟨t,rfl⟩:=d;obtain⟨u,rfl,g⟩:=gK j;cases g;obtain⟨z,A,n,f,hl,e⟩:=I.lstM r;obtain⟨l,y,w⟩:=pM p f o;subst y;exact SC.join ⟨_,e,rfl,_,rfl⟩ w m λt' k=>⟨.str _,H,I.tok _,⟨_,rfl⟩,q⟩
def N9(i:Str)(f:W%0)(e:V%0)(H:Hp)(Q:VK)(j:S a.K H f e)(o:õ a H (Ej i f) Q):N8 a.K (.str i) e H Q:=by
 unfold Ej at o;split at o
 · rename_i q;split at o
   · rename_i h k;split at o;·rename_i m;obtain⟨w,rfl,d⟩:=dL j;obtain⟨b,g,rfl,p,n⟩:=d.lstE;exact⟨i,b,g,q,h,rfl,rfl,p,n,k,m,o _ H (.refl H) rfl⟩
     ·exact o.elim
   ·exact o.elim
 ·exact o.elim
def sZ:Str->Þ|x,[.str y]=>if y.length≠0/\x.length<=100000 then .tup [.str (Zt x y).1,.str (Zt x y).2.1,.str (Zt x y).2.2]%3 else U|_,_=>U
def Oa:V->V%0->Hp->VK->Prop:=λx a H Q=>∃i j,x=.str i/\a=[.str j]/\j.length≠0/\i.length<=sizeLine/\∀p,H p=U->Q (.ref p) (å H p (.tup [.str (Zt i j).1,.str (Zt i j).2.1,.str (Zt i j).2.2]))
def JD:ś a "str.partition" Oa:=by
 intro P s p H x xs v us Q I y A h;obtain⟨i,j,rfl,rfl,D,E,q⟩:=h;obtain⟨t,rfl⟩:=y;obtain⟨u,rfl,z⟩:=gK A;obtain⟨w,rfl⟩:=z;have f:∀(d b c:Str)(n m g:Tok)(k:Nat),Zt i j=(d,b,c)->EP a P p Q _ {s with toks:=k,heap:=s.heap.push {cls:=.type "tuple",data:=.seq _}}:=λd b c n m g k e=>by rw[e]at q;refine⟨.ref _,_,I.laid (λb u e=>l_ _ e) (o_ _) ?_,rfl,q _ I.fresh⟩;exact⟨by show 3<=sizeLine;decide,[Zh d n,.str b m,.str c g],.cons ⟨_,rfl⟩ (.cons ⟨_,rfl⟩ (.cons ⟨_,rfl⟩ .nil)),⟨_,rl _ rfl,rfl,_,rfl⟩⟩
 refine aau acM (aaU _ _ _) F.entry_str_partition (F.args_str_partition_2 _ _) (meets_str_partition i j t w (by simpa using D) E) ?_;cases o:X0 i j 0 i.length 1 with|nil=>exact f _ _ _ _ _ _ _ (by unfold Zt;rw[o])|cons k r=>exact f _ _ _ _ _ _ _ (by unfold Zt;rw[o])
def Ob(i:Str)(f:W%0)(d:V%0)(H:Hp)(Q:VK)(g:S a.K H f d)(o:õ a H (sZ i f) Q):Oa (.str i) d H Q:=by
 unfold sZ at o;split at o
 · rename_i j;split at o;·rename_i e;obtain⟨w,rfl,b⟩:=dL g;cases((b));exact⟨i,j,rfl,rfl,e.1,bC e.2,λp h=>o _ _ (aG h _) ⟨p,_,rfl,ao,⟨_,_,rfl,rfl,_,_,rfl,rfl,_,_,rfl,rfl,rfl⟩⟩⟩
   ·exact o.elim
 ·exact o.elim
def jg:Þ|[.lst a]=>.tup a%3|[.tup a]=>.tup a%3|_=>U
def Ek(u:Gl a "tuple")(q:a.mg "tuple"=U)(z:FA a (h::s) μ)(y:h%8:=by lk)(i:(Xv w (k_ s a.env)).any (·.1)=h_:=by lk):FE a (.Call (.Name "tuple" k) (h::s) [] w) (ì jg μ):=dI (jq qM u q (by decide+kernel) z.h #v[] #v[] y i) λA H Q p E o=>⟨p,E,ô.bind o λP D n I j e=>by
 unfold jg at e;split at e;·obtain⟨v,rfl,r⟩:=dL j;obtain⟨b,d,rfl,f,g⟩:=r.lstE;exact⟨b,d,rfl,.inl ⟨ā.of f,λl m=>e _ _ (aG m _) ⟨l,d,rfl,ao,S.mono (aG m _) _ _ g⟩⟩⟩
 ·obtain⟨v,rfl,r⟩:=dL j;obtain⟨b,d,rfl,f,g⟩:=r.tupE;exact⟨b,d,rfl,.inr ⟨û.of f,e _ n (.refl n) ⟨b,d,rfl,f,g⟩⟩⟩
 ·exact e.elim⟩
def RV(x:W):W%0->Nat->Nat%1|[],_=>U|y::a,k=>if eqF y x then Z k else RV x a (k+1)
def Ti:W%0->Þ|a,[x]=>if ik x&&a.all ik&&A_ (a.length<=100000)then(match RV x a 0 with|some j=>.int j%3|none=>U)else U|_,_=>U
def Al{K:d_}{H:Hp}{x:W}{u:V}(q:Ü K H x u)(o:ik x=L):∀{d:W%0}{b:V%0}{k j:Nat},S K H d b->d.all ik=L->RV x d k=Z j->k<=j/\(∃v,b[j-k]?=Z v/\ŀ v u=L)/\∀(m:Nat)v,m<j-k->b[m]?=Z v->ŀ v u=h_
 |[],b,k,j,r,_,h=>by cases h|y::s,b,k,j,r,g,h=>by
  obtain⟨v,Q,rfl,D,A⟩:∃v i,b=v::i/\Ü K H y v/\S K H s i:=r;rw[Y0,n_]at g;unfold RV at h;have p:=Ah D q g.1 o;split at h;·rename_i f;cases h;refine⟨o_ _,⟨v,by simp,by rw[p];exact f⟩,λm w E=>by lia⟩
  · rename_i f;obtain⟨a,⟨w,P,I⟩,c⟩:=Al q o A g.2 h;refine⟨by lia,⟨w,?_,I⟩,λm z E n=>?_⟩
    · have e:j-k=(j-(k+1))+1:=by lia
      rw[e];exact P
    ·cases m with|zero=>
      have:z=v:=by simpa using n.symm
      subst this;rw[p];simpa using f|succ m=>exact c m z () (by simpa using n)
def Oc:V->V%0->Hp->VK->Prop:=λx d H Q=>∃a b y j,x=.ref a/\d=[y]/\H a=Z (.lst b)/\jj y=L/\b.all jj=L/\b.length<=100000/\(∃v,b[j]?=Z v/\ŀ v y=L)/\(∀(m:Nat)v,m<j->b[m]?=Z v->ŀ v y=h_)/\Q (.int j) H
def Hw(r:Ö ζ P)(f:ζ.all jj=L){m:Nat}{v:V}(h:ζ[m]?=Z v):∃a:m<P.length,Ŋ υ P[m]=ŀ v υ:=by obtain⟨u,d,b⟩:=r.get h;obtain⟨a,e⟩:=u_.mp d;refine⟨a,?_⟩;rw[e];exact wM b (XQ.mp f v (N_ h))
def El:ś a "list.index" Oc:=by
 intro f' s σ H x xs v us Q I A E h;obtain⟨b,r,y,j,rfl,rfl,h1,fy,g,hz,⟨w,P,p⟩,k,q⟩:=h;cases A;obtain⟨u,rfl,D⟩:=gK E;obtain⟨z,i,n,f,hl,e⟩:=I.lstM h1;obtain⟨hj,ej⟩:=Hw (υ:=y) f g P;refine aau acN ⟨_,e,rfl⟩ PySem.F.entry_list_index (PySem.F.args_list_index_2 _ _) (SeqAt.list_indexAt b i.toArray n U #[] u _ j (by simpa using hj) () (by simpa[ej]using p) λm hm o=>?_) ⟨e,λt ht=>iN D fy f g t (by simpa using ht),⟨.int j,H,I.tok _,⟨_,rfl⟩,q⟩⟩;have d:m<r.length:=by rw[f.length];simpa using hm
 obtain⟨a',em⟩:=Hw (υ:=y) f g (r_ d);have:=k m _ o (r_ d);simpa[em]using this
def fML(g:W%0->Þ)(e:Û)(d:ê):Û:=λa=>à (e a) λx=>match x with|.lst i=>à (d a) λb=>g i b|_=>U
def Em(ho:FE a v z)(ha:FA a (h::s) μ)(n:X_ v "index" a.env (eval v a.env)=eval v a.env:=by lk)(r:((Xv w (k_ (h::s) a.env)).all (λx=>!x.1)&&(Y_ w (Yq [] a.env)).all (λx=>x.1.isSome)&&A_ ((h::s).length+([]:Zc%0).length+(if([]:Zc%0).isEmpty then 0 else 1)<30))=L:=by lk)(m:(k.endLine==w.line)=L:=by lk)(hs:h%8:=by lk)(g:(Xv w (k_ s a.env)).any (·.1)=h_:=by lk):FE a (.Call (.Attribute v "index" k) (h::s) [] w) (fML Ti z μ):=dI (zZ Zi acN PySem.F.type_list_index El ho.h ha.h n r m hs g) λσ H Q u E v=>⟨u,E,õ.bind v λd f H1 e1 rd A=>by
 cases d<;>try exact((A)).elim
 obtain⟨e,y,rfl,I,D⟩:=rd.lstE;refine⟨.inl ⟨rfl,y,ā.of I⟩,u,E.mono e1,ô.bind A λs ws H2 P rs i=>?_⟩;unfold Ti at i;split at i
 · split at i
   · rename_i o;rw[n_,n_]at o;split at i;·rename_i j hj;obtain⟨b,rfl,p⟩:=dL rs;have q:=S.mono P _ _ D;obtain⟨c1,c2,c3⟩:=Al p o.1.1 q o.1.2 hj;refine⟨e,y,b,j,rfl,rfl,P _ _ I,qO p o.1.1,mQ q o.1.2,by rw[D.length];exact of_decide_eq_true o.2,by simpa using c2,by simpa using c3,i _ H2 (.refl H2) rfl⟩
     ·exact i.elim
   ·exact i.elim
 ·exact i.elim⟩
structure FG(X:C)(tg:s_)(b:W->Ev->Ev%1):Prop where h:∀(f':(O×Obj)%0)(s:ge)(σ:L2.St)(H:Hp)(v:V)(u:B)(d:W)(ρ ρ':Ev),N X f' σ H s->ß v u->Ü X.K H d v->â X.K H σ ρ->b d ρ=Z ρ'->xy (B_ X.prog X.w) X.A (ķ tg X.env u) (λ_ s'=>∃σ' H',N X f' σ' H' s'/\Õ H H'/\â X.K H' σ' ρ') X.xe s
def gN(i:Nat):W->Ev->Ev%1:=λd a=>Z (a.set i (Z d))
def gP(i j:Nat):W->Ev->Ev%1:=λd b=>match d with|.tup [a,c]=>Z ((b.set i (Z a)).set j (Z c))|_=>U
def JE(i:Nat){x:Str}(n:a.N.Nodup)(j:a.N[i]?=Z x)(h:ŋ a.env.scope x)(m:a.fn x=L\/a.env.scope.names.lookup x=Z .local):FG a (.Name x k) (gN i):=⟨λo s f H v u d z y I r rd E e=>by cases e;exact í (gZ n j h m o s f H v u (λb g=>g=H/\b=f.set i _) I r ⟨rfl,rfl⟩) λ_ A⟨b,g,w,q,p⟩=>by subst q p;exact⟨_,_,w,.refl _,E.set rd⟩⟩
def An(i j:Nat){x y:Str}{b:Nat}(hc:a.calm=L)(o:a.N.Nodup)(hi:a.N[i]?=Z x)(Q:ŋ a.env.scope x)(hf:a.fn x=L\/a.env.scope.names.lookup x=Z .local)(hj:a.N[j]?=Z y)(P:ŋ a.env.scope y)(hg:a.fn y=L\/a.env.scope.names.lookup y=Z .local)(m:(XH [.Name x w,.Name y Λ] a.env).map (·.2)=ķ (.Name x w) a.env::(XH [.Name y Λ] a.env).map (·.2):=by lk)(h:(XH [.Name y Λ] a.env).map (·.2)=ķ (.Name y Λ) a.env::(XH [] a.env).map (·.2):=by lk)(hn:(XH [.Name x w,.Name y Λ] a.env).length=2:=by lk)(g:(XH [.Name x w,.Name y Λ] a.env).findIdx? (·.1)=U:=by lk):FG a (.Tuple [.Name x w,.Name y Λ] b k) (gP i j):=⟨λf' s n H v u d ρ a' I r rd E e=>by
 unfold gP at e;split at e;·cases e;obtain⟨ad,xs,rfl,h1,h2⟩:=rd.tupE;obtain⟨z,q,rfl,D,A⟩:=Jm h2;refine í (Hc hc (qI (gZ o hi Q hf) (qI (gZ o hj P hg) zD h) m) hn g f' s n H _ u (λf p=>p=H/\f=(n.set i _).set j _) I r ⟨ad,_,rfl,û.of h1,rfl,z,_,rfl,q,[],rfl,rfl,rfl,rfl⟩) λ_ s'⟨f,p,I',e1,e2⟩=>?_;subst e1 e2;exact⟨_,_,I',.refl _,(E.set D).set A⟩
 ·cases e⟩
structure WkG(K:d_)(J:It)(ds:W%0)(H0:Hp):Prop where
 go:∀i H,Õ H0 H->i<ds.length->J.go i H
 stop:∀H,Õ H0 H->J.stop ds.length H
 yld:∀i H x H',Õ H0 H->i<ds.length->J.yld i H x H'->Õ H H'/\∃d,ds[i]?=Z d/\Ü K H' d x
def Wk.toG{J:It}(w:Wk q J u g):WkG q J u g:=⟨w.go,w.stop,λi H x h e a y=>by obtain⟨rfl,d,f,b⟩:=w.yld i H x h e a y;exact⟨.refl _,d,f,b⟩⟩
def ĺ(X:C)(H:Hp)(o:Rs (W%0)%1)(R:It->Hp->Prop):Prop:=match o with|none=>False|some (.exc c)=>XW X c H|some (.ok b)=>∀J a,Õ H a->WkG X.K J b a->R J a
def ĺ.mono{R:It->Hp->Prop}(e:Õ g ξ):∀{o:Rs (W%0)%1},ĺ a g o R->ĺ a ξ o R|none,h=>h|some (.exc _),h=>XW.mono h e|some (.ok _),h=>λv d b r=>h v d (e.trans b) r
structure Ň(X:C)(tg iter:s_)(f:ê):Prop where h:PI X tg iter λσ H R=>∃ρ,â X.K H σ ρ/\ĺ X H (f ρ) R
def FI.toG(b:FI a h v μ):Ň a h v μ:=⟨λg s f H R I⟨d,E,o⟩=>b.h g s f H R I ⟨d,E,by match j:μ d,o with|some (.exc c),o=>exact o|some (.ok k),o=>exactλJ i e w=>o J i e w.toG⟩⟩
def lC(m:Nat)(b:(Str×Nat)%0)(a:Ev):Ev:=XF m U++b.map λc=>(a[c.2]?).join
def oQ(b:W->Ev->Ev%1)(a:ñ%1)(e:Û)(f:Ev):W%0->(W%0)%1|[]=>Z []|d::h=>match b d f with|none=>U|some g=>match(match a with|none=>(L%3:Rs Bool%1)|some t=>t g)with|some (.ok L)=>(match e g with|some (.ok y)=>(match oQ b a e f h with|some i=>Z (y::i)|none=>U)|_=>U)|some (.ok h_)=>oQ b a e f h|_=>U
def nJ(m:Nat)(b:(Str×Nat)%0)(a:L2.St):L2.St:=XF m U++b.map λc=>(a[c.2]?).join
def nK{l:Option Q%0}(h:(XF b (U:Q%1)++l)[o]?=Z (Z Ò)):∃k,o=b+k/\l[k]?=Z (Z Ò):=by
 by_cases a:o<b;·rw[w_ (by simpa using a),Z7,if_pos a]at h;cases h
 ·refine⟨o-b,by lia,?_⟩;rw[G_ (by simpa using a)]at h;simpa using h
def Ao(m:Nat)(f:(Str×Nat)%0)(E:â q g Θ ε):â q g (nJ m f Θ) (lC m f ε):=by refine⟨by simp[nJ,lC],λi d h=>?_⟩;obtain⟨k,rfl,b⟩:=nK h;rw[P_]at b;cases e:f[k]? with|none=>rw[e]at b;simp at b|some c=>
 rw[e]at b;simp![Zp,aap]at b;have p:ε[c.2]?=Z (Z d):=by cases a:ε[c.2]? with|none=>rw[a]at b;simp at b|some o=>rw[a]at b;simp at b;rw[b]
 obtain⟨v,n,j⟩:=E.at' c.2 d p;refine⟨v,?_,j⟩;unfold nJ;rw[G_ ∅];simp![YX,aa6,P_,e,Zp,n];rfl
def tf{R:aeL->ge->Prop}{Q:s_}{H:B}{g:Env}(I:Nat->ge->Prop)(P:∀a f,I a f->xy (B_ p n) D (K' ω) (λr q=>match r with|none=>R (.ok .next) q|some b=>xy (B_ p n) D (abJ v ω b) (λ_ z=>xy (B_ p n) D (ķ v g b) (λ_ y=>xy (B_ p n) D (afq s L λc r=>if r=L then do let ok<-isTrue c g (eval c g);pure (YN ok)else pure (YN r)) (λok o=>if ok=L then xy (B_ p n) D (eval h g) (λx w=>xy (B_ p n) D (call (.builtin "list.append") [H,x]) (λ_ u=>∃m,m<a/\I m u) (aem (B_ p n) D g λe i=>R (.error e) i) w) (aem (B_ p n) D g λe i=>R (.error e) i) o else∃m,m<a/\I m o) (aem (B_ p n) D g λe i=>R (.error e) i) y) (aem (B_ p n) D g λe i=>R (.error e) i) z) (aem (B_ p n) D g λe i=>R (.error e) i) q) (aem (B_ p n) D g λe i=>R (.error e) i) f)(a:Nat)(d:I a f):ŭ (B_ p n) D (.compLoop (.ListComp h [⟨v,Q,s,0⟩] ι k) 0 ω H g) R f:=by refine codeAny_loop rfl I (λa f hI=>?_) a d;show xy _ D _ _ _ f;refine wpAny_noted ?_;rw[compTurn_list];refine c_ (ad5 (c_ (X8 (P a f hI) (λr q E=>?_) λ_ _ j=>j)));cases r with|none=>exact i_ E|some b=>refine c_ (X8 E (λ_ z d'=>(c_ (X8 d' (λ_ y c'=>c_ (X8 c' (λok o A=>?_) λ_ _ j=>j)) λ_ _ j=>j))) λ_ _ j=>j);cases ok with
 |false=>first|exact c_ _|exact i_ ⟨rfl,A⟩|(exact i_ _)
 |true=>first|exact c_ (c_ (X8 A (λx w b'=>c_ (X8 b' (λ_ u a'=>i_ (i_ ⟨rfl,a'⟩)) λ_ _ j=>j)) λ_ _ j=>j))|exact c_ _
def bB(m:Nat)(i:(Str×Nat)%0)(d:ê)(b:W->Ev->Ev%1)(a:ñ%1)(e:Û):Û:=λf=>à (d f) λh=>match oQ b a e (lC m i f) h with|some g=>if g.length<=100000/\h.length<=100000 then .lst g%3 else U|none=>U
variable{À:(Str×Nat)%0}{Í:ñ%1}
def Tj{a:W->Ev->Ev%1}{o:Rs W}(h:bB b À μ a Í z ε=Z o):(∃c,μ ε=c%9/\o=.exc c)\/∃d e,μ ε=d%3/\oQ a Í z (lC b À ε) d=Z e/\d.length<=100000/\e.length<=100000/\o=.ok (.lst e):=by unfold bB at h;match g:μ ε with|none=>rw[g]at h;cases h|some (.exc c)=>rw[g]at h;cases h;exact .inl ⟨c,rfl,rfl⟩|some (.ok d)=>rw[g]at h;dsimp only[à]at h;match f:oQ a Í z (lC b À ε) d with
 |none=>rw[f]at h;cases h|some e=>
 rw[f]at h;dsimp only at h;split at h;·rename_i i;cases h;exact .inr ⟨d,e,rfl,f,i.2,i.1,rfl⟩
 ·cases h
def JF(e:(Str×Nat)%0)(b:Ev)(d:W)(a:Ev)(h:gN 0 d (lC 1 e b)=Z a):fgt [0] a=lC 1 e b:=by cases h;rfl
def Tk(e:(Str×Nat)%0)(b:Ev)(d:W)(a:Ev)(h:gP 0 1 d (lC 2 e b)=Z a):fgt [0,1] a=lC 2 e b:=by
 unfold gP at h;split at h;·cases h;rfl
 ·cases h
def Ite(K:d_)(a:O):It:=⟨λi H=>∃b x,ā K H a b/\b[i]?=Z x,λi H v d=>∃p x,v=.ref p/\H p=U/\d=å H p (.tup [.int i,x])/\∀b,ā K H a b->b[i]?=Z x,λi H=>∃b,ā K H a b/\b.length<=i⟩
def Ap(a e Q:O)(c':e≠Q):DQ p n q (.Tuple s b k) (Ite q a) [e,Q] e (λi h=>(∃A,IsEnum h e Q i A)/\h.IsListIter Q a i)where
 mem:=by simp
 obj:=λi h st g hb=>by
  obtain⟨⟨A,he⟩,o,e2,c,d⟩:=st;rcases(by simpa using hb)with rfl|rfl;·exact⟨_,he,λv z=>by cases z⟩
  ·exact⟨o,e2,λv z=>by lia⟩
 keep:=λi h h' st kk=>by obtain⟨⟨A,he⟩,D⟩:=st;exact⟨⟨A,kk e ∅ _ he⟩,D.at (kk Q ∅)⟩
 item:=by
  intro X hP hw hK hc i f' j σ H E I hf st hg;subst hP hw hK;obtain⟨xs,x,hq,hx⟩:=hg;obtain⟨g',rv,w,hz⟩:=I.list hq;obtain⟨u,hu,ru⟩:=rv.get hx;obtain⟨⟨A,he⟩,D⟩:=st;obtain⟨f0,f1,R,f3,f4,f5⟩:=hf e ∅;obtain⟨g0,g1,g2,g3,g4,g5⟩:=hf Q ∅;refine wpAny_pyNext_enum_item he D w.isList (by simpa using hu) c' λh' eo e' tp sz kk=>⟨_,rfl,wpAny_letOwnedTupleGo_enum eo λh2 i' a'=>?_⟩;have hp:=I.hok.fresh (o_ _);have d':=uk he;have k2:∀g o,g∉[e,Q]->j.heap.get? g=Z o->h2.get? g=Z o:=λg o hb f=>a'.extBut g o (λz=>hb (by simp[z])) (kk g o (λz=>hb (by simp[z])) (λz=>hb (by simp[z])) f);have I1:N X f' σ (å H j.heap.objs.size (.tup [.int i,x])) {j with heap:=h2,toks:=j.toks+1}:=by
   have nt:∀g u,H g=Z u->g∉[e,Q]:=λg u f z=>by
    rcases(by simpa using z)with rfl|rfl;·rw[f0]at f;cases f
    ·rw[g0]at f;cases f
   refine I.step (λg hb=>?_) (λg o _ _ P f _=>k2 g o P f) (λg o _ _ P f _=>⟨o.slots,k2 g o P f⟩) (λg o P f y=>?_) (λg o P f=>⟨o,k2 g o P f⟩) (λg ys f=>by rw[aq (aA f hp)];exact f) (λg o ys f=>by rw[aq (aA f hp)];exact f) (λg ps f=>⟨#[],by rw[aq (aA f hp),f];simp⟩) (λm hm=>?_) (λg u2 f=>?_) I.bare
   · have z':g=e\/g=Q:=by simpa using hb
     rcases z' with rfl|rfl;·exact⟨f3,f1,f4,f5⟩
     ·exact⟨g3,g1,g4,g5⟩
   ·rw[aq (D_ (uk f))];exact y
   ·obtain⟨o,k',ep,ho,r⟩:=hm;exact⟨o,k',ep,k2 _ o (λz=>by
      have z':X.env.locals=e\/X.env.locals=Q:=by simpa using z
      rcases z' with z'|z';·exact f1 z'.symm
      ·exact g1 z'.symm) ho,r⟩
   · by_cases hb:g=j.heap.objs.size;·subst hb;rw[ao]at f;cases f;exact⟨by show 2<=sizeLine;decide,_,.cons ⟨_,rfl⟩ (.cons ru .nil),⟨_,(a'.extBut _ _ (aaI d') tp),rfl,_,rfl⟩⟩
     · rw[aq hb]at f;refine(I.hok g u2 f).stay (λc v b' qq=>k2 c v ?_ qq) (λc qq=>by rw[aq (aA qq hp)];exact qq) λc ys qq=>by rw[aq (aA qq hp)];exact qq
       rcases b' with rfl|b';·exact nt _ _ f
       ·exact nt _ _ b'
  refine⟨.ref j.heap.objs.size,_,I1,rfl,⟨_,x,rfl,hp,rfl,λzs hy=>by rw[I.list_inj hy hq];exact hx⟩,⟨⟨_,by simpa using i'⟩,?_⟩,λg hb=>?_⟩;·exact e'.at λo f=>a'.extBut _ _ (YH c') f
  · have z':g=e\/g=Q:=by simpa using hb
    rcases z' with rfl|rfl;·rw[aq (D_ d')];exact f0
    ·obtain⟨o,f,_⟩:=id D;rw[aq (D_ (uk f))];exact g0
 done:=by intro X hP hw hK hc i f' j σ H E I hf st hg;subst hP hw hK;obtain⟨xs,hq,hx⟩:=hg;obtain⟨g',rv,w,hz⟩:=I.list hq;obtain⟨⟨A,he⟩,D⟩:=st;obtain⟨g0,g1,g2,g3,g4,g5⟩:=hf Q ∅;have hl:=rv.length;exact wpAny_pyNext_enum_end (I.ok.hd hc) he D w.isList (by simp;lia) λh' eb=>⟨rfl,I.turned (eb) g0 g1 g3 g4 g5⟩
 self:=λ_ _ _ _ _ st h=>by obtain⟨⟨A,he⟩,_⟩:=st;exact wpAny_pyIter_enum he h
def lL:Nat->W%0->W%0|_,[]=>[]|k,d::a=>.tup [.int k,d]::lL (k+1) a
def ju:∀(a:W%0)(k:Nat),(lL k a).length=a.length|[],_=>rfl|d::a,k=>by show(lL _ a).length+1=a.length+1;rw[ju]
def tq:∀(a:W%0)(k i:Nat)(d:W),a[i]?=Z d->(lL k a)[i]?=Z (.tup [.int ((k+i:Nat):Int),d])
 |[],_,_,_,h=>by simp at h|d::a,k,0,b,h=>by simp at h;subst h;rfl|d::a,k,i+1,b,h=>by
  show(W.tup _::lL _ a)[i+1]?=_;rw[acV,(tq a _ i b (by simpa using h))];have e:k+1+i=k+(i+1):=by lia
  rw[e]
def JG(h:g e=Z (.lst ζ))(r:S q g u ζ):WkG q (Ite q e) (lL 0 u) g where
 go:=λi k a f=>by
  rw[ju]at f;have m:i<ζ.length:=by rw[r.length];exact f
  exact⟨ζ,ζ[i],ā.of (a _ _ h),by simp[m]⟩
 stop:=λk a=>⟨ζ,ā.of (a _ _ h),by rw[r.length,ju];exact o_ _⟩;yld:=λi k v s a f y=>by obtain⟨p,x,rfl,j,rfl,y⟩:=y;obtain⟨d,o,n⟩:=S.get (S.mono a _ _ r) (y ζ (ā.of (a _ _ h)));have b:=tq u 0 i d o;rw[aaf]at b;exact⟨aG j _,_,b,⟨p,_,rfl,ao,⟨_,[x],rfl,rfl,x,[],rfl,Ü.mono (aG j _) _ _ n,rfl⟩⟩⟩
def Eo:W%0->Rs (W%0)%1|[.lst a]=>lL 0 a%3|_=>U
def Ep(hg:Gl a "enumerate")(hm:a.mg "enumerate"=U)(ha:FA a [h] μ)(hs:k_ [h] a.env=[(h_,eval h a.env)]:=by lk):Ň a (.Tuple s b k) (.Call (.Name "enumerate" w) [h] [] Λ) (λm=>à (μ m) Eo):=by
 constructor;intro f' d Q H R I f;obtain⟨m,E,o⟩:=f;have key:ô a H (μ m) λq z=>∃n,S a.K z n q/\ĺ a z (Eo n) R:=by match hf:μ m,o with|some (.exc c),o=>exact o|some (.ok n),o=>exactλq z e r=>⟨n,r,ĺ.mono e o⟩
 refine Call_ (jf I hg hm (show Yz "enumerate"=Z (.type "enumerate")by decide+kernel) (Yn (í (ha.h Λ f' d Q H _ I ⟨m,E,key⟩) λus s1⟨q,y,j,r1,n,r,p⟩=>?_) hs rfl));unfold Eo at p;split at p
 · obtain⟨v,rfl,rv⟩:=dL r;obtain⟨g,ws,rfl,P,h2⟩:=rv.lstE;obtain⟨u,rfl,ru⟩:=gK r1;cases ru;obtain⟨b',a',pl,hz⟩:=j.list (ā.of P);refine call_enumerate_list pl.isList λh' D A c' kk=>(wpAny_pyIter_enum D ?_);refine⟨_,_,_,_,y,rfl,(j.kept kk),Ap g _ _ (Nat.succ_ne_self _),⟨⟨_,D⟩,A⟩,λi hb=>?_,p _ y (.refl y) (JG P h2)⟩;rcases(by simpa using hb)with rfl|rfl;·exact j.fpOk (aaz _) (j.hok.fresh (aaz _))
   ·exact j.fpOk (o_ _) (j.hok.fresh (o_ _))
 ·exact p.elim
def Tl:Nat%0->V%0->L2.St->L2.St|i::is,v::b,a=>Tl is b (a.set i (Z v))|_,_,a=>a
def To:Nat%0->W%0->Ev->Ev|i::is,d::b,a=>To is b (a.set i (Z d))|_,_,a=>a
def MN(b:Nat%0):TGs:=λa d H Q=>a.length=b.length/\Q (Tl b a d) H
def wR{t f:TGs}(h:ū a s t)(w:∀e d H Q,f e d H Q->t e d H Q):ū a s f:=λi b d H e g Q I r q=>h i b d H e g Q I r (w e d H Q q)
def Oe:ū a [] (MN []):=wR zD λb d H Q⟨l,q⟩=>by cases b with|nil=>exact⟨rfl,q⟩|cons v r=>cases l
def JH(i:Nat){x:Str}{d:Nat%0}{b:s_%0}(n:a.N.Nodup)(j:a.N[i]?=Z x)(f:ŋ a.env.scope x)(m:a.fn x=L\/a.env.scope.names.lookup x=Z .local)(h:ū a b (MN d))(g:(XH (.Name x k::b) a.env).map (·.2)=ķ (.Name x k) a.env::(XH b a.env).map (·.2):=by lk):ū a (.Name x k::b) (MN (i::d)):=wR (qI (gZ n j f m) h g) λe o H Q⟨l,q⟩=>by cases e with|nil=>cases l|cons v r=>exact⟨v,r,rfl,(⟨Nat.succ.inj l,q⟩)⟩
def â.setAll{K:d_}{H:Hp}:∀(is:Nat%0){b:W%0}{a:V%0}{e:L2.St}{f:Ev},â K H e f->S K H b a->â K H (Tl is a e) (To is b f)|[],_,_,_,_,E,_=>E|_::_,[],a,_,_,E,r=>by cases((r));exact E|i::is,d::b,a,e,f,E,r=>by obtain⟨v,g,rfl,h,t⟩:∃v g,a=v::g/\Ü K H d v/\S K H b g:=r;exact â.setAll is (E.set h) t
def WQ(a:Nat%0)(d:Ev):W->Fl%1|.tup b=>if b.length=a.length then Z (.nx (To a b d))else U|_=>U
def Of(b:Nat%0)(f:Û):á:=λa=>c9 (f a) (WQ b a)
def Og{g:Nat%0}(hc:a.calm=L)(e:ū a s (MN g))(he:FE a h z)(hn:(XH s a.env).length=g.length:=by lk)(q:(XH s a.env).findIdx? (·.1)=U:=by lk)(Q:ad6 [.Tuple s b w] h k.line a.env=pure h_:=by lk)(P:ad7 [.Tuple s b w] h a.env=pure U:=by lk)(n:(XH [.Tuple s b w] a.env).map (·.2)=[ķ (.Tuple s b w) a.env]:=by lk):FS a (.Assign [.Tuple s b w] h k) (Of g z):=vg (Hd he.h (Hc hc e hn q) Q P n) λD σ H A E o=>⟨A,E,õ.bindS o λd v p h r u=>by cases d with
 |tup y=>
 have i:ÿ a p (if y.length=g.length then Z _ else U) D:=u;by_cases j:y.length=g.length;·rw[if_pos j]at i;obtain⟨f,I,rfl,n,m⟩:=r.tupE;exact⟨f,I,rfl,û.of n,m.length.trans j,m.length.trans j,i _ p (.refl p) (â.setAll g (E.mono h) m)⟩
 ·rw[if_neg j]at i;exact i.elim|_=>exact u.elim⟩
def ax{b:á}{a:Ev}(h:Ψ ε=Z (.nx a)):aM Ψ b ε=b a:=by unfold aM;rw[h];rfl
def nM{b:á}(h:Ψ ε=Z (.rt m)):aM Ψ b ε=Z (.rt m):=by unfold aM;rw[h];rfl
def cD(h:Ξ ε=h_%3):bg Ξ Ψ (λε=>Z (.nx ε)) ε=Z (.nx ε):=by unfold bg;rw[h];rfl
def bY{a:Ev}(h:z ε=m%3)(e:ε.set b (Z m)=a):cO b z ε=Z (.nx a):=by unfold cO;rw[h,<-e];rfl
def mR(h:z ε=m%3):eC z ε=Z (.nx ε):=by unfold eC;rw[h];rfl
def dO(h:z ε=m%3):aL z ε=Z (.rt m):=by unfold aL;rw[h];rfl
def Hx{b:ñ}(h:Ξ ε=L%3):mC Ξ b ε=b ε:=by unfold mC;rw[h];rfl
def Aq{b:ñ}(h:Ξ ε=h_%3):mC Ξ b ε=h_%3:=by unfold mC;rw[h];rfl
def lN(h:Ξ ε=H%3):cC Ξ ε=(!H)%3:=by unfold cC;rw[h];rfl
def bf(h:z ε=.bl H%3):fB z ε=H%3:=by unfold fB;rw[h];rfl
def bq{g:W->W->Rs W%1}(b:z ε=m%3)(a:Ñ ε=π%3):R g z Ñ ε=g m π:=by unfold R;rw[b,a];rfl
def ac(h:z ε=m%3)(t:μ ε=u%3):aP z μ ε=(m::u)%3:=by unfold aP;rw[h,t];rfl
def ak:dg ε=Z (.ok []):=rfl
def mS(h:μ ε=u%3)(a:u.length=b)(d:Â u=m%3):ae Â b μ ε=m%3:=by unfold ae;rw[h];show(if _ then _ else _)=_;rw[if_pos a,d]
def dJ(F:Þ){f:Û}{b:Ev}{a d:W}(h:f b=a%3)(e:F [a]=d%3):ae F 1 (aP f dg) b=d%3:=mS (ac h ak) rfl e
def dk(F:Þ){f g:Û}{e:Ev}{a b d:W}(h:f e=a%3)(j:g e=b%3)(i:F [a,b]=d%3):ae F 2 (aP f (aP g dg)) e=d%3:=mS (ac h (ac j ak)) rfl i
def Ar(h:μ ε=u%3)(a:u.length<=100000):ii μ ε=.tup u%3:=by unfold ii;rw[h];show(if _ then _ else _)=_;rw[if_pos a]
def Oh(h:z ε=.bl h_%3):İ z Ñ ε=Ñ ε:=by unfold İ;rw[h];rfl
def Oi(h:z ε=.bl L%3):İ z Ñ ε=.bl L%3:=by unfold İ;rw[h];rfl
def Oj(h:z ε=.bl L%3):lB z Ñ ε=Ñ ε:=by unfold lB;rw[h];rfl
def cg(h:μ ε=u%3):ì Â μ ε=Â u:=by unfold ì;rw[h];rfl
def Tp(h:Ξ ε=L%3):Ő Ξ z Ñ ε=z ε:=by unfold Ő;rw[h];rfl
def Tq(h:Ξ ε=h_%3):Ő Ξ z Ñ ε=Ñ ε:=by unfold Ő;rw[h];rfl
def As(h:μ ε=u%3)(a:u.length<=100000):jk μ ε=.lst u%3:=by unfold jk;rw[h];show(if _ then _ else _)=_;rw[if_pos a]
def io(h:Ψ (u.map Z++XF (b-u.length) U)=Z (.rt m)):bL b Ψ u=m%3:=by unfold bL;rw[h]
structure Aft(X:C)(e:O)(Ts:O%0)(h h':O_):Prop where
 keep:∀b o,h.get? b=Z o->b≠e->b∉Ts->b∉frs X.stack->h'.get? b=Z o
 slot:∀b o,h.get? b=Z o->b∈frs X.stack->∃sl,h'.get? b=Z {o with slots:=sl}
def Aft.any{h:O_}(A:Aft a e η h I){b:O}{o:Obj}(q:h.get? b=Z o)(i:b≠e)(g:b∉η):∃f,I.get? b=Z {o with slots:=f}:=by
 by_cases d:b∈frs a.stack;·exact A.slot b o q d
 ·exact⟨o.slots,A.keep b o q i g d⟩
def N.aft(h:N a δ Θ g f)(A:Aft a e η f.heap I)(b':a.ex=[])(H:∀b,b=e\/b∈η->g b=U/\a.s₀.heap.get? b=U/\(∀p∈a.pn++δ,p.1≠b)/\∃o E,f.heap.get? b=Z o/\o.data=.fields E):N a δ Θ g {f with heap:=I}:=by
 have nE:∀b,g b≠U->b≠e/\b∉η:=λb s=>⟨λz=>s (H b (.inl z)).1,λz=>s (H b (.inr z)).1⟩;have n0:∀b o,a.s₀.heap.get? b=Z o->b≠e/\b∉η:=λb o s=>⟨λz=>(by simp:(Z o)≠U) (s.symm.trans (H b (.inl z)).2.1),λz=>(by simp:(Z o)≠U) (s.symm.trans (H b (.inr z)).2.1)⟩;have nD:∀b o,f.heap.get? b=Z o->(∀E,o.data≠.fields E)->b≠e/\b∉η:=λb o s hd=>
  have go:(b=e\/b∈η)->False:=λz=>by obtain⟨o',E,q,d⟩:=(H b z).2.2.2;rw[s]at q;cases q;exact hd E d
  ⟨λz=>go (.inl z),λz=>go (.inr z)⟩;have w:∀c v,f.heap.IsCell c v->I.IsCell c v:=λc v⟨o,Q,hd⟩=>by
  obtain⟨D,y⟩:=nD c o Q λE q=>by lia
  obtain⟨sl,q⟩:=A.any Q D y;exact⟨_,q,hd⟩
 refine⟨h.ok,h.os,h.bare,⟨λb o q n s P=>?_,λb o q n s P=>?_,h.base.free,λb o q P=>?_,h.base.tups,h.base.frzs,h.base.tbls⟩,?_,λx c q=>?_,h.free,h.freeC,λp hp=>?_,λj o q=>?_,h.len⟩
 · obtain⟨D,y⟩:=n0 b o q;refine A.keep b o (h.base.keep b o q n s P) D y λz=>?_;rcases p_.mp (h.stkSub b z)with z|z;·exact absurd z (D_ (Q_ (uk q) h.ok.above))
   ·exact s z
 ·obtain⟨sl,h1⟩:=h.base.slot b o q n s P;obtain⟨D,y⟩:=n0 b o q;obtain⟨a',h2⟩:=A.any h1 D y;exact⟨a',h2⟩
 ·obtain⟨o',h1⟩:=h.base.there b o q P;obtain⟨D,y⟩:=n0 b o q;obtain⟨sl,h2⟩:=A.any h1 D y;exact⟨_,h2⟩
 · obtain⟨m,⟨o,es,ep,Q,hd,r⟩,hl⟩:=h.loc;obtain⟨D,y⟩:=nD _ o Q λE q=>by lia
   obtain⟨sl,q⟩:=A.any Q D y;refine⟨m,⟨_,es,ep,q,hd,r⟩,λi x v e1 e2 e3=>?_⟩;obtain⟨u,ru,l⟩:=hl i x v e1 e2 e3;refine⟨u,ru,?_⟩;rcases l with l|⟨k,c,ec,z⟩;·exact .inl l
   ·exact .inr ⟨k,c,ec,w c _ z⟩
 ·obtain⟨v,z⟩:=h.cell x c q;exact⟨v,w c v z⟩
 · obtain⟨q,n,ne,nf,d⟩:=h.pin p hp;refine⟨A.keep p.1 p.2 q ((H e (.inl rfl)).2.2.1 p hp) (λz=>(H p.1 (.inr z)).2.2.1 p hp rfl) λz=>?_,n,ne,nf,d⟩;rcases p_.mp (h.stkSub _ z)with z|z;·exact ne z
   ·exact nf z
 · refine(h.hok j o q).stay (λb u s hu=>?_) (λ_ z=>z) λ_ _ z=>z;have hn:g b≠U:=by lia
   exact A.keep b u hu (nE b hn).1 (nE b hn).2 λz=>hn (h.stkFree b z)
abbrev rw(X:C)(e:O)(a:O%0)(h:O_):O_:=ae1 h (e::(a++frs X.stack))
def wS(h:N a δ Θ g f)(k:(rw a e η f.heap).StaysIn I)(u:∀b o,f.heap.get? b=Z o->(∀j,o.data≠.fields j)->∃m,I.get? b=Z {o with slots:=m}):Aft a e η f.heap I:=⟨λb o q r p n=>k b o (abQ _ q (by simp![p_,XD];rintro(z|z|z);exact r z;exact p z;exact n z)),λb o q s=>by obtain⟨_,v,i,d⟩:=h.stack.mem s;rw[q]at i;cases i;exact u b o q d⟩
def qR(I:N a δ Θ g f):f.heap.FunFrames (rw a e η f.heap) a.stack:=PySem.W.funFrames_hide I.stack λh i b d=>pi _ (q_ _ (acf.mpr ⟨h,i,d⟩))
def Fly.imp{N d:O->Prop}(F:Fly N g e ω I)(k:∀a,N a->d a):Fly d g e ω I:=by
 obtain⟨y,w,u,f,z,s,r,q,p,b⟩:=F;refine⟨y,k _ w,u,f,z,s,r,q,p,?_⟩;rcases b with b|⟨T,v,h,o,n,m,j,i⟩;·exact .inl b
 ·exact .inr ⟨T,v,h,o,n,m,k _ j,i⟩
def Hy(b:N a δ Θ g f)(r:a.ex=[])(he:g e=U/\a.s₀.heap.get? e=U)(Q:∀T∈η,g T=U/\a.s₀.heap.get? T=U)(ff:I.FunFrames (rw a e η f.heap) a.stack){T:O}{v:Obj}{s:Array B}(E:(rw a e η f.heap).get? T=U)(D:T≠e)(H:I.get? T=Z v)(P:v.data=.fields s):g T=U/\a.s₀.heap.get? T=U:=by
 have A:T∉frs a.stack:=λz=>by obtain⟨_,o,q,d⟩:=ff.mem z;rw[H]at q;cases q;exact d s P
 have m:T∈η\/f.heap.get? T=U:=by cases q:f.heap.get? T with|none=>exact .inr rfl|some o=>
   by_cases k:T∈η;·exact .inl k
   ·have:=abQ (e::(η++frs a.stack)) q (by simp![p_,XD];rintro(z|z|z);exact D z;exact k z;exact A z);rw[E]at this;cases this
 rcases m with k|k;·exact Q T k
 · constructor;·cases q:g T with|none=>rfl|some u=>
    have j:=b.hok T u q;exfalso;have:∃o,f.heap.get? T=Z o:=by clear q;induction u with|lst w=>obtain⟨_,_,_,_,z⟩:=j;exact⟨_,z⟩|tup w=>obtain⟨_,_,_,o,z,_⟩:=j;exact⟨_,z⟩|dK p=>obtain⟨_,_,_,_,o,_,_,z,_⟩:=j;exact⟨_,z⟩|dT p=>obtain⟨_,_,_,_,o,_,_,z,_⟩:=j;exact⟨_,z⟩|set S n=>obtain⟨o,_,_,_,z,_⟩:=j;exact⟨_,z⟩|ins i dx fs=>obtain⟨_,_,_,z,_⟩:=j;exact⟨_,z⟩|own y=>obtain⟨_,z⟩:=j;exact⟨_,z⟩|xd fs=>obtain⟨_,⟨_,_,_,z,_⟩,_⟩:=j;exact⟨_,z⟩|rng lo hi=>obtain⟨_,_,_,z⟩:=j;exact⟨_,z⟩|frz ob u ih=>obtain⟨z,_⟩:=j;exact⟨_,z⟩|tbl ps=>obtain⟨_,z,_⟩:=j;exact⟨_,z⟩|met h y=>exact⟨_,((j))⟩|ext φ=>obtain⟨_,⟨_,z⟩,_⟩:=j;exact⟨_,z⟩
    obtain⟨o,z⟩:=this;rw[k]at z;cases z
   ·cases q:a.s₀.heap.get? T with|none=>rfl|some o=>obtain⟨o',z⟩:=b.base.there T o q (by rw[r];simp);rw[k]at z;cases z
def tu(I:N a δ Θ g f)(A:a.ex=[])(h:a.stack=a.env::a.outer)(y:a.env.frame=Z a.env.locals)(F:Fly (λd=>a.s₀.heap.get? d=U) g e ω f.heap){Q:Unit->ge->Prop}{E:B->ge->Prop}(k:∀j Ts,Fly (λd=>a.s₀.heap.get? d=U) g e ω j->Aft a e Ts f.heap j->(∀b,b=e\/b∈Ts->g b=U/\a.s₀.heap.get? b=U/\∃o q,f.heap.get? b=Z o/\o.data=.fields q)->Q Unit.unit {f with heap:=j}):xy (B_ a.prog a.w) a.A (leaving a.env (.ref e)) Q E f:=by
 obtain⟨f1,R,oe,q,a0,P,q2,H,q4,q5⟩:=F;have w:=h▸I.ok.frames;subst q2;rcases q5 with q5|⟨T,oT,D,r1,r2,r3,r4,r5,r6,r7⟩
 · refine wpAny_leaving_firstW (base:=rw a e [] f.heap) w (h▸qR I) y P (λb o z=>aab _ z) (Y2 _ (on ..)) H q5 q4 λj hL=>?_;obtain⟨k1,k2,⟨p,m,T,oT,D,t1,⟨t2,t3⟩,t4,t5,t6,u,s,r,n⟩,k4⟩:=hL;have c':=h▸k2;have v:=Hy I A ⟨f1,R⟩ (λ_ z=>absurd z ∅) c' t6 u s r;refine k j [] ⟨f1,R,p,m,a0,t1,t2,t4,t3,.inr ⟨T,oT,D,t5,u,v.1,v.2,s,r,n⟩⟩ (wS I k1 k4) λb i=>?_;rcases i with rfl|i;·exact⟨f1,R,oe,q,P,H⟩
   ·cases i
 · refine wpAny_leaving_nextW (base:=rw a e [T] f.heap) w (h▸qR I) y (⟨oe,q,T,oT,D,P,⟨rfl,q4⟩,H,r1,Y2 _ ∅,r2,r5,r6,r7⟩) (λb o z=>aab _ z) (Y2 _ (on ..)) λj hL=>?_;obtain⟨k1,k2,⟨p,m,T',b',a',t1,⟨t2,t3⟩,t4,t5,t6,u,s,r,n⟩,k4⟩:=hL;have v:=Hy I A ⟨f1,R⟩ (λT0 z=>by simp at z;subst z;exact⟨r3,r4⟩) (h▸k2) t6 u s r;refine k j [T] ⟨f1,R,p,m,a0,t1,t2,t4,t3,.inr ⟨T',b',a',t5,u,v.1,v.2,s,r,n⟩⟩ (wS I k1 k4) λb i=>?_;rcases i with rfl|i;·exact⟨f1,R,oe,q,P,H⟩
   ·simp at i;subst i;exact⟨r3,r4,oT,D,r5,r6⟩
def Ļ(P:m_)(w:v_):ŉ:=λb H s E h d=>∃e f g,h=.ref e/\d.os=s.os/\X' d.gens/\Un (frs b) [] H g s.heap d.heap/\č P w g d.heap/\Fly (λa=>s.heap.get? a=U) g e f d.heap/\E f U g
def spE(K:d_)(F:Þ)(n:Nat):Sp:=λe H Q E=>∃b,S K H b e/\b.length=n/\match F b with|some (.ok d)=>∀v a,Õ H a->Ü K a d v->Q v a|some (.exc c)=>∀C a,X6 K E_ (Į c)=Z (Z (.ref C))->Õ H a->E (.ref C) U a|none=>False
def EX(X:C):XK:=λb _ d=>∃c a,b=.ref a/\X6 X.K E_ (Į c)=Z (Z (.ref a))/\XW X c d
def yx(i:a.ex=[]):kK (Ļ a.prog a.w) a (EX a):=by
 intro w m H s y n I⟨e,D,A,v,os,g,un,h,F,c,f,j,hC,r⟩;refine r w m A n y (λ_ _ z=>z) (I.call' os un h g λb z=>absurd z ∅) ⟨e,f,v,hC,j▸F.imp λd k=>⟨?_,λp u z=>?_⟩⟩;·cases q:a.s₀.heap.get? d with|none=>rfl|some o=>obtain⟨E,z⟩:=I.base.there d o q (by rw[i];simp);rw[k]at z;cases z
 ·have:=(I.pin p (R_ _ u)).1;rw[z,k]at this;cases this
def ay(F:Þ)(n:Nat)(g:ê):Û:=λb=>à (g b) λa=>if a.length=n then F a else U
def RW(P:m_)(w:v_)(K:d_)(d:Str->B%1)(a:O_)(x:Str)(k:Nat)(b:Str%0)(F:Þ):Prop:=∃f e,ö P w K d a (Ļ P w) k f e b (spE K F b.length)/\d x=Z (.ref f)/\Yv K (.ref f)=L/\ø K e b []
def Er(e:Nat)(p:Str%0)(F:Þ)(i:RW a.prog a.w a.K a.mg a.base d e p F)(P:ã o a.A)(hk:e<=o)(z:a.ex=[])(hg:Gl a d)(ha:FA a (h::s) μ)(hn:b=p.length:=by lk)(A:(d==("__debug__":Str))=h_:=by lk)(he:h%8:=by lk)(v:(Xv w (k_ s a.env)).any (·.1)=h_:=by lk):FE a (.Call (.Name d k) (h::s) [] w) (ay F b μ):=by
 subst hn;obtain⟨f,fd,G,hm,y,hb⟩:=i;refine dI (nF (G.mono hk) P hg hm y hb .nil (yx z) ha.h A he v) λσ H Q D E g=>⟨D,E,ô.bind g λu vs H' h I n=>?_⟩;rw[Y1];by_cases q:u.length=p.length
 ·rw[if_pos q]at n;refine⟨u,I,q,?_⟩;match r:F u with|none=>rw[r]at n;exact n.elim|some (.ok m)=>rw[r]at n;exact n|some (.exc c)=>rw[r]at n;exactλj H1 hC e1=>⟨c,j,rfl,hC,XW.mono n e1⟩
 ·rw[if_neg q]at n;exact n.elim
def gJ(m:Nat)(b:á):Þ:=λa=>match b (a.map Z++XF (m-a.length) U)with|some (.nx _)=>.non%3|some (.rt d)=>d%3|some (.exc c)=>c%9|none=>U
def Tr{r:Env%0}{k:XK}(m:∀C s,X6 q E_ (Į b)=Z (Z (.ref C))->Õ g s->k (.ref C) U s):XW (qK (Ļ p n) p n q Ζ I E d ι e ω D r f g k) b g:=by intro f' σ s s1 ev H h⟨o,C,z,hC,F⟩;subst z;refine tu h rfl rfl rfl (F.imp λa A=>A.1) λh' Ts P Q v=>?_;have y:=N.aft (h.pins_of (pins':=[]) λj u=>nomatch u) Q rfl λi w=>⟨(v i w).1,(v i w).2.1,λj u=>absurd (show j∈([])from u) ∅,(v i w).2.2⟩;exact⟨o,_,s,rfl,h.os,h.bare,y.base,y.hok,P,m C s hC H⟩
def Hz(N u:Str%0)(v:á)(hF:Â=gJ N.length v)(hn:o=u.length)(Fn:Ń q d r Γ e Ç)(S:iL N u (au Γ))(hb:∀(k:B)(A:x_)(j:Env%0)(s:ge)(H:Hp)(E:XK),ã b (A.deeper (ĸ r (au Γ) s.heap.objs.size e k))->Ĩ (qK (Ļ p n) p n q Ζ I N r (au Γ) e k A j s H E) (bS Γ) v):ö p n q Ζ I (Ļ p n) (b+1) e Ç u (spE q Â o):=by
 subst hF hn;obtain⟨oc,od,kV,c',pm,an,k,ct,b',rfl,D,w⟩:=Fn.ex;refine DV D w S (λz H Q E h=>?_) λA j s H z Q E P h=>?_;·obtain⟨ds,f,y,_⟩:=h;rw[f.length,y]
 ·obtain⟨ds,f,y,a⟩:=h;refine⟨_,(hb k A j s H E P).h,_,pI f,?_⟩;unfold gJ at a;match m:v _ with|none=>rw[m]at a;exact a.elim|some (.exc c)=>rw[m]at a;exact Tr a|some (.rt i)=>rw[m]at a;exact a|some (.nx ρ)=>rw[m]at a;exactλa' H' g _=>a _ H' g rfl
def qS(i:č p n g I){a:O}{u:HO}(q:g a=Z u):∃o,I.get? a=Z o:=by have d:=i a u q;clear q;induction u with|lst h=>obtain⟨_,_,_,_,z⟩:=d;exact⟨_,z⟩|tup h=>obtain⟨_,_,_,o,z,_⟩:=d;exact⟨_,z⟩|dK e=>obtain⟨_,_,_,_,o,_,_,z,_⟩:=d;exact⟨_,z⟩|dT e=>obtain⟨_,_,_,_,o,_,_,z,_⟩:=d;exact⟨_,z⟩|set S b=>obtain⟨o,_,_,_,z,_⟩:=d;exact⟨_,z⟩|ins C v fs=>obtain⟨_,_,_,z,_⟩:=d;exact⟨_,z⟩|own y=>obtain⟨_,z⟩:=d;exact⟨_,z⟩|xd fs=>obtain⟨_,⟨_,_,_,z,_⟩,_⟩:=d;exact⟨_,z⟩|rng lo s=>obtain⟨_,_,_,z⟩:=d;exact⟨_,z⟩|frz m u r=>obtain⟨z,_⟩:=d;exact⟨_,z⟩|tbl k=>obtain⟨_,z,_⟩:=d;exact⟨_,z⟩|met f y=>exact⟨_,((d))⟩|ext j=>obtain⟨_,⟨_,z⟩,_⟩:=d;exact⟨_,z⟩
def Au(d:č p n g I){a:O}(b:I.get? a=U):g a=U:=by cases q:g a with|none=>rfl|some u=>obtain⟨o,z⟩:=qS d q;rw[b]at z;cases z
def Av{b:String}(X:q.In I)(s:Ζ d=Z (.ref e))(a:ad_ q e P b=L):OwnCls d e P b Ζ I:=by
 constructor;·exact s
 unfold ad_ at a;split at a
 · rename_i dd cd k look;split at a;·rename_i C2 rest r p o n a' m h D;simp![n_,beq_iff_eq,aar]at a;have Q:=a.1.1.1.1.1;have H:=a.1.1.1.1.2;have j:=a.1.1.1.2;have E:=a.1.1.2;have f:=a.1.2;have i:=a.2;clear a;subst Q H;obtain⟨f1,R,f3,A,z,y,w,v,u,g,b'⟩:=cd;dsimp only at h j f i;subst h j;obtain⟨l⟩:=k;subst D;exact⟨rest,A,f1,z,R,y,w,v,u,g,dd,r,p,o,n,m,_,X _ _ look,.of_isNs (PySem.W.isNs_of_in X f),(PySem.W.nsMap_none_of_in X f i),PySem.W.tail_of_in X E⟩
   ·cases a
 ·cases a
abbrev ů:B%0:=[.type "ValueError",.type "Exception",.type "BaseException",.type "object"]
structure XC(K:d_)(c:Nat)(C:O):Prop where nm:X6 K E_ (Į c)=Z (Z (.ref C))ex:ad_ K C ů "ValueError.__new__"=L
def dP(c:Nat)(f:Û):á:=λa=>c9 (f a) λ_=>c%9
def Es(c:Nat)(K:XC a.K c e)(hx:Į c=d)(hm:a.mg d=Z (.ref e))(P:a.ex=[])(hc:a.calm=L)(hg:Gl a d)(ha:FE a h z)(y:k_ [h] a.env=(h_,eval h a.env)::k_ [] a.env:=by lk)(Q:(d==("__debug__":Str))=h_:=by lk):FS a (.Raise (Z (.Call (.Name d k) [h] [] w)) U Λ) (dP c z):=by
 constructor;intro f' s σ H D I⟨ρ,E,o⟩;obtain⟨tl,N,nm,q,bs,j,sn,sub,ab,a',dd,k0,k1,k2,k3,k5,mN,hC,hN,A,T⟩:=(Av I.ok.mod.kin hm K.ex).obj;refine wpAny_Raise_call_subT (nm:=nm) (q:=q) (N:=N) (bs:=bs) (hdct:=j) (sn:=sn) (sub:=sub) (ab:=ab) (col:=a') (dd:=dd) (k0:=k0) (k1:=k1) (k2:=k2) (k3:=k3) (k5:=k5) aaw (T.hasType aaw.hasBase) (I.ok.hd hc) (by rw[y];rfl) A (lG I hg hm ⟨rfl,?_⟩ Q);have m:=(vi ha z7 y).h w f' s σ H (λu n=>u.length=1/\XW a c n) I ⟨ρ,E,?_⟩
 · rw[y]at m⊢;refine abF (í m λus s2⟨u,n,i,rv,hl,hw⟩=>⟨rfl,?_,i.bk _ _ hC,hN.keeps i.bk,T.keeps i.bk,λh' f me=>?_⟩);·rw[<-rv.length,hl];decide
   · obtain⟨t,t1,t2,t3⟩:=me.there;refine hw f' σ n _ _ (λ_ _ b=>b) (i.kept me.keeps) ⟨f,e,rfl,K.nm,Au i.hok me.new,⟨?_,λp m b=>?_⟩,_,_,.ref t,t1,rfl,rfl,rfl,.inl rfl⟩;·cases b:a.s₀.heap.get? f with|none=>rfl|some o2=>obtain⟨o3,z3⟩:=i.base.there f o2 b (by rw[P];simp);rw[me.new]at z3;cases z3
     ·have z2:=(i.pin p (R_ _ m)).1;rw[b,me.new]at z2;cases z2
 ·unfold aP;unfold dP at o;match v:z ρ with|none=>rw[v]at o;exact o.elim|some (.exc c2)=>rw[v]at o;exact o|some (.ok g)=>rw[v]at o;exactλu n e1 r=>⟨r.length,XW.mono o e1⟩
open PySem.W Builtin.Getset_descriptor
def Aw:plainId "BaseException.__getattribute__"=L:=by decide+kernel
structure XI(K:d_)(C:O):Prop where
 ga:findIn K (.ref C) "__getattribute__"=Z (Z (.builtin "BaseException.__getattribute__"))gt:findIn K (.ref C) "__getattr__"=Z U
 cl:findIn K (.ref C) "__class__"=Z (Z (.builtin "object.__class__"))sp:specialIn K (.builtin "object.__class__") "__get__"=Z (Z (.builtin "getset_descriptor.__get__"))tk:takesIn K (.builtin "object.__class__")=Z L
 ob:mroIn K C (.type "object")=Z L
 be:mroIn K C (.type "BaseException")=Z L
def Ol(a:f.heap.get? e=Z Ä)(b:Ä.cls=.ref A){M:Z2}:Looks M f.heap (aeF (.ref e)) (.ref A):=b▸(Looks.ld a).andThen .now
def Et(X:q.In f.heap)(k:XI q A){M:Z2}:Looks M f.heap (afx (.ref e) (.ref A) "__class__") (.bind (.builtin "getset_descriptor.__get__") (.builtin "object.__class__")):=by intro g i d a b h;refine c_ ((looks_findIn X k.cl) g _ d a b (c_ ((looks_specialIn X k.sp) g _ d a b (c_ ?_))));refine c_ ((looks_takesIn X k.tk) g _ d a b ?_);exact i_ (c_ (Zw (i_ h)))
def Om{R:aeL->ge->Prop}(X:q.In f.heap)(a:f.heap.get? e=Z Ä)(d:Ä.cls=.ref A)(b:mroIn q A (.type "object")=Z L)(h:R (.ok (.ret (.ref A))) f):ŭ (B_ p n) D (.call (.builtin "getset_descriptor.__get__") ⟨[.builtin "object.__class__",.ref e,ω],[]⟩) R f:=by
 have m:=Ol (M:=B_ p n) a d;have k:=looks_mroIn (M:=B_ p n) X b;obtain⟨i,g,j,t,os⟩:=f;refine abC KF.slot_gs.plain KF.entry_gs (KF.slot_gs.check _ _ _ _ _ _ _ _ KF.type_class (KF.args_gs _ _ _) ?_);unfold Zd.«getset_descriptor.__get__»descrGet;rw[dga_obj];refine c_ (i_ ?_);unfold descrGetter descrCheckInstance descrNameAndClass isInstance;simp![KF.owner_class];repeat lk
 refine⟨aee _ (by decide+kernel),ZG KF.entry_class ?_⟩;repeat lk
 exact h
def Ax{Q:B%1->ge->Prop}(X:q.In f.heap)(b:f.heap.get? e=Z Ä)(i:Ä.cls=.ref A)(k:XI q A)(h:Q (Z (.ref A)) {f with toks:=f.toks+1}):xy (B_ p n) D (getAttr? (.ref e) "__class__") Q ν f:=by
 have m:=Ol (M:=B_ p n) b i;obtain⟨j,g,d,t,os⟩:=f;refine c_ (wpAny_mkText (c_ (YZ (XY (c_ (m.at (c_ ((looks_findIn X k.ga).at ?_))))))));dsimp!;refine c_ ((looks_findIn X k.gt).at (c_ (YZ (XY (c_ (i_ (ab3 (abC Aw F.entry_bexc_ga ?_))))))));have r:Looks _ j (isInstance _ _) L:=m.andThen (looks_mroIn X k.be);refine c_ (r.at ?_);have o:j.get? e=Z Ä/\True:=⟨b,trivial⟩;clear b;repeat(any_goals(first|assumption|wp_step))
 have a:=o.1;refine acm a (i_ ?_);rw[i];exact c_ ((Et X k).at (c_ (XY (ab3 (Om X a i k.ob (i_ (i_ (i_ h))))))))
def wT(h:mroIn q e ω=Z H):∃b,clsIn q e=Z b:=by unfold mroIn at h;cases a:clsIn q e with|none=>rw[a]at h;cases h|some b=>exact⟨b,rfl⟩
def Eu(k:XI q A)(d:Ä.cls=.ref A):KitX q (.ref e) (.ref A) (λh=>h.get? e=Z Ä)where
 ty:=λM h _ a=>d▸(Looks.ld a).andThen .now;it:=λ_ _ X _=>by
  obtain⟨m,d⟩:=wT k.ob;unfold clsIn at d;split at d;·rename_i look;intro w u v r j i;exact c_ (wpAny_loadPart (j _ _ (X _ _ look)) (i_ i))
  ·cases d
 ne:=λh g s o n p X f=>by obtain⟨m,d⟩:=wT k.ob;cases z:(U_ A==U_ g)with|false=>rfl|true=>
  have b:=Value.ref.inj (beq_iff_eq.mp z);subst b;unfold clsIn at d;split at d;·rename_i look;cases(X _ _ look).symm.trans f
  ·cases d
 ca:=λX a z=>Ax X a d k z
def isX(a:Nat->Bool%1):W->Rs W%1
 |.exn c=>match a c with|some b=>.bl b%3|none=>U
 |_=>U
def XT(K:d_)(a:Nat->Bool%1)(T:B):Prop:=∀c b,a c=Z b->∀C,nsIn K E_ (Į c)=Z (Z (.ref C))->XI K C/\kitOne K (.ref C) T=Z b
def Ew(p:∀u,ß υ u->u=ω){g:Nat->Bool%1}(k:XT a.K g ω):lH a (.builtin "isinstance") (λf H Q=>∃v c b,f=[v,υ]/\Ü a.K H (.exn c) v/\g c=Z b/\Q (.bl b) H):=by intro f' s σ H f us Q I r h;obtain⟨v,c,b,rfl,n,E,q⟩:=h;obtain⟨d,o,u,e,rfl,P,D,A⟩:=n.exnE;obtain⟨u1,j,rfl,y,w⟩:=IM r;cases((y));cases(p j w);obtain⟨i,z⟩:=k c b E e A;exact kia_one (Eu i D) I.kIn ((I.hok d _ P).1) z ∅ λm=>⟨.bl b,H,I.tok m,rfl,q⟩
def On{T:String}{i:Nat->Bool%1}(f:XT a.K i (.type T))(hT:Yz (b_ T)=Z (.type T))(P:b_ T≠"__name__")(A:(b_ T==("__debug__":Str))=h_)(hg:Gl a "isinstance")(hm:a.mg "isinstance"=U)(y:Gl a (b_ T))(s:a.mg (b_ T)=U)(ha:FE a h z)(g:k_ [h,.Name (b_ T) Λ] a.env=(h_,eval h a.env)::k_ [.Name (b_ T) Λ] a.env:=by lk)(n:k_ [.Name (b_ T) Λ] a.env=(h_,eval (.Name (b_ T) Λ) a.env)::k_ [] a.env:=by lk)(p:(Xv w (k_ [.Name (b_ T) Λ] a.env)).any (·.1)=h_:=by lk):FE a (.Call (.Name "isinstance" k) [h,.Name (b_ T) Λ] [] w) (f1 (isX i) z):=dI (iM (Ew (υ:=.ty T) (λu e=>e) f) hg hm abM (jp ha.h (jp (zy (υ:=.ty T) y s hT rfl P A) sE n) g) #v[] #v[] g p) λσ H Q I E o=>⟨I,E,õ.bind o λd v m e1 r D=>by show∃v2 c b,[v,V.ty T]=[v2,V.ty T]/\_;cases d with
 |exn c=>have j:õ a m (match i c with|some b=>Z _|none=>U) Q:=D;cases q:i c with|none=>rw[q]at j;exact j.elim|some b=>rw[q]at j;exact⟨v,c,b,rfl,r,q,j _ m (.refl m) rfl⟩
 |_=>exact D.elim⟩
def Ay{Q:Unit->ge->Prop}(I:N a δ Θ g f)(hN:a.N.Nodup)(hi:a.N[b]?=Z d)(hk:a.env.scope.names.lookup d=Z .local)(hv:Θ[b]?=Z (Z υ))(h:∀s',N a δ (Θ.set b U) g s'->Q Unit.unit s'):xy Ì D (unbindBehindTheSuite a.env d k) Q ν f:=by
 obtain⟨m,hn,hl⟩:=id I.loc;have P:a.env.kindOf d=Z _:=hk;obtain⟨u,ru,lk⟩:=hl b d υ hi hv (.inl hk);have hm:m d=Z u:=by
  rcases lk with⟨_,z⟩|⟨z,_⟩;·exact z
  ·rw[P]at z;rcases z with z|z<;>cases z
 have cne:=I.cne;obtain⟨oL,_,_,c',_⟩:=id hn;refine acu (wpAny_unbindName_local P hn hm (by rw[I.ok.kind];rfl) λh' w a' v=>(h _ ⟨I.ok,I.os,I.bare,⟨λi o e n hb H=>?_,λi o e n hb H=>?_,I.base.free,λi o e H=>?_,I.base.tups,I.base.frzs,I.base.tbls⟩,⟨_,a',λj y v' E e2 e3=>?_⟩,λy c e=>?_,I.free,I.freeC,λp hp=>?_,λi ob e=>?_,by simpa using I.len⟩));·exact(v.2 i (D_ (Q_ (uk e) I.ok.above))).trans (I.base.keep i o e n hb H)
 ·obtain⟨sl,E⟩:=I.base.slot i o e n hb H;exact⟨sl,(v.2 i (D_ (Q_ (uk e) I.ok.above))).trans E⟩
 ·obtain⟨o',E⟩:=I.base.there i o e H;exact⟨o',(v.2 i (D_ (Q_ (uk e) I.ok.above))).trans E⟩
 · by_cases hj:j=b
   · subst hj;have b':j<Θ.length:=by rw[I.len];exact(u_.mp hi).1
     rw[K_ b']at e2;cases e2
   · rw[z_ (YH hj)]at e2;obtain⟨u',r',q⟩:=hl j y v' E e2 e3;refine⟨u',r',?_⟩;rcases q with⟨r,e⟩|⟨r,c,e,z⟩;·refine .inl ⟨r,?_⟩;have:y≠d:=λe=>hj (qF hN E (e▸hi));simp[this,e]
     ·exact .inr ⟨r,c,e,z.sameBut v (cne y c e)⟩
 ·obtain⟨w',z⟩:=I.cell y c e;exact⟨w',z.sameBut v (cne y c e)⟩
 ·obtain⟨e,n,ne,nf,s⟩:=I.pin p hp;exact⟨(v.2 p.1 ne).trans e,n,ne,nf,s⟩
 · refine(I.hok i ob e).stay (λc w' A q=>(v.2 c ?_).trans q) (λ_ q=>q) λ_ _ q=>q;rintro rfl;rcases A with A|A;·rw[<-A,I.free]at e;cases e
   ·rw[I.free]at A;cases A
def N.freeze(I:N a δ Θ g f)(Q:g e=U)(r:f.heap.get? e=Z Ä)(hd:Ä.data=.fields Κ)(h0:a.s₀.heap.get? e=U)(H:∀p∈a.pn++δ,p.1≠e):N a δ Θ (å g e (.frz Ä (.ext λ_=>True))) f:=by
 have ne:∀b u,g b=Z u->b≠e:=λb u q=>aA q Q;refine⟨I.ok,I.os,I.bare,⟨I.base.keep,I.base.slot,λb o q n E=>?_,I.base.there,λb k q=>?_,λb o u q=>?_,λb D q=>?_⟩,I.loc,I.cell,?_,λx c q=>?_,λp h=>?_,λb u q=>?_,I.len⟩;·rw[aq (λz=>by lia)];exact I.base.free b o q n E
 ·have d:=I.base.tups b k q;rw[aq (ne b _ d)];exact d
 ·have d:=I.base.frzs b o u q;rw[aq (ne b _ d)];exact d
 ·obtain⟨i,d⟩:=I.base.tbls b D q;exact⟨i,by rw[aq (ne b _ d)];exact d⟩
 ·obtain⟨m,⟨o,es,ep,P,j,_⟩,_⟩:=I.loc;rw[aq (λz=>by lia)];exact I.free
 ·obtain⟨v,o,P,j⟩:=I.cell x c q;rw[aq (λz=>by lia)];exact I.freeC x c q
 ·obtain⟨A,y,w⟩:=I.pin p h;exact⟨A,by rw[aq (H p h)];exact y,w⟩
 · by_cases s:b=e;·subst s;rw[ao]at q;cases q;exact⟨r,trivial,⟨Ä,r⟩,λ_ _ _ _=>trivial⟩
   ·rw[aq s]at q;exact(I.hok b u q).stay (λ_ _ _ z=>z) (λc z=>by rw[aq (ne c _ z)];exact z) (λc k z=>by rw[aq (ne c _ z)];exact z) λc _ _ z=>by rw[aq (ne c _ z)];exact z
abbrev RX(X:C)(a:(O×Obj)%0)(E:B->ge->Prop):C:={X with pn:=X.pn++a,xe:=E}
abbrev Az(X:C)(a:(O×Obj)%0)(e:O):C:={X with A:=X.A.mark (Z (.ref e)),calm:=h_,pn:=X.pn++a,xe:=λ_ _=>False}
def AA(I:N a δ Θ g f):N (RX a δ ν) [] Θ g f:=⟨⟨I.ok.mod,I.ok.kind,I.ok.glob,I.ok.blt,I.ok.above,I.ok.inj,I.ok.has,I.ok.cab,I.ok.hd,I.ok.frames,I.ok.stk,I.ok.exf,I.ok.bs,I.ok.bsz,I.ok.noex,I.ok.exfs,I.ok.funs,I.ok.frf⟩,I.os,I.bare,I.base,I.loc,I.cell,I.free,I.freeC,λp b=>I.pin p (by simpa using b),I.hok,I.len⟩
def kO{b:(O×Obj)%0}(I:N (RX a δ ν) b Θ g f):N a δ Θ g f:=⟨⟨I.ok.mod,I.ok.kind,I.ok.glob,I.ok.blt,I.ok.above,I.ok.inj,I.ok.has,I.ok.cab,I.ok.hd,I.ok.frames,I.ok.stk,I.ok.exf,I.ok.bs,I.ok.bsz,I.ok.noex,I.ok.exfs,I.ok.funs,I.ok.frf⟩,I.os,I.bare,I.base,I.loc,I.cell,I.free,I.freeC,λp d=>I.pin p (R_ _ d),I.hok,I.len⟩
def wU(I:N a δ Θ g f):N (Az a δ e) [] Θ g f:=⟨⟨I.ok.mod,I.ok.kind,I.ok.glob,I.ok.blt,I.ok.above,I.ok.inj,I.ok.has,I.ok.cab,λz=>absurd z H_,I.ok.frames,I.ok.stk,I.ok.exf,I.ok.bs,I.ok.bsz,I.ok.noex,I.ok.exfs,I.ok.funs,I.ok.frf⟩,I.os,I.bare,I.base,I.loc,I.cell,I.free,I.freeC,λp b=>I.pin p (by simpa using b),I.hok,I.len⟩
def yy{b:(O×Obj)%0}(d:a.Ok)(I:N (Az a δ e) b Θ g f):N a δ Θ g f:=⟨d,I.os,I.bare,I.base,I.loc,I.cell,I.free,I.freeC,λp h=>I.pin p (R_ _ h),I.hok,I.len⟩
def Ex(I:N a δ Θ g f)(a':a.ex=[])(h:a.stack=a.env::a.outer)(n:a.env.frame=Z a.env.locals){y:B}(F:Fly (SQ a) g e y f.heap){Q:Unit->ge->Prop}{E1 E2:B->ge->Prop}(k:∀i D p,(rw a e D f.heap).StaysIn i->i.FunFrames (rw a e D f.heap) a.stack->i.TracedW (rw a e D f.heap) e y p->(∀b o,f.heap.get? b=Z o->(∀m,o.data≠.fields m)->∃r,i.get? b=Z {o with slots:=r})->(∀b,b=e\/b∈D->g b=U/\SQ a b/\∃o m,f.heap.get? b=Z o/\o.data=.fields m)->Q Unit.unit {f with heap:=i}):xy (B_ a.prog a.w) a.A (noteFrame (.ref e) a.env) (λ_ s2=>xy (B_ a.prog a.w) a.A (setFlight (.ref e) U) Q E1 s2) E2 f:=by
 obtain⟨f1,R,v,m,p,u,q2,s,q4,A⟩:=F;have w:=h▸I.ok.frames;subst q2;rcases A with A|⟨T,oT,ts,r1,r2,r3,r4,r5,r6,r7⟩
 · have go:∀i,Heap.NotedW _ _ e v.cls p (Zm a.env.locals) f.heap i->xy (B_ a.prog a.w) a.A _ Q E1 _:=λi⟨k1,k2,k3,k4⟩=>abp (s:={f with heap:=i}) k1 k2 k3 λh2 m1 m2 P H=>k h2 [] p m1 (h▸m2) P (λb o q d=>by obtain⟨r,E⟩:=k4 b o q d;exact⟨r,H b _ E d⟩) λb j=>by
    rcases j with rfl|j;·exact⟨f1,R,v,m,u,s⟩
    ·cases j
   unfold noteFrame;simp![n];refine c_ (YF u s A ?_);exact wpAny_entryW w (h▸qR I) n u (λb o z=>aab _ z) (Y2 _ (on ..)) s (Yw.mp A).1 q4 go
 ·have ht:f.heap.TracedW (rw a e [T] f.heap) e v.cls p:=⟨v,m,T,oT,ts,u,⟨rfl,q4⟩,s,r1,Y2 _ ∅,r2,r5,r6,r7⟩;refine wpAny_noteFrame_onW w (h▸qR I) n ht (λb o z=>aab _ z) (Y2 _ (on ..)) λi⟨k1,k2,k3,k4⟩=>?_;refine abp k1 k2 k3 λh2 m1 m2 P H=>k h2 [T] p m1 (h▸m2) P (λb o q d=>by obtain⟨r,E⟩:=k4 b o q d;exact⟨r,H b _ E d⟩) λb j=>by
    rcases j with rfl|j;·exact⟨f1,R,v,m,u,s⟩
    ·simp at j;subst j;exact⟨r3,r4,oT,ts,r5,r6⟩
def AB{u:Str->B%1}{J:O}{Q:Bool->ge->Prop}(X:q.In f.heap)(o:OwnCls d A ů "ValueError.__new__" Ζ f.heap)(m:OwnCls r J ů "ValueError.__new__" u f.heap)(he:f.heap.get? e=Z Ä)(hc:Ä.cls=.ref A)(hm:mroIn q A (.ref J)=Z L)(h:Q L f):xy (B_ p n) D (excMatches (.ref e) (.ref J)) Q ν f:=by
 obtain⟨P,N,nm,i,bs,H,sn,sub,ab,g',dd,k0,k1,k2,k3,k5,mN,o,hN,d',T⟩:=o.obj;obtain⟨s,N',b',q',h',y,a',z,i',I,f',l0,l1,l2,l3,l5,c',m,e',E,T'⟩:=m.obj;obtain⟨hh,g,k,t,os⟩:=f;have w:(U_ J::s).contains (.type "BaseException")=L:=by rw[List.contains_cons,T'.hasType aaw.hasBase,Bool.or_true]
 have v:(U_ A::P).contains (.ref J)=L:=by
  obtain⟨cd,a,b⟩:=Z5.mp hm;split at b;·cases b
  · unfold clsIn at a;split at a;·rename_i look;cases a;have r:=(X _ _ look).symm.trans o;cases r;exact(X3 b)
    ·cases a
 have j:=tc_notTuple;repeat(first|(with_reducible refine acm he ?_;rw[hc])|with_reducible refine acm m ?_|(with_reducible refine wpAny_isSubtype_exc m ?_;rw[w])|(with_reducible refine wpAny_isSubtype_exc o ?_;rw[v])|wp_step)
 exact h
def RY:W%0->Þ|a,[x]=>if ik x&&a.all ik&&A_ (a.length<=100000)then .int (a.countP (λy=>eqF y x):Nat)%3 else U|_,_=>U
def Oo:V->V%0->Hp->VK->Prop:=λx d H Q=>∃a b y,x=.ref a/\d=[y]/\H a=Z (.lst b)/\jj y=L/\b.all jj=L/\b.length<=100000/\Q (.int (b.countP (λv=>ŀ v y):Nat)) H
def pN{y:V}:∀{b:V%0}{a:B%0},Ö b a->b.all jj=L->a.countP (Ŋ y)=b.countP λv=>ŀ v y|_,_,.nil,_=>rfl|_,_,.cons r t,f=>by rw[Y0,n_]at f;rw[abw,abw,pN t f.2,wM r f.1]
def AC:ś a "list.count" Oo:=by intro f' s r H x w v D Q I i k h;obtain⟨b,A,y,rfl,rfl,o,p,g,E,q⟩:=h;cases i;obtain⟨u,rfl,j⟩:=gK k;obtain⟨z,d,n,f,P,e⟩:=I.lstM o;refine aau acO ⟨_,e,rfl⟩ PySem.F.entry_list_count (PySem.F.args_list_count_2 _ _) (SeqAt.list_countAt b d.toArray n U #[] u _) ⟨e,λt m=>iN j p f g t (by simpa using m),⟨.int _,H,I.tok _,⟨s.toks,?_⟩,q⟩⟩;have:=pN (y:=y) f g;rw[this]
def HB{K:d_}{H:Hp}{x:W}{u:V}(q:Ü K H x u)(e:ik x=L):∀{b:W%0}{a:V%0},S K H b a->b.all ik=L->a.countP (λv=>ŀ v u)=b.countP λy=>eqF y x|[],a,r,_=>by cases((r));rfl|y::g,a,r,f=>by obtain⟨v,j,rfl,i,h⟩:∃v d,a=v::d/\Ü K H y v/\S K H g d:=r;rw[Y0,n_]at f;rw[abw,abw,HB q e h f.2,Ah i q f.1 e]
def Ey(ho:FE a v z)(ha:FA a (h::s) μ)(j:X_ v "count" a.env (eval v a.env)=eval v a.env:=by lk)(q:((Xv w (k_ (h::s) a.env)).all (λx=>!x.1)&&(Y_ w (Yq [] a.env)).all (λx=>x.1.isSome)&&A_ ((h::s).length+([]:Zc%0).length+(if([]:Zc%0).isEmpty then 0 else 1)<30))=L:=by lk)(i:(k.endLine==w.line)=L:=by lk)(hs:h%8:=by lk)(g:(Xv w (k_ s a.env)).any (·.1)=h_:=by lk):FE a (.Call (.Attribute v "count" k) (h::s) [] w) (fML RY z μ):=dI (zZ Zi acO PySem.F.type_list_count AC ho.h ha.h j q i hs g) λσ H Q r E v=>⟨r,E,õ.bind v λd f H1 e1 rd y=>by
 cases d<;>try exact((y)).elim
 obtain⟨e,u,rfl,D,A⟩:=rd.lstE;refine⟨.inl ⟨rfl,u,ā.of D⟩,r,E.mono e1,ô.bind y λs ws P I rs m=>?_⟩;unfold RY at m;split at m
 · split at m;·rename_i n;rw[n_,n_]at n;obtain⟨b,rfl,o⟩:=dL rs;have p:=S.mono I _ _ A;refine⟨e,u,b,rfl,rfl,I _ _ D,qO o n.1.1,mQ p n.1.2,by rw[A.length];exact of_decide_eq_true n.2,?_⟩;rw[HB o n.1.1 p n.1.2];exact m _ P (.refl P) rfl
   ·exact m.elim
 ·exact m.elim⟩
def xiB(K:d_)(C:O):Bool:=findIn K (.ref C) "__getattribute__"==Z (Z (.builtin "BaseException.__getattribute__"))&&findIn K (.ref C) "__getattr__"==Z U&&findIn K (.ref C) "__class__"==Z (Z (.builtin "object.__class__"))&&specialIn K (.builtin "object.__class__") "__get__"==Z (Z (.builtin "getset_descriptor.__get__"))&&takesIn K (.builtin "object.__class__")==Z L&&mroIn K C (.type "object")==Z L&&mroIn K C (.type "BaseException")==Z L
def Tt(h:xiB q e=L):XI q e:=by unfold xiB at h;simp![n_,beq_iff_eq]at h;exact⟨h.1.1.1.1.1.1,h.1.1.1.1.1.2,h.1.1.1.1.2,h.1.1.1.2,h.1.1.2,h.1.2,h.2⟩
structure WR(K:d_)(m:Nat)(cls:Nat->O)(CJ:O):Prop where at_:∀c,c<m->nsIn K E_ (Į c)=Z (Z (.ref (cls c)))/\excIn K (cls c) ů "ValueError.__new__"=L/\XI K (cls c)/\mroIn K (cls c) (.ref CJ)=Z L/\kitOne K (.ref (cls c)) (.type "ValueError")=Z L/\∀d,d<m->kitOne K (.ref (cls c)) (.ref (cls d))=Z (c==d)exJ:excIn K CJ ů "ValueError.__new__"=L
section
variable{K:d_}{m:Nat}{cls:Nat->O}{CJ:O}(x:WR K m cls CJ)
include x
end
def qT:Yz (b_ "ValueError")=Z (.type "ValueError"):=by lk
def pO:Str->Þ|x,[.str y]=>if x.length<=100000 then .str (Zg x y)%3 else U|_,_=>U
def HC:V->V%0->Hp->VK->Prop:=λx a H Q=>∃i j,x=.str i/\a=[.str j]/\i.length<=sizeLine/\Q (.str (Zg i j)) H
def Ez:ś a "str.strip" HC:=by intro r s g H x m v n Q I b e h;obtain⟨i,j,rfl,rfl,f,q⟩:=h;obtain⟨t,rfl⟩:=b;obtain⟨u,rfl,d⟩:=gK e;obtain⟨p,rfl⟩:=d;exact SC.stripChars (λo k=>⟨.str _,H,I.tok k,⟨_,rfl⟩,q⟩) f
def JJ(i:Str)(e:W%0)(d:V%0)(H:Hp)(Q:VK)(f:S a.K H e d)(o:õ a H (pO i e) Q):HC (.str i) d H Q:=by
 unfold pO at o;split at o
 · rename_i j;split at o;·rename_i g;obtain⟨w,rfl,b⟩:=dL f;cases((b));exact⟨i,j,rfl,rfl,bC g,o _ H (.refl H) rfl⟩
   ·exact o.elim
 ·exact o.elim
def dv(x y:W):Rs W%1:=match x,y with|.tup a,.tup b=>if a.length+b.length<=100000 then .tup (a++b)%3 else U|x,y=>eD x y
def EA(u:afp f.heap e #[])(v:afp f.heap A P.toArray)(w:Å (.ref A) f):xy (B_ p n) D (ZL .Add (.ref e) (.ref A)) Å ν f:=by obtain⟨⟨z,y,o,r⟩,j,m,a,k⟩:=id u;obtain⟨⟨q,i,data2,h⟩,b,g,s,d⟩:=id v;simp only at m k g d;subst m k g d;exact aeo ⟨_,j,rfl⟩ ⟨_,b,rfl⟩ acK ad9 abd aa4 (aaN _ _) (tuple_addW0 e A #[] P.toArray a s y i r h ∅) ⟨j,b,w⟩
def HE(K:d_):R2:=λx y H Q=>∃a b d,x=.ref a/\y=.ref b/\û K H a []/\û K H b d/\Q (.ref b) H
def EB:ă a (ZL .Add) (HE a.K):=by intro z s p H x y v u Q I g f h;obtain⟨d,b,r,rfl,rfl,n,m,q⟩:=h;cases g;cases f;obtain⟨o,i,k,_⟩:=I.tuple n;obtain⟨e,w,j,_⟩:=I.tuple m;cases i;exact EA k j ⟨.ref b,H,I,rfl,q⟩
def Op(X:C):R2:=λx y H Q=>Jg x y H Q\/(Nl X.K x y H Q\/HE X.K x y H Q)
def Oq:ă a (ZL .Add) (Op a):=o_add.or (op_catT.or EB)
variable{m π:W}
def AD(h:∀a b,¬(m=.tup a/\π=.tup b)):dv m π=eD m π:=by
 unfold dv;split;·rename_i a b;exact absurd ⟨rfl,rfl⟩ (h a b)
 ·rfl
def Os:Ĝ a (Op a) dv:=by
 intro z w x y H Q s r o;by_cases v:∃d b,z=.tup d/\w=.tup b
 · obtain⟨d,b,rfl,rfl⟩:=v;have e:õ a H (if d.length+b.length<=100000 then Z _ else U) Q:=o;split at e;·rename_i i;obtain⟨p,q,rfl,n,g⟩:=s.tupE;obtain⟨k,j,rfl,m,f⟩:=r.tupE;cases q with
   |nil=>
   have D:d=[]:=by have:=g.length;exact Y4.mp this.symm
   subst D;exact .inr (.inr ⟨p,k,j,rfl,rfl,û.of n,û.of m,e _ H (.refl H) ⟨k,j,rfl,m,by simpa using f⟩⟩)|cons E q=>refine .inr (.inl ⟨p,k,_,j,rfl,rfl,û.of n,û.of m,by simp,by rw[g.length,f.length];exact bC i,λu=>?_,λu l i=>e _ _ (aG i _) ⟨l,_,rfl,ao,S.mono (aG i _) _ _ (g.append f)⟩⟩);subst u;have A:=Y4.mp f.length.symm;subst A;exact e _ H (.refl H) ⟨p,_,rfl,n,by simpa using g⟩
   ·exact e.elim
 ·rw[AD (λd b h=>v ⟨d,b,h⟩)]at o;exact .inl (NS z w x y H Q s r o)
def kh{i:B}(a:afp f.heap e Κ)(k:f.heap.IsSliceOf A ω i .none)(o:ac7 ω Ι)(m:ac7 i Φ)(j:HT.sIx Κ.size 0 Ι=0/\HT.sIx Κ.size Κ.size Φ=Κ.size)(h:Å (.ref e) f):xy (B_ p n) D (ac1 (.ref e) (.ref A)) Å ν f:=by
 obtain⟨os,d,g,q⟩:=id k;unfold ac1;try with_reducible refine XY ?_
 refine c_ (wpAny_sequenceKey a.typeIs #v[] ?_);refine c_ (XO a.typeIs Yp (XN Yp a.typeIs entry_tuple_getitem ?_ (args_tuple_getitem _ _)));show xy _ _ (acb _>>=_) _ _ f;refine c_ (tupleItemsOf_ a (c_ (Z_ (⟨os,d,g⟩) ?_)));refine c_ (HT.sliceApplied_gen k o m ?_);have b:(((HT.sIx Κ.size 0 Ι):Int)==0&&(1:Int)==1&&(HT.sIx Κ.size Κ.size Φ-HT.sIx Κ.size 0 Ι)==Κ.size)=L:=by rw[j.1,j.2];simp
 show xy _ _ (if(((HT.sIx Κ.size 0 Ι):Int)==0&&(1)==1&&(HT.sIx Κ.size Κ.size Φ-HT.sIx Κ.size 0 Ι)==Κ.size)=L then _ else _) _ _ f;rw[if_pos b];refine c_ (c_ (Z_ a.typeIs (i_ ?_)));exact c_ (Zw (i_ ⟨_,rfl,i_ h⟩))
def WS(K:d_):V->Int%1->Int%1->Hp->VK->Prop:=λx lo d H Q=>∃a b,x=.ref a/\û K H a b/\(HT.sIx b.length 0 lo=0/\HT.sIx b.length b.length d=b.length)/\Q (.ref a) H
def EC:SlR a (WS a.K):=by
 intro A s o H x v u p lo z w Q I i n pl j h;obtain⟨b,g,rfl,k,m,q⟩:=h;cases i;obtain⟨e,r,f,y⟩:=I.tuple k;have d:e.toArray.size=g.length:=by exact r.length.symm
 exact⟨_,_,Yp.lookup,f.typeIs,(kh f n pl j (by rw[d];exact m) ⟨.ref b,H,I,rfl,q⟩)⟩
def VY(x:W)(a b:Int%1):Rs W%1:=match x with|.tup d=>.tup (Jl d a b)%3|x=>RS x a b
def vp(f:Û)(d e:FnO):Û:=λa=>à (f a) λx=>à (d a) λlo=>à (e a) λb=>VY x lo b
def yz{a:Q%0}(h:HT.sIx a.length 0 Ι=0/\HT.sIx a.length a.length Φ=a.length):Jl a Ι Φ=a:=by unfold Jl;rw[h.1,h.2];simp
variable{z:Û}
def JK{y A:s_%1}{D I:FnO}(ha:FE a h z)(hl:FO a y D)(hh:FO a A I):FE a (.Subscript h (.Slice y A U k) w) (vp z D I):=dI (wL ((Ž.or zX).or (sl_tup.or EC)) ha.h hl.h hh.h) λσ H Q q E o=>⟨q,E,õ.bind o λd v H1 e1 r1 o1=>⟨q,E.mono e1,kL o1 λl H2 P o2=>⟨q,(E.mono e1).mono P,kL o2 λu n e3 f=>by
 have r:=Ü.mono e3 d v (Ü.mono P d v r1);cases d<;>try exact((f)).elim
 · rename_i b;unfold VY RS at f;dsimp only at f;split at f;·rename_i hz;exact .inl (.inl ⟨b,r,bC hz,f _ n (.refl n) rfl⟩)
   ·exact f.elim
 · obtain⟨m,e,rfl,j,g⟩:=r.tupE;by_cases s:HT.sIx e.length 0 l=0/\HT.sIx e.length e.length u=e.length;·refine .inr (.inr ⟨m,e,rfl,û.of j,s,f _ n (.refl n) ⟨m,e,rfl,j,?_⟩⟩);rw[yz (by rw[<-g.length];exact s)];exact g
   ·refine .inr (.inl ⟨m,e,rfl,û.of j,s,λp i=>f _ _ (aG i _) ⟨p,_,rfl,ao,S.mono (aG i _) _ _ ?_⟩⟩);unfold DX Jl;rw[g.length];exact(g.drop _).take _
 ·obtain⟨m,e,rfl,j,g⟩:=r.lstE;refine .inl (.inr ⟨m,e,rfl,ā.of j,λp i=>f _ _ (aG i _) ⟨p,_,rfl,ao,S.mono (aG i _) _ _ ?_⟩⟩);unfold DX Jl;rw[g.length];exact(g.drop _).take _⟩⟩⟩
def ž(x:W)(a:W%0):Bool%1:=if okP x&&A_ ((dj x).depth<=63)&&YW (ï a)then Z ((ï a).any λy=>Yk y (dj x))else U
def Ot(x y:W):Bool%1:=match Jh x y with|some b=>Z b|none=>match y with|.lst a=>ž x a|.tup a=>ž x a|_=>U
def W'(x y:W):Rs W%1:=match Ot x y with|some b=>.bl b%3|none=>U
def ip(x y:W):Rs W%1:=match Ot x y with|some b=>.bl (!b)%3|none=>U
def RZ(X:C)(d:Bool):R2:=λx y H Q=>∃e a b,Ü X.K H e x/\(Ü X.K H (.lst a) y\/Ü X.K H (.tup a) y)/\ž e a=Z b/\Q (.bl (if d then !b else b)) H
def Ou(A:a.A.units+64<cLine):ă a (XZ .In) (RZ a h_):=by
 intro D s z H x y v u Q I p m h;obtain⟨e,k,b,r,d,f,q⟩:=h;unfold ž at f;split at f
 · rename_i w;cases f;obtain⟨⟨j,E⟩,g⟩:(okP e=L/\(dj e).depth<=63)/\YW _=L:=by simpa using w
   obtain⟨as,n⟩:=Ü.reads I e x v r p (Yl.mp j).1;have o:a.A.units+1+min (ZI (ï k)) (dj e).depth<cLine:=by have:=acT (ZI (ï k)) (dj e).depth;lia
   rcases d with d|d;·obtain⟨bs,i⟩:=Ü.reads I _ y u d m (by simpa[dj,XE]using g);exact SeqAt.in_list_reads i n g (Yl.mp j).1 o ⟨.bl _,H,I,rfl,q⟩
   ·obtain⟨bs,i⟩:=Ü.reads I _ y u d m (by simpa[dj,XE]using g);exact SeqAt.in_tuple_reads i n g (Yl.mp j).1 o ⟨.bl _,H,I,rfl,q⟩
 ·cases f
def AE(A:a.A.units+64<cLine):ă a (XZ .NotIn) (RZ a L):=by
 intro D s z H x y v u Q I p m h;obtain⟨e,k,b,r,d,f,q⟩:=h;unfold ž at f;split at f
 · rename_i w;cases f;obtain⟨⟨j,E⟩,g⟩:(okP e=L/\(dj e).depth<=63)/\YW _=L:=by simpa using w
   obtain⟨as,n⟩:=Ü.reads I e x v r p (Yl.mp j).1;have o:a.A.units+1+min (ZI (ï k)) (dj e).depth<cLine:=by have:=acT (ZI (ï k)) (dj e).depth;lia
   rcases d with d|d;·obtain⟨bs,i⟩:=Ü.reads I _ y u d m (by simpa[dj,XE]using g);exact SeqAt.notIn_list_reads i n g (Yl.mp j).1 o ⟨.bl _,H,I,rfl,q⟩
   ·obtain⟨bs,i⟩:=Ü.reads I _ y u d m (by simpa[dj,XE]using g);exact SeqAt.notIn_tuple_reads i n g (Yl.mp j).1 o ⟨.bl _,H,I,rfl,q⟩
 ·cases f
def VZ(X:C):R2:=λx y H Q=>S9 X.K x y H Q\/RZ X h_ x y H Q
def AF(X:C):R2:=λx y H Q=>vj X.K x y H Q\/RZ X L x y H Q
def Tu(b:a.A.units+64<cLine):ă a (XZ .In) (VZ a):=Ż.or (Ou b)
def ED(b:a.A.units+64<cLine):ă a (XZ .NotIn) (AF a):=Ş.or (AE b)
def Tv:Ĝ a (VZ a) W':=by intro e j x y H Q h g o;unfold W' Ot at o;match i:Jh e j with
 |some b=>rw[i]at o;exact .inl (NX e j x y H Q h g (by unfold ł;rw[i];exact o))|none=>
 rw[i]at o;cases j<;>try exact((o)).elim
 ·rename_i f;match d:ž e f with|none=>simp![d]at o;exact((o)).elim|some b=>simp![d]at o;exact .inr ⟨e,f,b,h,.inr g,d,o _ H (.refl H) rfl⟩
 ·rename_i f;match d:ž e f with|none=>simp![d]at o;exact((o)).elim|some b=>simp![d]at o;exact .inr ⟨e,f,b,h,.inl g,d,o _ H (.refl H) rfl⟩
def EE:Ĝ a (AF a) ip:=by intro e j x y H Q h g o;unfold ip Ot at o;match i:Jh e j with
 |some b=>rw[i]at o;exact .inl (Ai e j x y H Q h g (by unfold sU;rw[i];exact o))|none=>
 rw[i]at o;cases j<;>try exact((o)).elim
 ·rename_i f;match d:ž e f with|none=>simp![d]at o;exact((o)).elim|some b=>simp![d]at o;exact .inr ⟨e,f,b,h,.inr g,d,o _ H (.refl H) rfl⟩
 ·rename_i f;match d:ž e f with|none=>simp![d]at o;exact((o)).elim|some b=>simp![d]at o;exact .inr ⟨e,f,b,h,.inl g,d,o _ H (.refl H) rfl⟩
def Ov:Str->Þ
 |x,[.str y]=>match X0 x y 0 x.length 1 with|i::_=>.int i%3|[]=>U
 |_,_=>U
def V0:V->V%0->Hp->VK->Prop:=λx a H Q=>∃i j k l,x=.str i/\a=[.str j]/\X0 i j 0 i.length 1=k::l/\Q (.int (k:Nat)) H
def Ow:ś a "str.index" V0:=by intro p s g H x m v n Q I b e h;obtain⟨i,j,k,l,rfl,rfl,f,q⟩:=h;obtain⟨t,rfl⟩:=b;obtain⟨u,rfl,d⟩:=gK e;obtain⟨o,rfl⟩:=d;exact SC.index f ⟨.int _,H,I.tok _,⟨_,rfl⟩,q⟩
def Tw(i:Str)(f:W%0)(e:V%0)(H:Hp)(Q:VK)(g:S a.K H f e)(o:õ a H (Ov i f) Q):V0 (.str i) e H Q:=by
 unfold Ov at o;split at o
 ·rename_i j;obtain⟨w,rfl,d⟩:=dL g;cases((d));match b:X0 i j 0 i.length 1 with|[]=>rw[b]at o;exact o.elim|k::l=>rw[b]at o;exact⟨i,j,k,l,rfl,rfl,b,o _ H (.refl H) rfl⟩
 ·exact o.elim
abbrev JL(a:B%0)(n:Nat):Obj:={cls:=.type "list",data:=.seq a.toArray n}
variable{Θ:L2.St}
def N.untrack(I:N a δ Θ (å g e (.lst ζ)) f)(ha:g e=U)(y:a.ex=[]):∃j n,Ö ζ j/\ζ.length<=sizeLine/\(∀o,a.s₀.heap.get? e=Z o->a.H₀ e≠U)/\(∀p∈a.pn++δ,p.1≠e)/\N a (δ++[(e,JL j n)]) Θ g f:=by
 obtain⟨z,j,n,rv,hl,d⟩:=I.lstM ao;have h:∀b,å g e (.lst ζ) b=U->g b=U:=λb q=>by
  by_cases i:b=e;·rw[i];exact ha
  ·rw[aq i]at q;exact q
 have s:∀b u,å g e _ b=Z u->(∀E,u≠.lst E)->g b=Z u:=λb u q hu=>by
  by_cases i:b=e;·rw[i,ao]at q;exact absurd (X3 q).symm (hu ζ)
  ·rw[aq i]at q;exact q
 have a':e∉a.fs:=λhm=>by obtain⟨_,o,r,_⟩:=I.ok.funs.mem hm;have:=I.base.free e o r (I.ok.frf e hm) (by rw[y];simp);rw[ao]at this;cases this
 have A:∀p∈a.pn++δ,p.1≠e:=λp hp w=>by have:=(I.pin p hp).2.1;rw[w,ao]at this;cases this
 refine⟨j,n,rv,z,λo r h0=>?_,A,⟨I.ok,I.os,I.bare,⟨I.base.keep,I.base.slot,λb o q n hx=>h b (I.base.free b o q n hx),I.base.there,λb E q=>s b _ (I.base.tups b E q) (λ_ w=>by cases w),λb o u q=>s b _ (I.base.frzs b o u q) (λ_ w=>by cases w),λb ps q=>?_⟩,I.loc,I.cell,h _ I.free,λx c q=>h _ (I.freeC x c q),λp hp=>?_,λb u q=>?_,I.len⟩⟩;·have:=I.base.free e o r h0 (by rw[y];simp);rw[ao]at this;cases this
 ·obtain⟨D,q'⟩:=I.base.tbls b ps q;exact⟨D,s b _ q' (λ_ w=>by cases w)⟩
 · rcases XD.mp hp with k|k;·obtain⟨Q,P,H⟩:=I.pin p (R_ _ k);exact⟨Q,h _ P,H⟩
   · rcases XD.mp k with k|k;·obtain⟨Q,P,H⟩:=I.pin p (q_ _ k);exact⟨Q,h _ P,H⟩
     ·simp![S_]at k;subst k;refine⟨d,ha,λw=>?_,a',λv w=>by cases w⟩;obtain⟨m,⟨o,es,ep,r,hd,_⟩,_⟩:=I.loc;have w':e=a.env.locals:=w;rw[<-w',d]at r;cases r;cases hd
 ·refine(I.hok b u (by rw[aq ((λb u q=>aA q ha) b u q)];exact q)).stay (λ_ _ _ w=>w) (λc w=>s c _ w (λ_ w=>by cases w)) (λc E w=>s c _ w (λ_ w=>by cases w)) λc _ _ w=>s c _ w (λ_ w=>by cases w)
def N.retrack(I:N a (δ++[(e,JL P b)]) Θ g f)(A:Ö ζ P)(hz:ζ.length<=sizeLine)(h0:∀o,a.s₀.heap.get? e=Z o->a.H₀ e≠U)(n:∀p∈a.pn++δ,p.1≠e):g e=U/\N a δ Θ (å g e (.lst ζ)) f:=by
 obtain⟨i,z,nL,nf,nc⟩:=I.pin (e,JL P b) (q_ _ (q_ _ ∅));have up:∀d u,g d=Z u->å g e (.lst ζ) d=Z u:=λd u q=>by rw[aq (aA q z)];exact q
 have lo:∀d,g d=U->d≠e->å g e (.lst ζ) d=U:=λd q h=>by rw[aq h];exact q
 refine⟨z,⟨I.ok,I.os,I.bare,⟨I.base.keep,I.base.slot,λd o q b hx=>lo d (I.base.free d o q b hx) (λw=>h0 o (w▸q) (w▸b)),I.base.there,λd r q=>up d _ (I.base.tups d r q),λd o u q=>up d _ (I.base.frzs d o u q),λd ps q=>?_⟩,I.loc,I.cell,lo _ I.free (YH nL),λx c q=>lo _ (I.freeC x c q) (λw=>?_),λp s=>?_,λd u q=>?_,I.len⟩⟩;·obtain⟨j,Q⟩:=I.base.tbls d ps q;exact⟨j,up d _ Q⟩
 ·obtain⟨v,o,k,hd⟩:=I.cell x c q;rw[w]at k;have e':f.heap.get? e=Z (JL P b):=i;rw[e']at k;cases k;cases hd
 ·obtain⟨H,E,D⟩:=I.pin p (by
   rcases XD.mp s with m|m;·exact R_ _ m
   ·exact q_ _ (R_ _ m));exact⟨H,lo _ E (n p s),D⟩
 · by_cases y:d=e;·subst y;rw[ao]at q;cases q;exact⟨hz,P,b,A,i⟩
   ·rw[aq y]at q;exact(I.hok d u q).stay (λ_ _ _ w=>w) (λc w=>up c _ w) (λc r w=>up c _ w) λc _ _ w=>up c _ w
def Tx(t:TE):TE:=λe f Q=>∃H a b,f=å H a (.lst b)/\H a=U/\t e H λv d=>d a=U->Q v (å d a (.lst b))
def Tz(t:TT):TT:=λe f Q=>∃H a b,f=å H a (.lst b)/\H a=U/\t e H λv d=>d a=U->Q v (å d a (.lst b))
def TB(t:TA):TA:=λe f Q=>∃H a b,f=å H a (.lst b)/\H a=U/\t e H λv d=>d a=U->Q v (å d a (.lst b))
def TC(t:TI):TI:=λe f Q=>∃H a b,f=å H a (.lst b)/\H a=U/\t e H λv d=>d a=U->Q v (å d a (.lst b))
def vq(e:a.ex=[]){t:TE}(b:PE a h t):PE a h (Tx t):=by intro f' s g Hf Q I⟨H,d,E,w,o,q⟩;subst w;obtain⟨D,n,i,k,p,m,A⟩:=N.untrack I o e;refine í (b _ s g H _ A q) λu P⟨v,H',z,r,j⟩=>?_;obtain⟨f,y⟩:=N.retrack z i k p m;exact⟨v,_,y,r,j f⟩
def JM(e:a.ex=[]){t:TT}(b:PT a h t):PT a h (Tz t):=by intro E s g P Q I⟨H,d,A,r,o,q⟩;subst r;obtain⟨z,n,i,k,p,m,y⟩:=N.untrack I o e;refine í (b _ s g H _ y q) λu D⟨H',w,j⟩=>?_;obtain⟨f,v⟩:=N.retrack w i k p m;exact⟨_,v,j f⟩
def JN(e:a.ex=[]){t:TA}(h:PA a s t):PA a s (TB t):=by intro pos f' b g Hf Q I⟨H,d,E,w,o,q⟩;subst w;obtain⟨D,n,i,k,p,m,A⟩:=N.untrack I o e;refine í (h pos _ b g H _ A q) λu P⟨v,H',z,r,j⟩=>?_;obtain⟨f,y⟩:=N.retrack z i k p m;exact⟨v,_,y,r,j f⟩
def JO(j:a.ex=[]){o:s_}{t:TI}(d:PI a o h t):PI a o h (TC t):=by
 intro f' s v Hf R I⟨H,e,xs,e1,ha,q⟩;subst e1;obtain⟨f,n,A,E,h0,P,I'⟩:=N.untrack I ha j;refine í (d _ s v H _ I' q) λu s1 g=>í g λa' s2⟨it,fp,y,J,H',e2,I2,T,z,m,D⟩=>?_;obtain⟨k,I3⟩:=N.retrack I2 A E h0 P;refine⟨it,fp,y,J,_,e2,I3,T,z,λb Q=>?_,D k⟩;obtain⟨g0,g1,g2,g3,g4,r⟩:=m b Q;refine⟨by rw[aq (λw=>r (e,JL f n) (q_ _ (q_ _ ∅)) w.symm)];exact g0,g1,g2,g3,g4,λp i=>r p ?_⟩;rcases XD.mp i with w|w;·exact R_ _ w
 ·exact q_ _ (R_ _ w)
mutual
def ĩ:W->Bool|.non=>L|.bl _=>L|.int _=>L|.str _=>L|.tup a=>é a|.lst _=>h_|.scr _=>h_|.exn _=>h_|.obj _ _=>h_
def é:W%0->Bool|[]=>L|d::a=>ĩ d&&é a
end
mutual
theorem Ü.tups{K:d_}{H j:Hp}(k:∀b f,H b=Z (.tup f)->j b=Z (.tup f)):∀(d:W)(v:V),ĩ d=L->Ü K H d v->Ü K j d v|.non,_,_,h=>h|.bl _,_,_,h=>h|.int _,_,_,h=>h|.str _,_,_,h=>h|.tup e,v,i,h=>by obtain⟨a,n,r,h,q⟩:=h.tupE;exact⟨a,n,r,k _ _ h,S.tups k e n (by simpa[ĩ]using i) q⟩|.lst _,_,i,_=>by simp[ĩ]at i|.scr _,_,i,_=>by simp[ĩ]at i|.exn _,_,i,_=>by simp[ĩ]at i|.obj _ _,_,i,_=>by simp[ĩ]at i
theorem S.tups{K:d_}{H j:Hp}(k:∀b f,H b=Z (.tup f)->j b=Z (.tup f)):∀(e:W%0)(m:V%0),é e=L->S K H e m->S K j e m
 |[],_,_,h=>h|d::e,m,i,h=>by
  obtain⟨v,g,r,h,q⟩:∃v g,m=v::g/\Ü K H d v/\S K H e g:=h;have o:ĩ d=L/\é e=L:=by simpa[é]using i
  exact⟨v,g,r,Ü.tups k d v o.1 h,S.tups k e g o.2 q⟩end
inductive Fo where|nx(ρ:Ev)(ds:W%0)|rt(d:W)
abbrev kP:=Ev->W%0->Fo%1
def ĝ(X:C)(i:Nat)(a:O)(H:Hp)(o:Fo%1)(D:oU):Prop:=match o with|none=>False|some (.rt d)=>∀v b,Õ H b->Ü X.K b d v->D.rt v b|some (.nx g h)=>∀e b f,Õ H b->b a=U->e[i]?=Z (Z (.ref a))->â X.K b e g->S X.K b h f->D.nx e (å b a (.lst f))
def ĝ.mono{D:oU}(d:Õ g ξ):∀{o:Fo%1},ĝ a b e g o D->ĝ a b e ξ o D|none,h=>h|some (.rt _),h=>λv i f r=>h v i (d.trans f) r|some (.nx _ _),h=>λj i k f=>h j i k (d.trans f)
def tO(X:C)(i:Nat)(f:kP):TS:=λD b h=>∃H a e d g,h=å H a (.lst e)/\H a=U/\b[i]?=Z (Z (.ref a))/\â X.K H b d/\S X.K H g e/\ĝ X i a H (f d g) D
structure Ů(X:C)(i:Nat)(st:Yd)(f:kP):Prop where h:PS X st (tO X i f)
structure ų(X:C)(i:Nat)(st:Yd%0)(f:kP):Prop where h:Ł X st (tO X i f)
def AG(o:Rs Q%1)(k:Q->Fo%1):Fo%1:=match o with|some (.ok a)=>k a|_=>U
def MO:kP:=λa b=>Z (.nx a b)
def hU(f g:kP):kP:=λd e=>match f d e with|some (.nx a b)=>g a b|o=>o
def iP(j:Nat)(f:Û):kP:=λa b=>AG (f a) λd=>Z (.nx (a.set j (Z d)) b)
def oIf(c:ñ)(f g:kP):kP:=λa b=>AG (c a) λk=>if k then f a b else g a b
def JP(i:Nat)(c:ñ)(f g:kP):kP:=λa b=>AG (c (a.set i (Z (.lst b)))) λk=>if k then f a b else g a b
def JQ(i:Nat)(f:Û):kP:=λa b=>AG (f (a.set i (Z (.lst b)))) λd=>Z (.rt d)
def EF(f:Û):kP:=λa b=>if b.length<100000 then AG (f a) λd=>Z (.nx a (b++[d]))else U
def AH(h:g e=U)(a:Õ (å g e (.lst ζ)) ξ):∃f,ξ=å f e (.lst ζ)/\f e=U/\Õ g f:=by
 refine⟨λb=>if b=e then U else ξ b,?_,by simp,λb u q=>?_⟩
 · funext b;by_cases d:b=e;·subst d;rw[ao];exact a b _ ao
   ·rw[aq d];simp[d]
 ·have d:=aA q h;simp![d];exact a b u (by rw[aq d];exact q)
def jv(a:g e=U):Õ g (å g e (.lst ζ)):=aG a _
variable{ε:Ev}{u:W%0}
def nN(i:g e=U)(n:Θ[b]?=Z (Z (.ref e)))(E:â a.K g Θ ε)(r:S a.K g u ζ):â a.K (å g e (.lst ζ)) Θ (ε.set b (Z (.lst u))):=by
 have k:=E.mono (jv (ζ:=ζ) i);refine⟨by rw[XR];exact k.len,λj d f=>?_⟩;by_cases h:b=j
 · subst h;by_cases m:b<ε.length;·rw[K_ m]at f;cases f;exact⟨_,n,e,ζ,rfl,ao,S.mono (jv i) _ _ r⟩
   ·rw[X1 (by rw[XR];lia)]at f;cases f
 ·rw[z_ h]at f;exact k.at' j d f
def JR:ų a b [] MO:=⟨λi s e n D I⟨H,d,f,k,m,j,h,g,E,r,o⟩=>by subst j;exact u8 i s e _ D I (o e H f (.refl H) h g E r)⟩
def EG{f g:kP}(P:Ů a b Γ f)(A:ų a b Υ g):ų a b (Γ::Υ) (hU f g):=⟨λQ s u Hf D I⟨H,e,v,p,q,e1,z,y,E,r,o⟩=>by refine gM P.h A.h Q s u Hf D I ⟨H,e,v,p,q,e1,z,y,E,r,?_⟩;unfold hU at o;match h:f p q with|none=>rw[h]at o;exact o.elim|some (.rt d)=>rw[h]at o;exact o|some (.nx i n)=>rw[h]at o;exactλa' H' j e' m k E' w=>⟨H',e,j,i,n,rfl,m,k,E',w,ĝ.mono e' o⟩⟩
def JU{f:kP}(d:Ů a b Γ f):ų a b [Γ] f:=⟨qG d.h⟩
def Ox(p:a.ex=[])(j:Nat)(m:b≠j){x:Str}{f:Pos}(hN:a.N.Nodup)(Q:a.N[j]?=Z x)(A:ŋ a.env.scope x)(he:FE a h z)(P:Yb h (Z (.Name x f)) k.line a.env=pure h_:=by lk)(hf:a.fn x=L\/a.env.scope.names.lookup x=Z .local:=by first|exact .inl rfl|exact .inr rfl|assumption):Ů a b (.Assign [.Name x f] h k) (iP j z):=⟨λf' s y Hf D I⟨H,e,w,u,ds,e1,ha,n,E,r,o⟩=>by refine pB hN Q A (vq p he.h) P hf f' s y Hf D I ⟨H,e,w,e1,ha,u,E,?_⟩;unfold iP at o;match g:z u with|none=>rw[g]at o;exact o.elim|some (.exc _)=>rw[g]at o;exact o.elim|some (.ok d)=>rw[g]at o;exactλv H' i rd q=>o _ H' w i q (by rw[z_ (YH m)];exact n) ((E.mono i).set rd) (S.mono i _ _ r)⟩
variable{Ξ:ñ}
def TD{f g:kP}(u:a.ex=[]){z y:Yd%0}(P:FT a h Ξ)(ha:ų a b z f)(Q:ų a b y g):Ů a b (.If h z y k) (oIf Ξ f g):=⟨λf' s A Hf D I⟨H,d,n,j,w,e1,v,i,E,r,o⟩=>by refine DP (JM u P.h) ha.h Q.h f' s A Hf D I ⟨H,d,n,e1,v,j,E,?_⟩;unfold oIf at o;match m:Ξ j with|none=>rw[m]at o;exact o.elim|some (.exc _)=>rw[m]at o;exact o.elim|some (.ok L)=>rw[m]at o;exactλq e p=>D7 ⟨q,d,n,j,w,rfl,p,i,E.mono e,S.mono e _ _ r,ĝ.mono e o⟩|some (.ok h_)=>rw[m]at o;exactλq e p=>D6 ⟨q,d,n,j,w,rfl,p,i,E.mono e,S.mono e _ _ r,ĝ.mono e o⟩⟩
def Oy{f g:kP}{z:Yd%0}(P:FT a h Ξ)(ha:ų a b Υ f)(Q:ų a b z g):Ů a b (.If h Υ z k) (JP b Ξ f g):=⟨λf' s A Hf D I⟨H,d,w,v,y,e1,j,i,E,r,o⟩=>by subst e1;refine DP P.h ha.h Q.h f' s A _ D I ⟨_,nN j i E r,?_⟩;unfold JP at o;match m:Ξ _ with|none=>rw[m]at o;exact o.elim|some (.exc _)=>rw[m]at o;exact o.elim|some (.ok L)=>rw[m]at o;intro H2 q;obtain⟨u,p,n,e⟩:=AH j q;exact D7 ⟨u,d,w,v,y,p,n,i,E.mono e,S.mono e _ _ r,ĝ.mono e o⟩|some (.ok h_)=>rw[m]at o;intro H2 q;obtain⟨u,p,n,e⟩:=AH j q;exact D6 ⟨u,d,w,v,y,p,n,i,E.mono e,S.mono e _ _ r,ĝ.mono e o⟩⟩
def Oz(m:FE a h z):Ů a b (.Return (Z h) k) (JQ b z):=⟨λn s j P D I⟨H,e,y,w,A,q,f,i,E,r,o⟩=>by subst q;refine zC m.h n s j _ D I ⟨_,nN f i E r,?_⟩;unfold JQ at o;match g:z _ with|none=>rw[g]at o;exact o.elim|some (.exc _)=>rw[g]at o;exact o.elim|some (.ok d)=>rw[g]at o;exactλv u p rd=>o v u ((jv f).trans p) rd⟩
def OA(P:a.ex=[]){x:Str}{g f:Pos}(hx:PE a (.Name x g) (zv b))(he:FE a h z)(n:X_ (.Name x g) "append" a.env (eval (.Name x g) a.env)=eval (.Name x g) a.env:=by lk)(u:((Xv f (k_ [h] a.env)).all (λx=>!x.1)&&(Y_ f (Yq [] a.env)).all (λx=>x.1.isSome)&&A_ ([h].length+([]:Zc%0).length+(if([]:Zc%0).isEmpty then 0 else 1)<30))=L:=by lk){y:Pos}(m:(y.endLine==f.line)=L:=by lk)(hs:k_ [h] a.env=(h_,eval h a.env)::k_ [] a.env:=by lk)(j:(Xv f (k_ [] a.env)).any (·.1)=h_:=by lk)(A:Yb (.Call (.Attribute (.Name x g) "append" y) [h] [] f) U k.line a.env=pure h_:=by lk):Ů a b (.Expr (.Call (.Attribute (.Name x g) "append" y) [h] [] f) k) (EF z):=⟨λf' s σ Hf D I⟨H,e,p,ρ,ds,e1,a',q,E,r,o⟩=>by
 refine u9 (zZ Zi aam acB sO hx (JN P (vi he z7 hs).h) n u m hs j) A f' s σ Hf D I ?_;unfold EF at o;split at o;·match i:z ρ with
  |none=>rw[i]at o;exact o.elim|some (.exc _)=>rw[i]at o;exact o.elim|some (.ok d)=>
  rw[i]at o;refine⟨_,q,.inl ⟨rfl,p,ā.of (by rw[e1];exact ao)⟩,H,e,p,e1,a',ρ,E,?_⟩;rw[ac i ak];intro vs H' w rs Q;obtain⟨v,rfl,rv⟩:=dL rs;have hz:p.length<sizeLine:=by have:=r.length;have h2:=bC (b:=p.length+1) ();lia
  refine⟨e,p,v,rfl,rfl,ao,hz,?_⟩;rw[zr];exact o σ H' _ w Q q (E.mono w) ((S.mono w _ _ r).append ⟨v,[],rfl,rv,rfl⟩)
 ·exact o.elim⟩
def EH(i:Nat)(g:ê)(f:kP):á:=λe=>c9 (g e) λh=>if h.length<=100000 then(match f (e.set i U) h with|some (.nx a b)=>Z (.nx (a.set i (Z (.lst b))))|some (.rt d)=>Z (.rt d)|none=>U)else U
variable{μ:ê}{Λ:Pos}
def JV{f:kP}(hN:a.N.Nodup)(hi:a.N[b]?=Z d)(hx:ŋ a.env.scope d)(hg:FA a s μ)(hr:ų a b Υ f)(hs:Yb (.List s w) (Z (.Name d Λ)) k.line a.env=pure h_:=by lk)(hf:a.fn d=L\/a.env.scope.names.lookup d=Z .local:=by first|exact .inl rfl|exact .inr rfl|assumption):Ĩ a (.Assign [.Name d Λ] (.List s w) k::Υ) (EH b μ f):=⟨λf' g σ H D I⟨y,E,o⟩=>by refine gM (pB hN hi hx (wI hg.h) hs hf) hr.h f' g σ H D I ⟨y,E,?_⟩;unfold EH at o;match i:μ y with
 |none=>rw[i]at o;exact o.elim|some (.exc _)=>rw[i]at o;exact o|some (.ok q)=>
 rw[i]at o;intro vs H1 P rs;have h:ÿ a H (if q.length<=100000 then(match f _ q with|some (.nx b' g')=>Z _|some (.rt e)=>Z _|none=>U)else U) D:=o;by_cases A:q.length<=100000
 · rw[if_pos A]at h;refine⟨by rw[rs.length];exact bC A,λp hp=>?_⟩;refine⟨H1,p,vs,y.set b U,q,rfl,hp,K_ (by rw[I.len];exact(u_.mp hi).1),?_,rs,?_⟩
   · have E1:=(E.mono P).fgt1 b;refine⟨by rw[XR];exact E1.len,λj e n=>?_⟩;by_cases r:b=j
     · subst r;by_cases c':b<y.length;·rw[K_ c']at n;cases n
       ·rw[X1 (by rw[XR];lia)]at n;cases n
     ·obtain⟨v,q1,q2⟩:=E1.at' j e n;exact⟨v,by rw[z_ r];exact q1,q2⟩
   ·match m:f _ q with|none=>rw[m]at h;exact h.elim|some (.rt e)=>rw[m]at h;exactλv H' Q z=>h v H' (P.trans Q) z|some (.nx b' g')=>rw[m]at h;exactλa' H' h' Q u d' E' z=>h a' _ ((P.trans Q).trans (jv u)) (nN u d' E' z)
 ·rw[if_neg A]at h;exact h.elim⟩
def qU(j:Nat)(f:Nat%0)(a:kP):W%0->Ev->W%0->Fo%1|[],b,e=>Z (.nx (fgt f b) e)|d::i,b,e=>match a ((fgt f b).set j (Z d)) e with|some (.nx g h)=>qU j f a i g h|o=>o
def DD(j:Nat)(g:Nat%0)(b:ê)(a:kP):kP:=λd f=>AG (b d) λe=>if é e=L then qU j g a e d f else U
def mT:∀{a:W%0}{n:Nat}{d:W},é a=L->a[n]?=Z d->ĩ d=L
 |[],_,_,_,h=>by simp at h|e::a,0,d,i,h=>by
  have b:ĩ e=L/\é a=L:=by simpa[é]using i
  cases((h));exact b.1|e::a,n+1,d,i,h=>by
  have b:ĩ e=L/\é a=L:=by simpa[é]using i
  exact mT b.2 ((h))
def EI(i:ĩ m=L)(r:Ü q (å g e (.lst ζ)) m υ):Ü q g m υ:=Ü.tups (λb f a=>by
 by_cases d:b=e;·rw[d,ao]at a;cases a
 ·rw[aq d]at a;exact a) m υ i r
def OB{fb:kP}(n':a.ex=[])(j:Nat)(js:Nat%0)(k':b≠j)(hp:aaG (B_ a.prog a.w) a.A a.env a.xe)(hc:a.calm=L)(hi:FI a h v μ)(hg:PG a h (qH j))(hb:ų a b Υ fb)(hs:∀x,V_ v a.env x=pure x:=by intro _;lk):Ů a b (.For h v Υ [] k) (DD j js μ fb):=⟨λf' s σ Hf D I⟨H,e,xs,ρ,ds,e1,ha,l',E,r,o⟩=>by refine sx hp hc (JO n' hi.h) hg hb.h hs f' s σ Hf D I ⟨H,e,xs,e1,ha,ρ,E,?_⟩;unfold DD at o;match hf:μ ρ with
 |none=>rw[hf]at o;exact o.elim|some (.exc _)=>rw[hf]at o;exact o.elim|some (.ok u)=>
 rw[hf]at o;have o0:ĝ a b e H (if é u=L then qU j js fb u ρ ds else U) D:=o;by_cases Q:é u=L
 · rw[if_pos Q]at o0;intro J H1 e1 wk p';refine⟨λn m w d'=>m=u.length-n/\n<=u.length/\∃g f A i,d'=å g e (.lst f)/\g e=U/\Õ H1 g/\w[b]?=Z _/\â a.K g w A/\S a.K g i f/\ĝ a b e g (qU j js fb (u.drop n) A i) D,⟨u.length,by simp,XG _,H1,xs,ρ,ds,rfl,p',.refl H1,l',E.mono e1,S.mono e1 _ _ r,by simpa using(ĝ.mono e1 o0)⟩,?_⟩;rintro n m w d'⟨rfl,hn,g,f,A,i,rfl,b',e2,z,E',r',p⟩;have c':Õ H1 (å g e (.lst f)):=e2.trans (jv b');by_cases P:n<u.length;·refine .inr ⟨wk.go n _ c' P,_,λe' s' q=>⟨_,by lia,rfl,P,q⟩,λx H2 y=>?_⟩;obtain⟨rfl,d,hd,rd⟩:=wk.yld n _ x H2 c' P y;rw[gf hd]at p;refine⟨g,e,f,_,i,rfl,b',by rw[z_ (YH k')];exact z,(â.fgt js E').set (EI (mT Q hd) rd),r',?_⟩;unfold qU at p;match a':fb _ i with|none=>rw[a']at p;exact p|some (.rt r)=>rw[a']at p;exact p|some (.nx g' q')=>rw[a']at p;exactλe' H3 h' e3 h3 m' E3 r3=>⟨H3,h',g',q',rfl,h3,e2.trans e3,m',E3,r3,ĝ.mono e3 p⟩
   · have i':n=u.length:=by lia
     subst i';rw[Zv]at p;exact .inl ⟨wk.stop _ c',p w g f (.refl g) b' z (â.fgt js E') r'⟩
 ·rw[if_neg Q]at o0;exact o0.elim⟩
def tz:W->Bool|.bl _=>L|.int _=>L|_=>h_
def JW(K:d_)(d:W):Zx K (.type (tyD d)) (.type "int")=Z (tz d):=by cases d<;>lk
def EJ:W->Bool|.lst _=>L|.scr _=>L|_=>h_
def OC:Yz (b_ "int")=Z (.type "int"):=by lk
def R6:Þ|[.int i,.int j]=>(.int (if j<i then j else i))%3|_=>U
def TF:Þ|[.int i]=>if i.natAbs.log2<1920 then .str (toString i)%3 else U|_=>U
def OD(u:a.calm=L)(p:Gl a "min")(n:a.mg "min"=U)(y:FA a (h::s) μ)(q:h%8:=by lk)(d:(Xv w (k_ s a.env)).any (·.1)=h_:=by lk):FE a (.Call (.Name "min" k) (h::s) [] w) (ì R6 μ):=dI (iM (zN u) p n PyProof.Rows.boot_min y.h #v[] #v[] q d) λz H Q f E o=>⟨f,E,ô.bind o λI A e D g b=>by
 unfold R6 at b;split at b;·rename_i i j;obtain⟨v,v2,rfl,r,m⟩:=Jm g;cases((r));cases((m));exact⟨i,j,rfl,b _ e (.refl e) rfl⟩
 ·exact b.elim⟩
def ń:W->W->Rs W%1|.int i,.int j=>.bl (A_ (i<=j))%3|.str x,.str y=>.bl (!A_ (y.cps.toList<x.cps.toList))%3|_,_=>U
def V1:R2:=λx y H Q=>ŧ (λi j=>.bl (A_ (i<=j))) x y H Q\/∃i j,x=.str i/\y=.str j/\Q (.bl (!A_ (j.cps.toList<i.cps.toList))) H
def AI:ă a (XZ .LtE) (λx y H Q=>∃i j,x=.str i/\y=.str j/\Q (.bl (!A_ (j.cps.toList<i.cps.toList))) H):=by intro g s e H x y v u Q I d b h;obtain⟨i,j,rfl,rfl,q⟩:=h;obtain⟨t,rfl⟩:=d;obtain⟨f,rfl⟩:=b;exact PySem.P.le_str ⟨.bl _,H,I,rfl,q⟩
def TH:ă a (XZ .LtE) V1:=op_le.or AI
def TJ:Ĝ a V1 ń:=by
 intro f e x y H Q d b o;cases f<;>cases e<;>try exact((o)).elim
 ·rename_i i j;exact .inl ⟨i,j,d,b,o _ H (.refl H) rfl⟩
 ·rename_i i j;exact .inr ⟨i,j,d,b,o _ H (.refl H) rfl⟩
def TM(K:d_)(S:Nat%0)(a:O%0)(b:O):Bool:=excIn K b ů "ValueError.__new__"&&S.all λc=>excIn K (a.getD c 0) ů "ValueError.__new__"&&xiB K (a.getD c 0)&&mroIn K (a.getD c 0) (.ref b)==Z L&&mroIn K (a.getD c 0) (.ref (a.getD c 0))==Z L&&kitOne K (.ref (a.getD c 0)) (.type "ValueError")==Z L&&S.all λd=>kitOne K (.ref (a.getD c 0)) (.ref (a.getD d 0))==Z (c==d)
structure ē(K:d_)(S:Nat%0)(cls:Nat->O)(CJ:O):Prop where at_:∀c∈S,nsIn K E_ (Į c)=Z (Z (.ref (cls c)))/\excIn K (cls c) ů "ValueError.__new__"=L/\XI K (cls c)/\mroIn K (cls c) (.ref CJ)=Z L/\mroIn K (cls c) (.ref (cls c))=Z L/\kitOne K (.ref (cls c)) (.type "ValueError")=Z L/\∀d∈S,kitOne K (.ref (cls c)) (.ref (cls d))=Z (c==d)exJ:excIn K CJ ů "ValueError.__new__"=L
def EK{S:Nat%0}(f:∀c∈S,nsIn q E_ (Į c)=Z (Z (.ref (η.getD c 0))))(h:TM q S η e=L):ē q S (λc=>η.getD c 0) e:=by unfold TM at h;rw[n_]at h;refine⟨λc b=>?_,h.1⟩;have a:=XQ.mp h.2 c b;simp![n_,beq_iff_eq]at a;exact⟨f c b,a.1.1.1.1.1,Tt a.1.1.1.1.2,a.1.1.1.2,a.1.1.2,a.1.2,λd g=>by simpa using(XQ.mp a.2 d g)⟩
section
variable{K:d_}{S:Nat%0}{cls:Nat->O}{CJ:O}(x:ē K S cls CJ)
include x
theorem ē.xc(c:Nat)(h:c∈S):XC K c (cls c):=⟨(x.at_ c h).1,(x.at_ c h).2.1⟩
theorem ē.same{c:Nat}{C:O}(h:c∈S)(q:nsIn K E_ (Į c)=Z (Z (.ref C))):C=cls c:=by have z:=(x.at_ c h).1;rw[q]at z;cases z;rfl
theorem ē.xtV:XT K (λc=>if S.contains c then Z L else U) (.type "ValueError"):=λc b a C q=>by
 dsimp only at a;split at a
 · rename_i h;have d:c∈S:=by simpa using h
   cases a;rw[x.same d q];exact⟨(x.at_ c d).2.2.1,(x.at_ c d).2.2.2.2.2.1⟩
 ·cases a
end
end FD
variable{u:FD.W%0}{Θ:L2.St}{ε:FD.Ev}{m:FD.W}{Â:FD.Þ}{z:FD.Û}{Ξ:FD.ñ}{Ψ:FD.á}{Ñ:FD.Û}{μ:FD.ê}{π:FD.W}{Λ:Pos}{À:(Str×Nat)%0}{Í:FD.ñ%1}
namespace ST
open PySem.SetTable
def stp(m i:Nat):Nat:=(i*5+1)%(m+1)
def it(m:Nat):Nat->Nat->Nat|0,i=>i|k+1,i=>it m k (stp m i)
def AJ(m:Nat):Bool:=(y_ (m+1)).all λi=>(y_ (m+1)).all λj=>(y_ (m+1)).any λk=>it m k i==j
def WT:AJ 7=L:=rfl
def TN:AJ 31=L:=by decide+kernel
def wV(m:Nat):∀(a b i:Nat),it m (a+b) i=it m b (it m a i)|0,b,i=>by rw[aaf];rfl|a+1,b,i=>by rw[aeB];exact wV m a b _
def orb(m:Nat):Nat->Nat->Nat%0|0,_=>[]|n+1,i=>i::orb m n (stp m i)
def HF(m:Nat):∀(n i j:Nat),j∈orb m n i->∃k,k<n/\it m k i=j
 |0,_,_,h=>by simp[orb]at h|n+1,i,j,h=>by
  rcases p_.mp h with rfl|h;·exact⟨0,by lia,rfl⟩
  ·obtain⟨k,b,a⟩:=HF m n _ j h;exact⟨k+1,by lia,a⟩
def JX:((y_ 128).all λj=>(orb 127 128 0).contains j)=L:=by decide+kernel
def EM:it 127 128 0=0:=rfl
def OE:AJ 127=L:=by
 have d:=λj e=>by have:=XQ.mp JX j (X5.mpr e);exact HF 127 128 0 j (by simpa using this)
 refine XQ.mpr λi h=>XQ.mpr λj e=>Z9.mpr ?_;obtain⟨a,n,g⟩:=d i (X5.mp h);obtain⟨b,m,f⟩:=d j (X5.mp e);by_cases k:a<=b;·refine⟨b-a,X5.mpr (),?_⟩;rw[<-g,<-wV,show a+(b-a)=b by lia,f];simp
 ·refine⟨128-a+b,X5.mpr (),?_⟩;rw[<-g,<-wV,show a+(128-a+b)=128+b by lia,wV,EM,f];simp
def OF(h:AJ b=L){i j:Nat}(f:i<=b)(d:j<=b):∃k,k<=b/\it b k i=j:=by unfold AJ at h;obtain⟨k,a,e⟩:=Z9.mp (XQ.mp (XQ.mp h i (X5.mpr ())) j (X5.mpr ()));exact⟨k,by have:=X5.mp a;lia,by simpa using e⟩
def lp(m:Nat):Nat->Nat×Nat->Nat×Nat|0,x=>x|r+1,x=>lp m r (leap m x.1 x.2)
def AK(m:Nat):∀(a b:Nat)(x:Nat×Nat),lp m (a+b) x=lp m b (lp m a x)|0,b,x=>by rw[aaf];rfl|a+1,b,x=>by rw[aeB];exact AK m a b _
def JZ(m:Nat):∀(r:Nat)(x:Nat×Nat),x.1<=m->(lp m r x).1<=m|0,x,h=>h|r+1,x,h=>JZ m r _ (by exact ZN (aaW _ (abg m)))
def OG(m:Nat):∀(r:Nat)(x:Nat×Nat),(lp m r x).2=x.2/32^r|0,x=>by simp[lp]|r+1,x=>by show(lp m r _).2=_;rw[OG m r];show x.2/32/32^r=_;rw[Nat.div_div_eq_div_mul,Nat.pow_succ,Nat.mul_comm]
def AM(m:Nat):∀(r:Nat)(i:Nat),(lp m r (i,0)).1=it m r i|0,i=>rfl|r+1,i=>by show(lp m r (leap m i 0)).1=it m r _;have e:leap m i 0=(stp m i,0):=rfl;exact AM m r _
def AN(c:AJ b=L){i a j:Nat}(f:i<=b)(m:a<2^64)(d:j<=b):∃r,r<=13+b/\(lp b r (i,a)).1=j:=by
 have g:(lp b 13 (i,a)).2=0:=by rw[OG];exact Nat.div_eq_of_lt ()
 obtain⟨k,n,e⟩:=OF c (JZ b 13 (i,a) f) d;refine⟨13+k,by lia,?_⟩;rw[AK];have h:lp b 13 (i,a)=((lp b 13 (i,a)).1,0):=by rw[<-g]
 rw[h,AM];exact e
def advN(t:SetTable):Nat->Probe->Probe|0,p=>p|n+1,p=>advN t n (t.advance p)
def kQ(t:SetTable):∀(a b:Nat)(p:Probe),advN t (a+b) p=advN t b (advN t a p)|0,b,p=>by rw[aaf];rfl|a+1,b,p=>by rw[aeB];exact kQ t a b _
structure Vp(t:SetTable)(p:Probe):Prop where
 i:p.i<=t.mask
 pt:p.perturb<2^64more:p.more<=9dm:p.dummy=U
def tE(m i:Nat):runEnd m i-i<=9:=by unfold runEnd;split<;>lia
def wW(t:SetTable)(p:Probe):Probe:={p with j:=(leap t.mask p.i p.perturb).1,more:=runEnd t.mask (leap t.mask p.i p.perturb).1-(leap t.mask p.i p.perturb).1,i:=(leap t.mask p.i p.perturb).1,perturb:=(leap t.mask p.i p.perturb).2}
def wX(t:SetTable)(p:Probe)(h:p.more=0):t.advance p=wW t p:=by unfold aeK wW;rw[if_neg ()]
def AO(t:SetTable)(p:Probe)(h:0<p.more):t.advance p={p with j:=p.j+1,more:=p.more-1}:=by unfold aeK;rw[if_pos h]
def vt(t:SetTable):∀(k:Nat)(p:Probe),p.more=k->advN t (k+1) p=wW t p|0,p,h=>wX t p h|k+1,p,h=>by show advN t _ (t.advance p)=_;rw[AO t p (),vt t k _ (by show p.more-1=k;lia)];rfl
def AQ(m i a:Nat)(h:a<2^64):(leap m i a).2<2^64:=ace (Nat.div_le_self _ _) h
variable{Β:SetTable}
def Vp.leap{p:Probe}(v:Vp Β p):Vp Β (wW Β p):=⟨by exact ZN (aaW _ (abg Β.mask)),(show(SetTable.leap Β.mask p.i p.perturb).2<2^64 from AQ _ _ _ v.pt),((tE _ _)),v.dm⟩
def Vp.adv{p:Probe}(v:Vp Β p):Vp Β (Β.advance p):=by
 by_cases h:0<p.more;·rw[AO Β p h];exact⟨v.i,v.pt,by have:=v.more;lia,v.dm⟩
 ·rw[wX Β p ()];exact v.leap
def Vp.advN{t:SetTable}:∀(n:Nat){p:Probe},Vp t p->Vp t (advN t n p)|0,p,v=>v|n+1,p,v=>Vp.advN n v.adv
def wY(t:SetTable):∀(r:Nat)(p:Probe),Vp t p->∃n,n<=10*r/\(advN t n p).i=(lp t.mask r (p.i,p.perturb)).1/\(r≠0->(advN t n p).j=(advN t n p).i)
 |0,p,v=>⟨0,by lia,rfl,(absurd rfl)⟩|r+1,p,v=>by
  obtain⟨n,f,e,d⟩:=wY t r _ v.leap;refine⟨p.more+1+n,by have:=v.more;lia,?_,λ_=>?_⟩;·rw[kQ,vt t p.more p rfl,e];rfl
  · rw[kQ,vt t p.more p rfl];by_cases a:r=0
    · have b:n=0:=by lia
      subst b;rfl
    ·exact d a
structure Tb(t:SetTable)(n:Nat):Prop where
 size:t.place.size=n
 dm:t.dummies=#[]cyc:AJ t.mask=L
 room:n<=t.mask
def pP(T:Tb Β b)(j:Nat):Β.slot j=.empty\/∃i,Β.slot j=.live i/\Β.place[i]?=Z j:=by
 unfold SetTable.slot;dsimp!;split;·rename_i h;exact .inr ⟨_,rfl,by simpa using h⟩
 ·rw[T.dm];exact .inl rfl
def AR:∀(m:Nat)(l:Nat%0),l.length<=m->∃j,j<=m/\j∉l
 |0,l,h=>⟨0,o_ _,by have:l=[]:=Y4.mp ();simp[this]⟩      |m+1,l,h=>by
  by_cases a:(m+1)∈l;·obtain⟨j,e,b⟩:=AR m _ (by rw[List.length_erase_of_mem a];lia);exact⟨j,by lia,λd=>b ((List.mem_erase_of_ne ()).mpr d)⟩
  ·exact⟨_,o_ _,a⟩
def EN(T:Tb Β b):∃j,j<=Β.mask/\Β.slot j=.empty:=by
 obtain⟨j,d,a⟩:=AR Β.mask Β.place.toList (by simp[T.size,T.room]);refine⟨j,d,?_⟩;rcases pP T j with h|⟨i,h,e⟩;·exact h
 ·exact absurd (ZO.mpr (Array.mem_of_getElem? e)) a
def TQ(T:Tb Β b){p:Probe}(v:Vp Β p):∃N,N<10*aeW Β.mask/\Β.slot (advN Β N p).j=.empty:=by obtain⟨j,a,d⟩:=EN T;obtain⟨r,h,e⟩:=AN T.cyc (JZ Β.mask 1 (p.i,p.perturb) v.i) (by exact AQ _ _ _ v.pt) a (a:=(lp Β.mask 1 (p.i,p.perturb)).2);obtain⟨N,i,g,f⟩:=wY Β (1+r) p v;refine⟨N,by unfold aeW;lia,?_⟩;rw[f (),g,AK,e];exact d
def first{P:Nat->Prop}[DecidablePred P]:∀(b:Nat),(∃n,n<b/\P n)->∃n,n<b/\P n/\∀k,k<n->¬P k
 |0,⟨n,h,_⟩=>absurd h (aaS _)|b+1,⟨n,h,a⟩=>by
  by_cases q:∃n,n<b/\P n;·obtain⟨n,i,g,f⟩:=first b q;exact⟨n,by lia,g,f⟩
  · have d:n=b:=by have:=λz=>q ⟨n,z,a⟩;lia
    subst d;exact⟨n,by lia,a,λk e z=>q ⟨k,e,z⟩⟩
def OH(T:Tb Β b){p:Probe}(v:Vp Β p):∃N,N<10*aeW Β.mask/\Β.slot (advN Β N p).j=.empty/\∀k,k<N->Β.slot (advN Β k p).j≠.empty:=first _ (TQ T v)
def HG{t:SetTable}{n:Nat}(T:Tb t n)(a:Nat->Int)(h:Int):∀(N b:Nat)(p:Probe),Vp t p->N<b->t.slot (advN t N p).j=.empty->(∀k,k<N->t.slot (advN t k p).j≠.empty)->acL t a h b p=Z (.empty (advN t N p).j U)\/∃m i,m<N/\t.slot (advN t m p).j=.live i/\t.place[i]?=Z (advN t m p).j/\a i=h/\acL t a h b p=Z (.candidate (advN t m p).j i (advN t (m+1) p))
 |N,0,p,v,e,_,_=>absurd e (aaS _)|0,b+1,p,v,e,f,_=>by refine .inl ?_;unfold acL;rw[show t.slot p.j=.empty from f];rw[v.dm];rfl|N+1,b+1,p,v,e,f,j=>by
  rcases pP T p.j with A|⟨i,g,z⟩;·exact absurd A (j 0 ())
  · by_cases d:a i=h;·refine .inr ⟨0,i,by lia,g,z,d,?_⟩;unfold acL;rw[g];dsimp!;rw[if_pos (by simpa using d)];rfl
    · have o:acL t a h (b+1) p=acL t a h b (t.advance p):=by
       conv=>lhs;unfold acL
       rw[g];dsimp!;rw[if_neg (by simpa using d)]
      rcases HG T a h N b _ v.adv () f (λk E=>j (k+1) ())with q|⟨m,y,D,w,u,s,r⟩;·exact .inl (by rw[o,q];rfl)
      ·exact .inr ⟨m+1,y,by lia,w,u,s,by rw[o,r];rfl⟩
def AS(h:Int):Vp Β (Β.probeStart h):=⟨by exact ZN (aaW _ (abg Β.mask)),by show bits h<2^64;unfold bits;lia,tE _ _,rfl⟩
def tG{m:Nat}{a:Array (Nat%1)}:∀(b i d:Nat),i<=m->(∃r,r<b/\(a.getD (lp m r (i,d)).1 (Z 0)).isNone=L)->∃j,abz m a b i d=Z j/\(a.getD j (Z 0)).isNone=L
 |0,i,d,_,⟨r,h,_⟩=>absurd h (aaS _)|b+1,i,d,g,⟨r,h,e⟩=>by
  unfold abz;split;·rename_i k f;exact⟨_,rfl,by simpa using ae5 f⟩
  ·rename_i f;cases r with|zero=>have:=ach.mp f 0 (X5.mpr (by unfold runEnd;split<;>lia));exact absurd ((e)) this|succ r=>exact tG b _ _ (by exact ZN (aaW _ (abg m))) ⟨r,by lia,e⟩
def HH:∀(l:Option Nat%0)(j k:Nat),l[j]?=Z U->((l.set j (Z k)).filterMap id).Perm (k::l.filterMap id)
 |[],j,k,h=>by simp at h|x::l,0,k,h=>by
  have:x=U:=by simpa using h
  subst this;simp|x::l,j+1,k,h=>by have a:=HH l j k (by simpa using h);cases x with|none=>simpa using a|some y=>exact(a.cons y).trans (adN ..)
def AT:∀(l:Option Nat%0),(l.filterMap id).length<l.length->∃j,j<l.length/\l[j]?=Z U|[],h=>by simp at h|none::l,h=>⟨0,by simp,rfl⟩|some y::l,h=>by obtain⟨j,b,a⟩:=AT l (by simpa using h);exact⟨j+1,by simpa using b,by simpa using a⟩
def J0(m:Nat)(b:(Array (Nat%1)×Nat)%1)(h:Int):(Array (Nat%1)×Nat)%1:=do let(a,k)<-b let j<-abz m a (aeW m) (bits h%(m+1)) (bits h)pure (a.setIfInBounds j (Z k),k+1)
def J4(h:Int):bits h<2^64:=by unfold bits;lia
def getD_none{a:Array (Nat%1)}(h:(a.getD b (Z 0)).isNone=L):b<a.size/\a.toList[b]?=Z U:=by rw[aas]at h;cases q:a[b]? with|none=>rw[q]at h;simp at h|some x=>
 rw[q]at h;have d:x=U:=by simpa using h
 subst d;refine⟨(Yw.mp q).1,by rw[ZD];exact q⟩
def AU{m:Nat}(c:AJ m=L):∀(b:Int%0)(a:Array (Nat%1))(k:Nat),a.size=m+1->(a.toList.filterMap id).Perm (y_ k)->k+b.length<=m->∃d,b.foldl (J0 m) (Z (a,k))=Z (d,k+b.length)/\d.size=m+1/\(d.toList.filterMap id).Perm (y_ (k+b.length))
 |[],a,k,f,g,n=>⟨a,rfl,f,g⟩|h::b,a,k,f,g,n=>by
  have y:k+(b.length+1)<=m:=by simpa using n
  obtain⟨p,w,o⟩:=AT a.toList (by rw[g.length_eq,aaq];simp![Yj,f];lia);have i:p<=m:=by simp![Yj,f]at w;lia
  obtain⟨r,D,v⟩:=AN c (i:=bits h%(m+1)) (ZN (aaW _ (abg m))) (J4 h) i;obtain⟨j,f1,R⟩:=tG (aeW m) (bits h%(m+1)) _ (ZN (aaW _ (abg m))) ⟨r,by unfold aeW;lia,by rw[v,aas];rw[ZD]at o;rw[o];rfl⟩;obtain⟨z,q⟩:=getD_none R;have e:J0 m (Z (a,k)) h=Z (a.setIfInBounds j (Z k),k+1):=by show(abz m a _ _ _).bind (λj=>Z _)=_;rw[f1];rfl
  rw[abN,e];obtain⟨d,A,u,s⟩:=AU c b (a.setIfInBounds j (Z k)) (k+1) (by rw[Array.size_setIfInBounds];exact f) (by rw[Array.toList_setIfInBounds];refine(HH _ _ _ q).trans ((g.cons k).trans ?_);rw[adk];exact(aaA k _).symm) ();refine⟨d,?_,u,?_⟩;·simp![Xu];lia
  ·simp![Xu];rw[show k+(b.length+1)=k+1+b.length by lia];exact s
def vv(c:AJ b=L)(d:Array Int)(i:d.size<=b):∃f,afj b d=Z f/\f.size=b+1/\(f.toList.filterMap id).Perm (y_ d.size):=by obtain⟨f,o,n,m⟩:=AU c d.toList (ae7 (b+1) U) 0 ∅ ∅ (by simpa using i);refine⟨f,?_,n,by simpa using m⟩;unfold afj;rw[<-Array.foldl_toList];have e:(List.foldl (λg h=>do let(a,k)<-g let j<-abz b a (aeW b) (bits h%(b+1)) (bits h)pure (a.setIfInBounds j (Z k),k+1)) _ d.toList)=d.toList.foldl (J0 b) (Z (ae7 (b+1) U,0)):=rfl;rw[e,o];rfl
def wZ:∀(l:Option Nat%0)(a:Nat),((y_ l.length).filterMap λj=>(l.getD j U).map (λx=>(a+j,x))).map (·.2)=l.filterMap id
 |[],a=>rfl|x::l,a=>by
  rw[Xu,adb,aaM,aci];have b:=wZ l (a+1);have e:(y_ l.length).filterMap ((λj=>((x::l).getD j U).map (λx=>(a+j,x)))∘Nat.succ)=(y_ l.length).filterMap λj=>(l.getD j U).map (λx=>(a+1+j,x)):=by congr 1;funext j;show((x::l).getD _ U).map _=_;simp![List.getD_cons_succ];rw[show a+(j+1)=a+1+j by lia]
  rw[e];cases x with|none=>simpa using b|some y=>simp![List.getD_cons_zero,Zp,F_];rw[b];rfl
variable{Δ:Nat}
def Ka(c:AJ b=L)(f:Array Int)(h:f.size<=b):∃t a,laid b o Δ H Ï f=Z (t,a)/\t.mask=b/\t.moves=Δ/\t.led=H/\t.plain=Ï/\Tb t f.size/\a.toList.Perm (y_ f.size):=by
 obtain⟨g,m,k,i⟩:=vv c f h;have e:=wZ g.toList 0;have d:((y_ (b+1)).filterMap λj=>(g.getD j U).map (j,·))=((y_ g.toList.length).filterMap λj=>(g.toList.getD j U).map (λx=>(0+j,x))):=by rw[Yj,k];congr 1;funext j;rw[aaf,aas,aaB,ZD]
 refine⟨_,_,by unfold laid;rw[m];rfl,rfl,rfl,rfl,rfl,⟨?_,rfl,c,h⟩,?_⟩;·simp![I_,T_];rw[d];have:=congrArg abG e;rw[T_]at this;rw[this,i.length_eq,aaq]
 ·rw[d,e];exact i
def kT(a:Array Q)(p:Nat)(x:Q)(h:p<=a.size):(insertAt a p x).size=a.size+1:=by unfold insertAt;simp![aeE,Array.size_push,Array.size_extract];lia
def w5(b:Array Nat)(j:Nat):below b j<=b.size:=by
 have:∀(a lo d:Nat),lo<=d->d<=b.size->aet b j a lo d<=b.size:=by intro a;induction a with|zero=>intro lo d g f;unfold aet;lia|succ a e=>
  intro lo d g f;unfold aet;split
  · dsimp!;split;·exact e _ _ () f
    ·exact e _ _ () ()
  ·lia
 exact this _ _ _ (XG _) (o_ _)
def OI(T:Tb Β b)(h:b+1<=Β.mask)(j:Nat):Tb (Β.put j).1 (b+1)/\(Β.put j).2<=b/\(Β.put j).1.mask=Β.mask/\(Β.put j).1.led=Β.led/\(Β.put j).1.moves=Β.moves:=by
 refine⟨⟨?_,?_,T.cyc,h⟩,?_,rfl,rfl,rfl⟩;·show(insertAt Β.place _ j).size=b+1;rw[kT _ _ _ (w5 _ _),T.size]
 ·show(if has Β.dummies j then eraseAt Β.dummies _ else Β.dummies)=#[];rw[T.dm];rfl
 ·rw[<-T.size];exact w5 _ _
abbrev TK(b:m_)(w:v_)(h:O_)(k:Str%0)(a:O):Prop:=IsTupleKey (strKind b w) h k a
abbrev Ŀ(a:m_)(w:v_)(k:Str%0):Int:=tupleKeyHash (strKind a w) k
def tH(h:ItemsAre (strKind p n) E P):∀v∈P,∃x t,v=.str x t:=by induction h with|nil=>intro v a;simp at a|@cons g e f P d _ b=>
 intro v a;rcases p_.mp a with rfl|a;·obtain⟨t,rfl⟩:=adY d;exact⟨_,_,rfl⟩
 ·exact b v a
def AV{Q:Bool->ge->Prop}(j:TK p n f.heap E e)(h:Q h_ f):xy (B_ p n) D (ofAClassStatement 8 (.ref e)) Q ν f:=by
 have hT:=j.typeIs;obtain⟨o,Ô,a,k,_,q,m⟩:=j;unfold ofAClassStatement;refine c_ (Z_ hT ?_);show xy _ _ ((if("tuple"=="tuple")=L then pure L else isSubtype (.type "tuple") (.type "tuple"))>>=_) _ _ f;refine c_ (i_ ?_);refine c_ (YY k q (c_ ?_));rw[<-aa2];refine aaD _ (λrest r d=>r.1=U/\d=f/\∀v∈rest,∃x t,v=Zh x t) _ ?_ ?_ _ _ ⟨rfl,rfl,tH m⟩;·rintro v rest r d⟨i,rfl,b⟩;obtain⟨x,t,rfl⟩:=b v on;refine c_ (i_ ?_);exact i_ ⟨rfl,rfl,λu g=>b u (pi _ g)⟩
 ·rintro⟨w,s⟩d⟨i,rfl,_⟩;subst i;exact i_ h
def OJ(m:TK p n f.heap E e){l:B%0}(q:∀v∈l,∃g a,v=.ref a/\TK p n f.heap g a){Q:Bool->ge->Prop}(h:Q h_ f):xy (B_ p n) D (searchCouldBeSeen (.ref e) l) Q ν f:=by
 refine c_ (aaD _ (λrest r i=>r.1=U/\i=f/\∀v∈rest,∃g a,v=U_ a/\TK p n f.heap g a) _ ?_ ?_ _ _ ⟨rfl,rfl,q⟩)
 · rintro v rest r i⟨k,rfl,d⟩;obtain⟨g,a,rfl,o⟩:=d v on;have b:=λu j=>d u (pi _ j);dsimp!;split;·exact i_ ⟨rfl,rfl,b⟩
   ·refine c_ (ado m ?_);refine c_ (ado o ?_);refine c_ (AV m ?_);refine c_ (AV o ?_);exact i_ ⟨rfl,rfl,b⟩
 ·rintro⟨w,s⟩i⟨k,rfl,_⟩;subst k;exact i_ h
def Ent(b:m_)(w:v_)(h:O_)(d:(Str%0)%0)(f:(Int×B)%0):Prop:=∀e∈f,∃k a,k∈d/\e.2=.ref a/\TK b w h k a
def qV(T:Tb Β b):Β.fits b=L:=by unfold afs afu;rw[T.size,T.dm];simp[T.room]
def AW{r:Array (Int×B)}{ks:(Str%0)%0}{Q:SetFound->ge->Prop}(hu:D.units<cLine)(ho:f.heap.get? e=Z Ä)(hd:Ä.data=.set r b Β)(T:Tb Β r.size)(hm:Β.mask%2=1)(hE:Ent p n f.heap ks r.toList)(hx:TK p n f.heap E A)(hk:E∉ks):∀(N k:Nat)(st:Probe%1),(∀d,st=Z d->Vp Β d)->N<k->Β.slot (advN Β N (st.getD (Β.probeStart y))).j=.empty->(∀m,m<N->Β.slot (advN Β m (st.getD (Β.probeStart y))).j≠.empty)->N<10*aeW Β.mask->(∀j,Q (.free j h_) f)->xy (B_ p n) D (ad8 e (.ref A) y H k st) Q ν f:=by intro N;induction N using Nat.strongRecOn with|_ N ih=>intro k st hv hf he hn hN hQ;cases k with|zero=>exact absurd hf (aaS _)|succ k=>
 have u:=qV T;have v:Vp Β (st.getD (Β.probeStart y)):=by cases st with|none=>exact AS y|some d=>exact hv d rfl
 refine c_ (Yc ho hd u ?_);dsimp!;have d':Β.gaveWay=h_:=by unfold SetTable.gaveWay;rw[hm];rfl
 rw[d'];simp![YB,if_false];unfold SetTable.probe;rcases HG T _ y N _ _ v hN he hn with q|⟨m,i,l',q1,q2,q3,q5⟩;·rw[q];exact i_ (hQ _)
 · rw[q5];dsimp!;have hi:i<r.size:=by have:=(Yw.mp q2).1;rw[T.size]at this;exact this
   obtain⟨k',a,c',ea,ta⟩:=hE _ (ZO.mpr (Array.getElem_mem hi));have hg:r[i]?=Z (r[i].1,.ref a):=by rw[Array.getElem?_eq_getElem hi,<-ea]
   have rest:xy (B_ p n) D (do
    let Z (_,g):=r[i]?|aeR "internal:set-entry"
    let o<-ű [g] (eqBool g (.ref A))let(g',_,t')<-setState e if(H&&o)=L then return SetFound.there U
    let Z same:=t'.sameMemory Β.moves Β.mask|aeR "set.changed-during-lookup:is-the-new-block-at-the-old-address"
    let w<-match(if same then t'.slot (advN Β m (st.getD (Β.probeStart y))).j else .empty)with
     |.live i'=>match g'[i']? with|some (_,y')=>do pure (if<-isSame y' g then Z i' else U)|none=>pure U
     |_=>pure U
    match w with|none=>rule "set.search.anew";ad8 e (.ref A) y H k U|some i'=>if o then return .there (Z i')else ad8 e (.ref A) y H k (Z (advN Β (m+1) (st.getD (Β.probeStart y))))) Q ν f:=by
    rw[hg];refine c_ (XY (wpAny_eqBool_tuple hu ta hx ?_));have b':A_ (k'=E)=h_:=decide_eq_false λz=>hk (z▸c');rw[b'];refine c_ (Yc ho hd u ?_);dsimp!;rw[Bool.and_false];have a':Β.sameMemory Β.moves Β.mask=Z L:=by unfold SetTable.sameMemory;simp
    rw[a'];dsimp!;rw[if_pos rfl,q1];dsimp!;rw[hg];dsimp!;have I:isSame (U_ a) (U_ a)=pure L:=by unfold isSame;dsimp!;rw[if_pos ∅]
    rw[I];refine c_ (c_ (i_ (i_ ?_)));refine ih (N-(m+1)) () k _ (λd hp=>by cases hp;exact Vp.advN _ v) () ?_ ?_ () hQ;·show Β.slot (advN Β _ (advN Β _ _)).j=.empty;rw[<-kQ,show m+1+(N-(m+1))=N by lia];exact he
    ·intro x h';show Β.slot (advN Β x (advN Β _ _)).j≠.empty;rw[<-kQ];exact hn _ ()
   by_cases s:Β.led=L;·rw[s];exact rest
   · have P:Β.led=h_:=by simpa using s
     rw[P];refine c_ (OJ hx (λv hv=>?_) ?_)
     · obtain⟨h,f',rfl⟩:=L_.mp hv;have e':h∈r.toList:=by have:=ZO.mp f';rw[Array.mem_filter]at this;exact ZO.mpr this.1
       obtain⟨k2,a2,_,e2,t2⟩:=hE h e';exact⟨k2,a2,e2,t2⟩
     ·exact rest
abbrev Ħ(w:v_):Bool:=w.params.followText "set-order"
def Mk(m n:Nat):Prop:=(m=7/\n<=4)\/(m=31/\n<=18)\/(m=127/\n<=20)
def ņ(a:m_)(w:v_)(h:O_)(S:O)(d:(Str%0)%0)(e:B%0)(n:Nat):Prop:=∃o b f t,h.get? S=Z o/\o.ExactSet/\o.data=.set b f t/\b.size=n/\Tb t n/\Mk t.mask n/\Ent a w h d b.toList/\(b.toList.map (·.2)).Perm e/\t.led=(!Ħ w)/\((∀k∈d,k≠[])->n≠0->t.plain=h_)
def vx{Q:Bool->ge->Prop}(m:TK p n f.heap E e)(h:∀b,(E≠[]->b=h_)->Q b f):xy (B_ p n) D (hashByValue 8 (.ref e)) Q ν f:=by
 have hT:=m.typeIs;obtain⟨o,Ô,d,q,_,s,j⟩:=m;have w:Ô.toList=[]->E=[]:=λa=>by rw[a]at j;cases j;rfl
 refine c_ (wpAny_specialOf hT F.slot_tuple_hash.lookup ?_);refine c_ (YY q s (c_ ?_));rw[<-aa2];refine aaD _ (λrest r i=>r.1=U/\i=f/\(∀v∈rest,∃x t,v=Zh x t)/\(rest=[]->E=[])) _ ?_ ?_ _ _ ⟨rfl,rfl,tH j,w⟩;·rintro v rest r i⟨k,rfl,g,_⟩;obtain⟨x,t,rfl⟩:=g v on;refine c_ (i_ ?_);exact i_ (i_ (h _ λ_=>rfl))
 ·rintro⟨z,y⟩i⟨k,rfl,_,u⟩;subst k;exact i_ (h _ (absurd (u rfl)))
def TK.keeps{g:O_}{m o t}(x:TK p n I E e)(q:I.get? A=Z Ä)(r:Ä.data=.set m o t)(i:YO A I g):TK p n g E e:=by
 obtain⟨h,Ô,a,b,k,f,j⟩:=x;have d:e≠A:=by lia
 exact⟨h,Ô,a,(i.2 e d).trans b,k,f,j⟩
def Ent.keeps{f:O_}{d:(Str%0)%0}{l:(Int×B)%0}{r s t}(x:Ent p n I d l)(h:I.get? e=Z Ä)(j:Ä.data=.set r s t)(g:YO e I f):Ent p n f d l:=λb i=>by obtain⟨k,a,q,o,m⟩:=x b i;exact⟨k,a,q,o,m.keeps h j g⟩
def tJ{h a:Array (Int×B)}{d:SetTable}(g:I.get? e=Z Ä)(f:Ä.data=.set h b Β):(I.update e (ZS a d)).get? e=Z {Ä with data:=.set a (b+1) d}:=by have:=YG (ZS a d) g (by rw[acI a d f];rfl);rw[acI a d f]at this;exact this
def Ent.insert{h:(Str%0)%0}{g:Array (Int×B)}(m:Ent p n I h g.toList)(k:TK p n I E e):Ent p n I (E::h) (XJ g b (y,.ref e)).toList:=λd j=>by
 have f:=(ac6 g b _).mem_iff.mp j;rw[abn]at f;rcases XD.mp f with q|q;·obtain⟨i,a,s,r,o⟩:=m d q;exact⟨i,a,pi _ s,r,o⟩
 ·rw[S_]at q;subst q;exact⟨E,e,on,rfl,k⟩
def AX(T:Tb Β b):Β.fill=b:=by unfold afu;rw[T.size,T.dm];simp
def pQ(h:b<=20):b<=sizeLine:=by rw[abB];lia
def EO(a:Array Q):(y_ a.size).filterMap (λi=>a[i]?)=a.toList:=by
 apply abl;intro i;have:(y_ a.size).filterMap (λi=>a[i]?)=(y_ a.size).pmap (λi h=>a[i]) (λi h=>X5.mp h):=by
  rw[List.pmap_eq_map_attach,<-List.filterMap_eq_map];conv=>lhs;rw[<-List.attach_map_subtype_val (y_ a.size)]
  rw[aci];congr 1;funext⟨i,b⟩;simp[X5.mp b]
 rw[this];by_cases b:i<a.size;·simp[b]
 ·simp[b]
def Kb{f:Array Int}{d:Array Nat}(e:laid b o Δ H Ï f=Z (Β,d)):Β.led=H/\Β.plain=Ï:=by unfold laid at e;cases g:afj b f with|none=>rw[g]at e;cases e|some a=>rw[g]at e;cases e;exact⟨rfl,rfl⟩
def OK{ks:(Str%0)%0}{Q:Bool->ge->Prop}(hu:D.units<cLine)(hS:ņ p n f.heap e ks P b)(hx:TK p n f.heap E A)(hk:E∉ks)(hn:b+1<=20)(h:∀h',YO e f.heap h'->ņ p n h' e (E::ks) (.ref A::P) (b+1)->Q L {f with heap:=h'}):xy (B_ p n) D (setAddHashed e (.ref A) (Ŀ p n E)) Q ν f:=by
 obtain⟨o,r,ep,t,ho,hex,hd,u,T,hm,hE,i',b',m'⟩:=hS;have w:t.fits r.size=L:=by rw[u];exact(qV T)
 refine XY (c_ (Yc ho hd w ?_));dsimp!;have l':byScan (U_ A) r=h_:=rfl;rw[l'];obtain⟨N,h1,h2,h3⟩:=OH T (AS (Ŀ p n E));have n':t.mask<=127:=by rcases hm with⟨a,_⟩|⟨a,_⟩|⟨a,_⟩<;>lia
 refine c_ (AW hu ho hd (by rw[u];exact T) (by rcases hm with⟨a,_⟩|⟨a,_⟩|⟨a,_⟩<;>rw[a]) hE hx hk N _ U (λd hp=>by cases hp) (by unfold aeW at h1;lia) h2 h3 h1 λj=>?_);refine c_ (Yc ho hd w ?_);dsimp!;obtain⟨P1,P2,P3,P4,P5⟩:=OI T (by rcases hm with⟨a,q⟩|⟨a,q⟩|⟨a,q⟩<;>lia) j;have a':((XJ r (t.put j).2 (Ŀ p n E,U_ A)).toList.map (·.2)).Perm (.ref A::P):=by refine((ac6 r _ _).map _).trans ?_;rw[abn,YE];exact(i'.append_right _).trans (aaA _ _)
 have go:∀H:Bool,((∀x∈E::ks,x≠[])->(if H then(t.put j).1 else{(t.put j).1 with plain:=h_}).plain=h_)->xy (B_ p n) D (do
  afa e (XJ r (t.put j).2 (Ŀ p n E,.ref A)) (if H then(t.put j).1 else{(t.put j).1 with plain:=h_})if(!h_&&(if H then(t.put j).1 else{(t.put j).1 with plain:=h_}).tooFull)=L then setRelay e (Zy (r.size+1))
  return L) Q ν f:=by
  intro H e';have T2:∃m,(if H then(t.put j).1 else{(t.put j).1 with plain:=h_})=m/\Tb m (b+1)/\m.mask=t.mask/\m.led=t.led:=by cases H with|true=>exact⟨_,rfl,P1,P3,rfl⟩|false=>exact⟨_,rfl,⟨P1.size,P1.dm,P1.cyc,P1.room⟩,P3,rfl⟩
  obtain⟨m,e2,T2,M2,L2⟩:=T2;rw[e2]at e'⊢;have g:(XJ r (t.put j).2 (Ŀ p n E,U_ A)).size=b+1:=by rw[kT _ _ _ (by rw[u];exact P2),u]
  refine c_ (aa_ ho hd ?_ (by rw[g];exact pQ hn));have c':=YT f.heap e (ZS (XJ r (t.put j).2 (Ŀ p n E,U_ A)) m);have hg:=tJ (a:=XJ r (t.put j).2 (Ŀ p n E,U_ A)) (d:=m) ho hd;have f':Ent p n (f.heap.update e (ZS (XJ r (t.put j).2 (Ŀ p n E,U_ A)) m)) (E::ks) (XJ r (t.put j).2 (Ŀ p n E,U_ A)).toList:=(hE.insert hx).keeps ho hd c';by_cases hf:m.tooFull=L
  · rw[hf];simp![Bool.not_false,Bool.and_self,if_true];have y:m.fill*5>=m.mask*3:=by unfold aeJ at hf;simpa using hf
    rw[AX T2,M2]at y;have h5:b=4\/b=18:=by rcases hm with⟨a,q⟩|⟨a,q⟩|⟨a,q⟩<;>rw[a]at y<;>lia
    obtain⟨M,hM,cM,lM,kM⟩:∃M,sizeAbove (Zy (b+1))-1=M/\AJ M=L/\b+1<=M/\Mk M (b+1):=by
     rcases h5 with rfl|rfl;·exact⟨31,by decide,TN,by decide,.inr (.inl ⟨rfl,by decide⟩)⟩
     ·exact⟨127,by decide,OE,by decide,.inr (.inr ⟨rfl,by decide⟩)⟩
    refine c_ (c_ (Yc hg rfl (by rw[g];exact qV T2) ?_));dsimp!;rw[u,if_neg (by rcases h5 with a|a<;>rw[a]<;>decide)];have g':m.relaid ((XJ r (t.put j).2 (Ŀ p n E,U_ A)).map (·.1)) (Zy (b+1))=laid M m.finger (m.movedTo M) m.led m.plain ((XJ r (t.put j).2 (Ŀ p n E,U_ A)).map (·.1)):=by unfold SetTable.relaid;rw[hM]
    obtain⟨t3,k,r1,r2,r3,r4,r5,r6,r7⟩:=Ka cM ((XJ r _ _).map (·.1)) (by rw[ZC,g];lia);have r8:=Kb r1;rw[g',r1];rw[ZC,g]at r6 r7;have s:(k.filterMap (λi=>(XJ r (t.put j).2 (Ŀ p n E,U_ A))[i]?)).toList.Perm (XJ r (t.put j).2 (Ŀ p n E,U_ A)).toList:=by rw[Array.toList_filterMap];refine(r7.filterMap _).trans ?_;rw[<-g,EO]
    have v:(k.filterMap (λi=>(XJ r (t.put j).2 (Ŀ p n E,U_ A))[i]?)).size=b+1:=by rw[<-Yj,s.length_eq,Yj,g]
    show xy _ D ((if((k.filterMap _).size !=(XJ r _ _).size)=L then(aeR "internal:set-table-lost-an-element")else pure (k.filterMap _,t3))>>=λx=>afa e x.1 x.2) _ _ _;rw[if_neg (by rw[v,g];simp)];refine c_ (i_ (aa_ hg rfl ?_ (by rw[v];exact pQ hn)));have I:=YT (f.heap.update e (ZS (XJ r (t.put j).2 (Ŀ p n E,U_ A)) m)) e (ZS (k.filterMap (λi=>(XJ r (t.put j).2 (Ŀ p n E,U_ A))[i]?)) t3);exact i_ (h _ (c'.trans I) ⟨_,_,_,t3,tJ hg rfl,hex,rfl,v,r6,by rw[r2];exact kM,(λa he=>(f'.keeps hg rfl I) a (s.mem_iff.mp he)),(s.map _).trans a',r8.1.trans (L2.trans b'),λz _=>r8.2.trans (e' z)⟩)
  · have d':m.tooFull=h_:=by simpa using hf
    rw[d'];have y:¬(m.fill*5>=m.mask*3):=by unfold aeJ at d';simpa using d'
    rw[AX T2,M2]at y;refine i_ (h _ c' ⟨_,_,_,m,hg,hex,rfl,g,T2,?_,f',a',L2.trans b',λz _=>e' z⟩);rw[M2];rcases hm with⟨a,q⟩|⟨a,q⟩|⟨a,q⟩;·exact .inl ⟨a,by lia⟩
    ·exact .inr (.inl ⟨a,by lia⟩)
    ·exact .inr (.inr ⟨a,hn⟩)
 cases k':(t.put j).1.plain with|true=>refine c_ (vx hx λH hb=>(go H λz=>?_));rw[hb (z E on)];rfl|false=>exact c_ (i_ (go L λ_=>k'))
def TK.moved{f:O_}(x:TK p n I E e)(h:∀o,I.get? e=Z o->f.get? e=Z o):TK p n f E e:=by obtain⟨g,Ô,a,b,j,d,i⟩:=x;exact⟨g,Ô,a,h _ b,j,d,i⟩
def ņ.moved{g:O_}{f:(Str%0)%0}(x:ņ p n I e f P b)(v:∀o,I.get? e=Z o->g.get? e=Z o)(r:∀k∈f,∀a,TK p n I k a->TK p n g k a):ņ p n g e f P b:=by obtain⟨o,A,D,t,q,hex,u,h,T,i,w,m⟩:=x;exact⟨o,A,D,t,v _ q,hex,u,h,T,i,λd s=>let⟨k,a,j,z,y⟩:=w d s;⟨k,a,j,z,r k j a y⟩,m⟩
def jw{R:aeL->ge->Prop}{r:O%0}{G:Array afm->Array afm->Prop}{P:Nat->B->Prop}{St:Nat->ge->Prop}(W:WalksS p n D.in1 e η r G b P St)(S:O)(e':S∉η)(c':r=[e])(hI:∀i s,St i s->∃o vs,s.heap.get? e=Z o/\o.data=.fields vs)(u:Nat->O_->Prop)(mv:∀i h q,(∃o vs,h.get? e=Z o/\o.data=.fields vs)->(∀a o,a≠e->h.get? a=Z o->q.get? a=Z o)->u i h->u i q)(st:∀(i:Nat)(v:B)(s:ge)(Q:Bool->ge->Prop)(E:B->ge->Prop),P i v->u i s.heap->(∀a q tk,s.toks<=tk->YO S s.heap q->u (i+1) q->Q a {s with heap:=q,toks:=tk})->xy (B_ p n) D.in1 (setAdd S v) Q E s):∀(k i:Nat)(s:ge),b-i=k->i<=b->St i s->u i s.heap->(∀j,Moved (S::r) G s j->u b j.heap->R (.ok (.ret .none)) j)->ŭ (B_ p n) D (.builtin "set.update.loop" ⟨[.ref S,.ref e],[]⟩) R s:=by
 have m:∀a∈r,a∈S::r:=λa f=>pi _ f;have ni:∀a,a≠e->a∉r:=λa f z=>by rw[c',S_]at z;exact f z
 intro k;induction k with|zero=>
 intro i s hk hi g hS hR;have d':i=b:=by lia
 subst d';refine ZG acS ?_;rw[aay aa5 _];refine c_ (W.done s _ _ g λj w=>?_);exact i_ (hR j (w.mono m) (mv _ _ _ (hI _ _ g) (λa o f d=>w.heap a o (ni a f) d) hS))|succ k ih=>
 intro i s hk hi g hS hR;have A:i<b:=by lia
 refine ZG acS ?_;rw[aay aa5 _];refine c_ (W.item i s _ _ A g λv j hP H w=>?_);refine c_ (XY (st i v j _ _ hP (mv _ _ _ (hI _ _ g) (λa o f d=>w.heap a o (ni a f) d) hS) λbb q tk ht y f'=>(i_ ⟨acy aa5 _,ih (i+1) _ () A (W.frame _ j _ _ H ht λa f o d=>?_) f' λb' I a'=>?_⟩)));·rw[y.2 a (λh:a=S=>e' (by rw[<-h];exact f))];exact d
 ·refine hR b' (Moved.trans W.gtrans ((w.mono m).then_heap ht λa o f d=>?_) I) a';rw[y.2 a (λh:a=S=>f (by rw[h];exact on))];exact d
abbrev vy(a:Bool):Obj:={cls:=.type "set",dict:=U,data:=.set #[] 0 (.fresh 0 0 a)}
def Kc(a:I.get? e=Z (vy (!Ħ n))):ņ p n I e [] [] 0:=⟨_,#[],0,_,a,⟨rfl,rfl,rfl⟩,rfl,rfl,⟨rfl,rfl,WT,XG _⟩,.inl ⟨rfl,by lia⟩,(λa b=>by simp at b),.refl _,rfl,λ_ z=>absurd rfl z⟩
def Ke(a:B){b:B->ge->Prop}(h:b (.ref f.heap.objs.size) {f with heap:=f.heap.push (vy (!Ħ n))}):ŭ (B_ p n) D (.call (.builtin "set.__new__") ⟨[.type "set",a],[]⟩) (wants b ν) f:=by refine codeAny_of_tree ?_;refine c_ (Zs (F.newCall_set_1 a) (i_ ⟨acy F.plain_set_new _,ZG F.entry_set_new ?_⟩));unfold Zd.«set.__new__»afo;have e:=sub_set_self;obtain⟨j,g,d,i,os⟩:=f;wp_walk;refine Z0 (i_ ?_);dsimp!;exact c_ (wpAny_alloc (i_ (i_ h)))
structure Fl(prog:m_)(w:v_)(s:ge)(Ô:Array B)(u:Nat)(Iv:Nat->O_->Prop):Prop where
 h0:∀h':O_,h'.get? s.heap.objs.size=Z (vy (!Ħ w))->(∀b o,s.heap.get? b=Z o->h'.get? b=Z o)->Iv 0 h'
 mv:∀(I:O)(i:Nat)(h h':O_),s.heap.objs.size≠I->(∃o vs,h.get? I=Z o/\o.data=.fields vs)->(∀b o,b≠I->h.get? b=Z o->h'.get? b=Z o)->Iv i h->Iv i h'
 st:∀(i:Nat)(v:B)(s2:ge)(A':x_)(Q:Bool->ge->Prop)(E:B->ge->Prop),A'.units<=u->Ô[i]?=Z v->Iv i s2.heap->(∀b h' tk,s2.toks<=tk->YO s.heap.objs.size s2.heap h'->Iv (i+1) h'->Q b {s2 with heap:=h',toks:=tk})->xy (B_ prog w) A' (setAdd s.heap.objs.size v) Q E s2
def OL{A:Nat->O_->Prop}{R:aeL->ge->Prop}(hh:D.handled=U)(hl:f.heap.IsList e Κ)(a:Fl p n f Κ (D.units+2) A)(hR:∀(j:O_)(tk:Nat),A Κ.size j->(∀b o,b<f.heap.objs.size->f.heap.get? b=Z o->j.get? b=Z o)->R (.ok (.ret .none)) {f with heap:=j,toks:=tk}):ŭ (B_ p n) D (.call (.builtin "set.__init__") ⟨[.ref f.heap.objs.size,.ref e],[]⟩) R {f with heap:=f.heap.push (vy (!Ħ n))}:=by
 have hS:(f.heap.push (vy (!Ħ n))).get? f.heap.objs.size=Z (vy (!Ħ n)):=rl _ rfl;have hT:acz {f with heap:=f.heap.push (vy (!Ħ n))} (.ref f.heap.objs.size) "set":=⟨_,hS,rfl⟩;refine abC aac.init.plain F.entry_set_init (check_set_init_1 hT ?_);obtain⟨ol,m,u,nl,s⟩:=hl;obtain⟨i',k,f',g⟩:=ol;simp only at u s;subst u;subst s;have w:(f.heap.push (vy (!Ħ n))).get? e=Z {cls:=.type "list",dict:=k,data:=.seq Κ nl,slots:=g}:=l_ _ m;have s1:=F.sub_list_set;have s2:=F.sub_list_frozenset;have s3:(t_ "list"==t_ "dict")=h_:=by decide
 have r:(f.heap.push (vy (!Ħ n))).IsList e Κ:=⟨_,w,rfl,nl,rfl⟩;unfold Zd.«set.__init__»noKeywords ae2;generalize e':aeG=PI;wp_walk;subst e';refine aan r (c_ (wpAny_runValue ?_));have q:e<f.heap.objs.size:=uk m;have y:e≠(f.heap.push (vy (!Ħ n))).objs.size:=by rw[Xw];exact D_ (X7 q)
 have b':f.heap.objs.size∉[(f.heap.push (vy (!Ħ n))).objs.size,e]:=by rw[Xw];simp![p_,J_,or_false,not_or];exact⟨D_ (Y3 _),aaI q⟩
 refine jw ((afh (by simp[hh]) _ e y Κ).toS) f.heap.objs.size b' rfl (λi s' st=>by obtain⟨⟨o,ho,_,hd⟩,_⟩:=st;exact⟨o,_,ho,hd⟩) A (λi h j=>a.mv _ i h j (by rw[Xw];exact D_ (Y3 _))) (λi v s2 Q E hv=>a.st i v s2 _ Q E (o_ _) hv) (Κ.size-0) 0 _ () (XG _) ⟨⟨_,rl _ rfl,rfl,rfl⟩,(r.push _)⟩ ?_ ?_;·exact a.h0 _ (l_ _ hS) λb o d=>l_ _ (l_ _ d)
 · intro s' z c';obtain⟨j,g',d',H,I⟩:=s';have eg:g'=f.gens:=z.gens;have ed:d'=f.drawn:=z.drawn;have eo:I=f.os:=z.os;subst eg;subst ed;subst eo;show xy _ _ _ _ _ _;refine i_ ?_;show xy _ _ (ret M_) _ _ _;refine i_ (hR j H c' λb o hb d=>?_);have a':b≠f.heap.objs.size:=D_ hb;have P:b≠(f.heap.push (vy (!Ħ n))).objs.size:=by rw[Xw];exact D_ (X7 hb)
   exact z.heap b o (by simp![p_,J_,or_false,not_or];exact⟨a',P⟩) (l_ _ (l_ _ d))
def call_set_G{w:Nat->O_->Prop}(hh:D.handled=U)(Q:f.heap.IsList e Κ)(a:Fl p n f Κ (D.units+3) w)(h:∀(i:O_)(q:Nat),w Κ.size i->(∀b o,b<f.heap.objs.size->f.heap.get? b=Z o->i.get? b=Z o)->Å (.ref f.heap.objs.size) {f with heap:=i,toks:=q}):xy (B_ p n) D (call (.type "set") [.ref e]) Å ν f:=by
 obtain⟨c,tl,H⟩:=aac.mro;have A:=aac.made;have E:=aac.sub;refine ab3 (codeAny_of_tree ?_);show xy _ _ (callAny (.type "set") _) _ _ _;refine i_ ⟨aee _ (by decide+kernel),ZG F.entry_type_call ?_⟩;rw[Around.under_plain (weight_type_call_type "set" [.ref e] []) rfl];have h1:=aac.notType;have h2:=aac.canCreate;have b':=F.typeCall_set_1 (.ref e);repeat(any_goals(first|assumption|wp_step))
 refine aaE (Ke (.ref e) (ν:=ν) (b:=λs k=>s=.ref f.heap.objs.size/\k={f with heap:=f.heap.push (vy (!Ħ n))}) ⟨rfl,rfl⟩) λr k v=>?_;cases r with|error d=>exact v|ok fl=>cases fl with
 |ret s=>
  obtain⟨rfl,rfl⟩:=v;have hT:acz {f with heap:=f.heap.push (vy (!Ħ n))} (.ref f.heap.objs.size) "set":=⟨_,rl _ rfl,rfl⟩;have a':=aac.init.lookup;have c':=aac.init.bind (.ref f.heap.objs.size);repeat(any_goals(first|assumption|wp_step))
  refine aaE (OL (R:=wants (λr j=>r=.none/\∃i q,j={f with heap:=i,toks:=q}/\w Κ.size i/\(∀b o,b<f.heap.objs.size->f.heap.get? b=Z o->i.get? b=Z o)) ν) (by simp[hh]) Q a λi q P I=>⟨rfl,i,q,rfl,P,I⟩) λu j g=>?_;cases u with|error d=>exact g|ok m=>cases m with
  |ret r=>
  obtain⟨rfl,i,q,rfl,z,y⟩:=g;repeat(any_goals(first|assumption|wp_step))
  exact h _ _ z y|_=>exact g.elim
 |_=>exact v.elim
def fl_T{g:Nat->Str%0}{q:Nat->O}(hu:b<cLine)(hk:∀i,i<Κ.size->Κ[i]?=Z (.ref (q i))/\TK p n f.heap (g i) (q i))(hn:Κ.size<=20)(u:∀i j,i<Κ.size->j<Κ.size->g i=g j->i=j):Fl p n f Κ b λi h=>(∀j,j<Κ.size->TK p n h (g j) (q j))/\ņ p n h f.heap.objs.size (((y_ i).map g).reverse) (((y_ i).map λj=>U_ (q j)).reverse) i where
 h0:=λP e up=>⟨λj r=>(hk j r).2.moved (up _),Kc e⟩;mv:=λI i h P b'⟨o,vs,ho,hd⟩e⟨hT,hS⟩=>by
  have s:∀{k:Str%0}{a:O},TK p n h k a->a≠I:=λ{k a}x z=>by subst z;obtain⟨o',e',d,y,_,A,_⟩:=x;rw[ho]at y;cases y;rw[hd]at A;cases A
  exact⟨λj r=>(hT j r).moved λo=>e _ o (s (hT j r)),hS.moved (λo=>e _ o b') λk _ a x=>x.moved λo=>e _ o (s x)⟩
 st:=λi v s2 A' Q E hA H⟨hT,hS⟩h=>by
  have m:=(Yw.mp H).1;rw[(hk i m).1]at H;cases H;refine XY (c_ (wpAny_pyHash_tuple (ace hA hu) (hT i m) ?_));have D:g i∉((y_ i).map g).reverse:=λhm=>by rw[List.mem_reverse]at hm;obtain⟨j,r,e⟩:=L_.mp hm;have f':=X5.mp r;have:=u j i () m e;lia
  refine OK (ace hA hu) hS (hT i m) D () λP w d'=>h _ P _ (YR _ _) w ⟨λj r=>?_,?_⟩;·obtain⟨oS,g',i',tS,a',_,c',_⟩:=hS;exact(hT j r).keeps a' c' w
  ·rw[adk,YE,ad3,YE,ad3];exact d'
def len_T{g:(Str%0)%0}(k:ņ p n f.heap e g P b)(r:b<=20)(h:∀t d,Å (.int b t) {f with toks:=d}):xy (B_ p n) D (call (.builtin "len") [.ref e]) Å ν f:=by obtain⟨o,m,v,t,i,hex,j,a,T,s,u,q⟩:=k;subst a;exact call_len_set i hex j (qV T) (Int.lt_of_le_of_lt (show((m.size):Int)<=20 by lia) #v[]) (h _ _)
end ST
variable{Β:SetTable}{Δ:Nat}
namespace FD
open L2
def cw:W%0->(Str%0)%1|[]=>Z []|.str x::r=>(cw r).map (x::·)|_=>U
def keysOf:W%0->((Str%0)%0)%1
 |[]=>Z []|.tup b::r=>match cw b,keysOf r with|some k,Z a=>Z (k::a)|_,_=>U
 |_=>U
def qW:Þ
 |[.lst b]=>match keysOf b with|some a=>if a.Nodup/\a.length<=20 then .int a.length%3 else U|none=>U
 |_=>U
def pR{X:C}{H:Hp}{e:m_}{w:v_}:∀{d:W%0}{k:Str%0}{b:V%0}{a:B%0},cw d=Z k->S X.K H d b->Ö b a->afl (YL e w) k a
 |[],k,b,a,h,r,v=>by cases h;cases((r));cases v;exact .nil|.str x::d,k,b,a,h,r,v=>by obtain⟨y,f,rfl,j,i⟩:∃v f,b=v::f/\Ü X.K H _ v/\S X.K H d f:=r;cases((j));obtain⟨n,m,rfl⟩:=YQ.mp ((h));cases v with|cons g v2=>obtain⟨t,rfl⟩:=g;exact .cons (by show ZR x (.str x t)=L;simp[ZR]) (pR m i v2)
 |.non::d,k,b,a,h,r,v=>by cases h|.bl _::d,k,b,a,h,r,v=>by cases h|.int _::d,k,b,a,h,r,v=>by cases h|.tup _::d,k,b,a,h,r,v=>by cases h|.lst _::d,k,b,a,h,r,v=>by cases h|.scr _::d,k,b,a,h,r,v=>by cases h|.exn _::d,k,b,a,h,r,v=>by cases h|.obj _ _::d,k,b,a,h,r,v=>by cases h
def TU(I:N a δ Θ g f){j:W%0}{k:Str%0}{v:V}{u:B}(h:cw j=Z k)(r:Ü a.K g (.tup j) v)(q:ß v u):∃b,u=.ref b/\ST.TK a.prog a.w f.heap k b:=by obtain⟨b,w,rfl,s,p⟩:=r.tupE;cases((q));obtain⟨i,m,⟨o,e,c,n,d⟩,y⟩:=I.tuple (û.of s);exact⟨b,rfl,o,i.toArray,_,e,c,d,by simpa using pR h p m⟩
def AY{X:C}{D:(O×Obj)%0}{m:L2.St}{H:Hp}{s:ge}(I:N X D m H s):∀{f:W%0}{e:(Str%0)%0}{d:V%0}{b:B%0},keysOf f=Z e->S X.K H f d->Ö d b->e.length=b.length/\∀i,i<b.length->∃a,b[i]?=Z (.ref a)/\ST.TK X.prog X.w s.heap (e.getD i []) a
 |[],e,d,b,h,r,v=>by cases h;cases((r));cases v;exact⟨rfl,λi j=>absurd j (aaS _)⟩|.tup es::f,e,d,b,h,r,v=>by
  obtain⟨y,g,rfl,q,p⟩:∃v g,d=v::g/\Ü X.K H _ v/\S X.K H f g:=r;unfold keysOf at h;split at h;·rename_i k b' A z;cases h;cases v with|cons n v2=>obtain⟨a,rfl,o⟩:=TU I A q n;obtain⟨w,u⟩:=AY I z p v2;refine⟨by simp[w],λi j=>?_⟩;cases i with|zero=>exact⟨a,rfl,o⟩|succ i=>obtain⟨Q,P,E⟩:=u i (by simpa using j);exact⟨Q,by simpa using P,by simpa using E⟩
  ·cases h|.non::f,e,d,b,h,r,v=>by cases h|.bl _::f,e,d,b,h,r,v=>by cases h|.int _::f,e,d,b,h,r,v=>by cases h|.str _::f,e,d,b,h,r,v=>by cases h|.lst _::f,e,d,b,h,r,v=>by cases h|.scr _::f,e,d,b,h,r,v=>by cases h|.exn _::f,e,d,b,h,r,v=>by cases h|.obj _ _::f,e,d,b,h,r,v=>by cases h
def yA{a:Q%0}(h:a.Nodup){i j:Nat}(d:i<a.length)(b:j<a.length)(e:a.getD i Ò=a.getD j Ò):i=j:=by rw[aaB,aaB,r_ d,r_ b]at e;exact(aeP h).mp (by simpa using e)
def AZ{e:Pos}(hu:a.A.units+64<cLine)(hc:a.calm=L)(hg:Gl a "len")(hm:a.mg "len"=U)(e':Gl a "set")(b':a.mg "set"=U)(ha:FA a [h] μ)(he:k_ [.Call (.Name "set" w) [h] [] e] a.env=(h_,eval (.Call (.Name "set" w) [h] [] e) a.env)::k_ [] a.env:=by lk)(a':(Xv Λ (k_ [] a.env)).any (·.1)=h_:=by lk)(g':k_ [h] a.env=(h_,eval h a.env)::k_ [] a.env:=by lk)(A:(Xv e (k_ [] a.env)).any (·.1)=h_:=by lk):FE a (.Call (.Name "len" k) [.Call (.Name "set" w) [h] [] e] [] Λ) (ì qW μ):=⟨λf' s σ H Q I⟨ρ,E,o⟩=>by
 refine YI (jf I hg hm afd (Z4 ?_ he a') #v[] #v[]);show xy _ _ (spliced ((h_,eval _ a.env)::Xv Λ _)) _ _ s;refine ZA (YI (jf I e' b' (ω:=.type "set") (by decide+kernel) (Yn (í (ha.h e f' s σ H _ I ⟨ρ,E,ô.bind o λD vs p e1 rs g=>(show∃D,S a.K p D vs/\õ a p _ Q from⟨D,rs,g⟩)⟩) λus s1⟨vs,p,P,r1,D,rs,g⟩=>?_) g' A) #v[] #v[]));unfold qW at g;split at g
 · obtain⟨v,rfl,r⟩:=dL rs;obtain⟨l,xs,rfl,hl,rx⟩:=r.lstE;obtain⟨u,rfl,ru⟩:=gK r1;cases((ru));split at g
   · rename_i ks c';split at g
     · rename_i m;obtain⟨z,y,n,rv,hz,eh⟩:=P.lstM hl;obtain⟨q1,q2⟩:=AY P c' rx rv;have f:y.toArray.size=ks.length:=by simp[q1]
       refine ST.call_set_G (P.ok.hd hc) ⟨_,eh,rfl,n,rfl⟩ (ST.fl_T (g:=λi=>ks.getD i []) (q:=λi=>match y[i]? with|some (.ref d)=>d|_=>0) () (λi hi=>?_) (by rw[f];exact m.2) (λi j hi hj i'=>?_)) λh' tk⟨_,hS⟩d'=>?_;·obtain⟨d,e1,e2⟩:=q2 i (by simpa using hi);simp![List.getElem?_toArray,e1];exact⟨trivial,e2⟩
       ·exact yA m.1 (by rw[<-f];exact hi) (by rw[<-f];exact hj) i'
       ·exact aao (ST.len_T hS (by rw[f];exact m.2) λt k'=>⟨.int (ks.length),p,(P.kept λb u q=>d' b u (uk q) q),⟨t,by rw[f]⟩,g _ p (.refl p) rfl⟩)
     ·exact g.elim
   ·exact g.elim
 ·exact g.elim⟩
def frs{b:Type}(P:b->Bool):Sem b->Bool|.pure a=>P a|.fresh _=>L|.at _ k=>frs P (k Unit.unit)|.rule _ k=>frs P (k Unit.unit)|.point _ k=>frs P (k Unit.unit)|_=>h_
def pS(h:f.heap.IsTupleIter e A b)(r:f.heap.IsTuple A Κ)(o:Κ[b]?=Z ω)(q:∀g,g.IsTupleIter e A (b+1)->YO e f.heap g->Å ω {f with heap:=g}):xy (B_ p n) D (ack (.ref e)) Å ν f:=by obtain⟨u,d,k,a⟩:=id h;obtain⟨s,j,_,m,i⟩:=r;refine c_ (XO h.typeIs Zz (XN Zz h.typeIs abW ?_ (abL _)));show xy _ _ (field _ 0>>=_) _ _ f;refine c_ (YF d a (x:=.ref A) rfl ?_);refine c_ (YF d a (x:=.int b 0) rfl ?_);refine c_ (YY j i ?_);simp![Zl,o];refine c_ (ab2 d a ∅ (i_ ⟨ω,rfl,i_ (q _ ⟨_,YG _ d (ads (aaV a _)),(aeu ..).trans k,by rw[aaV a];simp[Zm]⟩ (YT ..))⟩))
def A0(j:D.handled=U)(i:f.heap.IsTupleIter e A b)(u:f.heap.IsTuple A Κ)(s:Κ[b]?=U)(q:∀h a,adD e f.heap h->(∃o,h.get? a=Z o/\o.cls=.type "StopIteration")->ν (.ref a) {f with heap:=h}):xy (B_ p n) D (ack (.ref e)) Å ν f:=by
 obtain⟨w,g,y,d⟩:=id i;obtain⟨v,r,_,m,k⟩:=u;refine c_ (XO i.typeIs Zz (XN Zz i.typeIs abW ?_ (abL _)));show xy _ _ (field _ 0>>=_) _ _ f;refine c_ (YF g d (x:=.ref A) rfl ?_);refine c_ (YF g d (x:=.int b 0) rfl ?_);refine c_ (YY r k ?_);simp![Zl,s];refine c_ (Zw (c_ (ab2 g d ∅ ?_)));refine c_ ?_;refine c_ (Xz (c_ (Zs (a:=M_) (rfl) (Xz ?_ (by size_fits)))) (by size_fits));refine c_ (acv ?_);first|rw[(j)]|rw[j]
 exact c_ (i_ (adx (q _ _ (((YT ..).extBut.push _).push _) ⟨_,rl _ rfl,rfl⟩)))
def Ba{i H E l1 l2:O}{ys:Array B}{y a h:B}{Q:B%1->ge->Prop}(d:ZipApart e A i H E l1 l2)(u:aeX f.heap e A i .none)(c':Ź f.heap A (.ref H) (.ref E))(b':Ź f.heap i a h)(j1:f.heap.IsTupleIter H l1 b)(j2:f.heap.IsTupleIter E l2 b)(m1:f.heap.IsTuple l1 Κ)(m2:f.heap.IsTuple l2 ys)(hx:Κ[b]?=Z ω)(hy:ys[b]?=Z y)(q:∀j,aeX j e A i (Zm f.heap.objs.size)->Ź j i ω y->j.IsTupleIter H l1 (b+1)->j.IsTupleIter E l2 (b+1)->Ź j f.heap.objs.size ω y->j.objs.size=f.heap.objs.size+1->(∀c o,c≠e->c≠i->c≠H->c≠E->f.heap.get? c=Z o->j.get? c=Z o)->Q (Z (.ref f.heap.objs.size)) {f with heap:=j}):xy (B_ p n) D (K' (.ref e)) Q ν f:=by
 have ty:f.TypeIs (.ref e) "zip":=⟨_,u,rfl⟩;refine c_ (YZ (XO ty abK (XN abK ty F.entry_zip_next ?_ (F.args_zip_next_1 _))));show xy _ _ (field _ 2>>=_) _ _ f;refine c_ (YF u rfl (x:=.bool h_) rfl (c_ (YF u rfl (x:=.ref A) rfl (c_ (YY c' rfl (c_ (c_ (YF u rfl (x:=.none) rfl (i_ (c_ (Zw (c_ (YF u rfl (x:=.ref i) rfl (c_ (Ym u ∅ λhA zA k=>(c_ (c_ (c_ (acu (c_ (pS (j1.extBut k.extBut d.i1z) (m1.extBut k.extBut d.l1z) hx λhB jB s=>i_ ?_)))))))))))))))))))));have tB:=s.extBut _ _ d.TOi1 (k.extBut _ _ d.TOz b');refine c_ (YY tB rfl (c_ (adw tB λhC tC r=>(c_ (aeQ (i_ (c_ (c_ (acu (c_ (pS (((j2.extBut k.extBut d.i2z).extBut s.extBut d.i12.symm).extBut r.extBut d.TOi2.symm) (((m2.extBut k.extBut d.l2z).extBut s.extBut d.l2i1).extBut r.extBut d.l2TO) hy λhD jD z=>i_ ?_)))))))))));have tD:Ź hD i ω h:=z.extBut _ _ d.TOi2 tC;refine c_ (YY tD rfl (c_ (adw tD λv tF w=>?_)));have P:Ź v i ω y:=tF;refine c_ (aeQ (i_ (i_ (c_ (YY P rfl (c_ (ady ?_)))))));have n5:v.objs.size=f.heap.objs.size:=by rw[w.1,z.1,r.1,s.1,k.1]
 have z5:aeX v e A i _:=w.extBut _ _ d.TOz.symm (z.extBut _ _ d.i2z.symm (r.extBut _ _ d.TOz.symm (s.extBut _ _ d.i1z.symm zA)));have p2:=jD.extBut w.extBut d.TOi2.symm;have nz:=uk z5;show xy _ _ (ad0 _ (.ref v.objs.size)>>=_) _ _ _;refine c_ (c_ (Ym (l_ _ z5) ∅ λhG zG sG=>?_));have a':aeX hG e A i _:=zG;refine Ym a' ∅ λhH zH sH=>?_;have I:aeX hH e A i _:=zH;have up:∀c o,c≠e->v.get? c=Z o->hH.get? c=Z o:=λc o m g=>sH.extBut _ _ m (sG.extBut _ _ m (l_ _ g));have pr:=sH.extBut _ _ (aaI nz) (sG.extBut _ _ (aaI nz) (rl _ rfl));have n8:hH.objs.size=v.objs.size+1:=by rw[sH.1,sG.1,Xw]
 rw[n5]at I pr n8;refine i_ ⟨_,rfl,i_ ?_⟩;rw[n5];exact q hH I (up _ _ d.TOz P) ((((jB.extBut r.extBut d.TOi1.symm).extBut z.extBut d.i12).extBut w.extBut d.TOi1.symm).at λo g=>up _ o d.i1z g) (p2.at λo g=>up _ o d.i2z g) pr n8 λc o m c2 c3 c4 g=>up c o m ((λc o m c2 c3 c4 g=>w.extBut _ _ c2 (z.extBut _ _ c4 (r.extBut _ _ c2 (s.extBut _ _ c3 (k.extBut _ _ m g))))) c o m c2 c3 c4 g)
def EQ{j k s r l2:O}{h:B}{Q:B%1->ge->Prop}(hh:D.handled=U)(a:ZipApart e A j k s r l2)(i:aeX f.heap e A j .none)(u:Ź f.heap A (.ref k) (.ref s))(a':Ź f.heap j ω h)(j1:f.heap.IsTupleIter k r b)(m1:f.heap.IsTuple r Κ)(hx:Κ[b]?=U)(q:∀z,(∀c o,c≠e->c≠j->c≠k->c≠s->f.heap.get? c=Z o->z.get? c=Z o)->Q U {f with heap:=z}):xy (B_ p n) D (K' (.ref e)) Q ν f:=by
 have v:f.TypeIs (.ref e) "zip":=⟨_,i,rfl⟩;refine c_ (YZ (XO v abK (XN abK v F.entry_zip_next ?_ (F.args_zip_next_1 _))));show xy _ _ (field _ 2>>=_) _ _ f;refine c_ (YF i rfl (x:=.bool h_) rfl ?_);refine c_ (YF i rfl (x:=.ref A) rfl (c_ (YY u rfl ?_)));refine c_ ?_;refine c_ (YF i rfl (x:=.none) rfl (i_ ?_));refine c_ (Zw (c_ (YF i rfl (x:=.ref j) rfl (c_ (Ym i ∅ λhA I m=>?_)))));refine c_ ?_;refine c_ (c_ (acu ?_));refine c_ (A0 hh (j1.extBut m.extBut a.i1z) (m1.extBut m.extBut a.l1z) hx λhB d y he=>?_);obtain⟨P,g1,g2⟩:=he;have H:aeX hB e A j _:=y _ _ a.i1z.symm I;have ne:d≠e:=λg=>by lia
 refine Ym H ∅ λhC _ w=>(c_ (aaC ⟨P,w.extBut _ _ ne g1,g2⟩ ab4 (i_ (q hC λc o E _ c3 _ g=>w.extBut _ _ E (y _ _ c3 (m.extBut _ _ E g))))))
abbrev zq1(h:O_)(a:O):O_:=h.push {cls:=.type "tuple_iterator",data:=.fields #[.ref a,.int 0 0]}
abbrev zq2(h:O_)(b a:O):O_:=(zq1 h b).push {cls:=.type "tuple_iterator",data:=.fields #[.ref a,.int 0 0]}
abbrev zq3(h:O_)(a b:O):O_:=(zq2 h a b).push {cls:=.type "tuple",data:=.seq #[.ref h.objs.size,.ref (zq1 h a).objs.size]}
abbrev zq4(h:O_)(b a:O):O_:=(zq3 h b a).push {cls:=.type "tuple",data:=.seq #[.none,.none]}
abbrev zq5(h:O_)(b a:O):O_:=(zq4 h b a).push {cls:=.type "zip",data:=.fields #[.none,.bool h_,.bool h_,.ref (zq2 h b a).objs.size,.ref (zq3 h b a).objs.size]}
def ES(b a:O)(j i:Array B):Meets (Zd.«zip.__new__» ⟨[.type "zip",.ref b,.ref a],[]⟩) (λ_ R s=>s.heap.IsTuple b j/\s.heap.IsTuple a i/\R (.ok (.ret (.ref (zq4 s.heap b a).objs.size))) {s with heap:=zq5 s.heap b a}):=.of_wp λe w A R s h=>by obtain⟨o,g,d,n,os⟩:=s;obtain⟨m,k,h⟩:=h;have f:=sub_zip;wp_walk using aaT m,aaT (Heap.IsTuple.push k _);exact⟨_,rfl,h⟩
def Bb{m:Array B}(w:f.heap.IsTuple e Κ)(v:f.heap.IsTuple A m)(q:∀a,aeX a (f.heap.objs.size+4) (f.heap.objs.size+2) (f.heap.objs.size+3) .none->Ź a (f.heap.objs.size+2) (.ref f.heap.objs.size) (.ref (f.heap.objs.size+1))->Ź a (f.heap.objs.size+3) .none .none->a.IsTupleIter f.heap.objs.size e 0->a.IsTupleIter (f.heap.objs.size+1) A 0->a.objs.size=f.heap.objs.size+5->(∀c o,f.heap.get? c=Z o->a.get? c=Z o)->Å (.ref (f.heap.objs.size+4)) {f with heap:=a}):xy (B_ p n) D (call (.type "zip") [.ref e,.ref A]) Å ν f:=by
 refine callType_new F.called_zip #v[] (F.typeCall_zip_2 _ _) (F.newCall_zip_2 _ _) (λk=>F.args_object_init_3 k _ _) F.entry_zip_new (ES e A Κ m) ⟨w,v,?_⟩;have i:(zq1 f.heap e).objs.size=f.heap.objs.size+1:=Xw ..;have h:(zq2 f.heap e A).objs.size=f.heap.objs.size+2:=by rw[Xw,i]
 have d:(zq3 f.heap e A).objs.size=f.heap.objs.size+3:=by rw[Xw,h]
 have b:(zq4 f.heap e A).objs.size=f.heap.objs.size+4:=by rw[Xw,d]
 have j:(zq5 f.heap e A).get? _=Z _:=rl _ rfl;have r:(zq5 f.heap e A).get? _=Z _:=l_ _ (rl _ rfl);have s:(zq5 f.heap e A).get? _=Z _:=l_ _ (l_ _ (rl _ rfl));have u:(zq5 f.heap e A).get? _=Z _:=l_ _ (l_ _ (l_ _ (rl _ rfl)));rw[h,d,b]at j;rw[i,h]at s;rw[d]at r;rw[i]at u;rw[b];exact⟨⟨_,j,rfl⟩,q _ j s r ⟨_,(l_ _ (l_ _ (l_ _ (l_ _ (rl _ rfl))))),rfl,rfl⟩ ⟨_,u,rfl,rfl⟩ (by rw[Xw,b]) λc o g=>l_ _ (l_ _ (l_ _ (l_ _ (l_ _ g))))⟩
def Itz(a b:O):It:=⟨λi H=>∃d e x y,H a=Z (.tup d)/\H b=Z (.tup e)/\d[i]?=Z x/\e[i]?=Z y,λi H v f=>∃p x y,v=.ref p/\H p=U/\f=å H p (.tup [x,y])/\(∀d,H a=Z (.tup d)->d[i]?=Z x)/\(∀e,H b=Z (.tup e)->e[i]?=Z y),λi H=>∃d e,H a=Z (.tup d)/\H b=Z (.tup e)/\d.length<=i⟩
structure ZSt(z TI TO i1 i2 a b:O)(i:Nat)(h:O_):Prop where
 z:aeX h z TI TO .none
 ti:Ź h TI (.ref i1) (.ref i2)to:∃p q,Ź h TO p q
 j1:h.IsTupleIter i1 a i
 j2:h.IsTupleIter i2 b i
structure ZNe(z TI TO i1 i2:O):Prop where
 n1:TI≠z
 n2:TO≠z
 n3:i1≠z
 n4:i2≠z
 n5:TI≠TO
 n6:TI≠i1
 n7:TI≠i2
 n8:TO≠i1
 n9:TO≠i2
 n10:i1≠i2
def TV{d b a c:O}(h:c∈[e,A,d,b,a]):c=e\/c=A\/c=d\/c=b\/c=a:=by simpa using h
def ET(a D z TI TO i1 i2:O)(j:ZNe z TI TO i1 i2):DQ p n q (.Tuple s b k) (Itz a D) [z,TI,TO,i1,i2] z (λi h=>ZSt z TI TO i1 i2 a D i h)where
 mem:=by simp
 obj:=λi h st c hc=>by
  obtain⟨A,f,g3⟩:=st.to;rcases TV hc with rfl|rfl|rfl|rfl|rfl;·exact⟨_,st.z,λv g=>by cases g⟩
  ·exact⟨_,st.ti,λv g=>by cases g⟩
  ·exact⟨_,g3,λv g=>by cases g⟩
  ·obtain⟨o,e,_,d⟩:=st.j1;exact⟨o,e,λv g=>by lia⟩
  ·obtain⟨o,e,_,d⟩:=st.j2;exact⟨o,e,λv g=>by lia⟩
 keep:=λi h h' st kk=>by obtain⟨A,f,g3⟩:=st.to;exact⟨kk z ∅ _ st.z,kk TI ∅ _ st.ti,⟨A,f,kk TO ∅ _ g3⟩,st.j1.at (kk i1 ∅),st.j2.at λo e=>kk i2 ∅ o e⟩
 item:=by
  intro X hP hw hK hc i f' w σ H E I hf st hg;obtain⟨xs,ys,x,y,ha,hb,hx,hy⟩:=hg;obtain⟨n',rv,A,_⟩:=I.tuple (û.of ha);obtain⟨q',sv,p',_⟩:=I.tuple (û.of hb);obtain⟨u,hu,ru⟩:=rv.get hx;obtain⟨v,hv,l'⟩:=sv.get hy;obtain⟨q1,q2,e'⟩:=st.to;have fr:=λc m=>(hf c m).1;have an:∀c∈[z,TI,TO,i1,i2],a≠c:=λc m g=>by rw[g,fr c m]at ha;cases ha
  have bn:∀c∈[z,TI,TO,i1,i2],D≠c:=λc m g=>by rw[g,fr c m]at hb;cases hb
  refine Ba (⟨j.n1,j.n2,j.n3,j.n4,j.n5,j.n6,j.n7,j.n8,j.n9,j.n10,an z ∅,an TO ∅,an i1 ∅,an i2 ∅,bn z ∅,bn TO ∅,bn i1 ∅,bn i2 ∅⟩) st.z st.ti e' st.j1 st.j2 ((A)) ((p')) (by simpa using hu) (by simpa using hv) λh' a1 a2 a3 a4 a5 a6 kk=>⟨_,rfl,wpAny_letOwnedTupleGo_zip a1 λh2 z2 c'=>?_⟩;have hp:=I.hok.fresh (o_ _);have i':=uk st.z;have k2:∀c o,c∉[z,TO,i1,i2]->w.heap.get? c=Z o->h2.get? c=Z o:=λc o a' f=>c'.extBut c o (λg=>a' (by simp[g])) (kk c o (λg=>a' (by simp[g])) (λg=>a' (by simp[g])) (λg=>a' (by simp[g])) (λg=>a' (by simp[g])) f);have sub:∀c,c∈[z,TO,i1,i2]->c∈[z,TI,TO,i1,i2]:=λc m=>by
   have m':c=z\/c=TO\/c=i1\/c=i2:=by simpa using m
   rcases m' with rfl|rfl|rfl|rfl<;>simp
  have I1:N X f' σ (å H w.heap.objs.size (.tup [x,y])) {w with heap:=h2}:=by
   have nt:∀c o,H c=Z o->c∉[z,TO,i1,i2]:=λc o f m=>by rw[fr c (sub c m)]at f;cases f
   refine I.step (λc m=>?_) (λc o _ _ Q f _=>k2 c o Q f) (λc o _ _ Q f _=>⟨o.slots,k2 c o Q f⟩) (λc o Q f P=>?_) (λc o Q f=>⟨o,k2 c o Q f⟩) (λc zs f=>by rw[aq (aA f hp)];exact f) (λc o zs f=>by rw[aq (aA f hp)];exact f) (λc ps f=>⟨#[],by rw[aq (aA f hp),f];simp⟩) (λm hm=>?_) (λc o2 f=>?_) I.bare;·obtain⟨f0,f1,R,f3,f4,f5⟩:=hf c (sub c m);exact⟨f3,f1,f4,f5⟩
   ·rw[aq (D_ (uk f))];exact P
   ·obtain⟨o,g',ep,ho,r⟩:=hm;exact⟨o,g',ep,k2 _ o (λm=>(hf _ (sub _ m)).2.1 rfl) ho,r⟩
   · by_cases k':c=w.heap.objs.size;·subst k';rw[ao]at f;cases f;exact⟨by show 2<=sizeLine;decide,_,.cons ru (.cons l' .nil),⟨_,(c'.extBut _ _ (aaI i') a5),rfl,_,rfl⟩⟩
     · rw[aq k']at f;refine(I.hok c o2 f).stay (λe v' b' qq=>k2 e v' ?_ qq) (λe qq=>by rw[aq (aA qq hp)];exact qq) λe zs qq=>by rw[aq (aA qq hp)];exact qq
       rcases b' with rfl|b';·exact nt _ _ f
       ·exact nt _ _ b'
  refine⟨.ref w.heap.objs.size,_,I1,rfl,⟨_,x,y,rfl,hp,rfl,λzs d'=>?_,λzs d'=>?_⟩,⟨z2,?_,⟨_,_,c'.extBut _ _ j.n2 a2⟩,a3.at λo f=>c'.extBut _ _ j.n3 f,a4.at λo f=>c'.extBut _ _ j.n4 f⟩,λc m=>?_⟩;·rw[ha]at d';cases d';exact hx
  ·rw[hb]at d';cases d';exact hy
  ·exact c'.extBut _ _ j.n1 (kk _ _ j.n1 j.n5 j.n6 j.n7 st.ti)
  · have lt:c<w.heap.objs.size:=by
     rcases TV m with rfl|rfl|rfl|rfl|rfl;·exact i'
     ·exact uk st.ti
     ·exact uk e'
     ·obtain⟨_,e,_⟩:=st.j1;exact uk e
     ·obtain⟨_,e,_⟩:=st.j2;exact uk e
    rw[aq (D_ lt)];exact fr c m
 done:=by
  intro X hP hw hK hc i f' w σ H E I hf st hg;obtain⟨xs,ys,ha,hb,hl⟩:=hg;obtain⟨n',rv,A,_⟩:=I.tuple (û.of ha);obtain⟨q1,q2,e'⟩:=st.to;have fr:=λc m=>(hf c m).1;have an:∀c∈[z,TI,TO,i1,i2],a≠c:=λc m g=>by rw[g,fr c m]at ha;cases ha
  have bn:∀c∈[z,TI,TO,i1,i2],D≠c:=λc m g=>by rw[g,fr c m]at hb;cases hb
  have o':=rv.length;refine EQ (I.ok.hd hc) (⟨j.n1,j.n2,j.n3,j.n4,j.n5,j.n6,j.n7,j.n8,j.n9,j.n10,an z ∅,an TO ∅,an i1 ∅,an i2 ∅,bn z ∅,bn TO ∅,bn i1 ∅,bn i2 ∅⟩) st.z st.ti e' st.j1 ((A)) (by simp;lia) λh' kk=>⟨rfl,?_⟩;have k2:∀c o,c∉[z,TO,i1,i2]->w.heap.get? c=Z o->h'.get? c=Z o:=λc o a' f=>kk c o (λg=>a' (by simp[g])) (λg=>a' (by simp[g])) (λg=>a' (by simp[g])) (λg=>a' (by simp[g])) f;have sub:∀c,c∈[z,TO,i1,i2]->c∈[z,TI,TO,i1,i2]:=λc m=>by rcases(by simpa using m)with rfl|rfl|rfl|rfl<;>simp
  have nt:∀c o,H c=Z o->c∉[z,TO,i1,i2]:=λc o f m=>by rw[fr c (sub c m)]at f;cases f
  refine I.step (λc m=>?_) (λc o _ _ Q f _=>k2 c o Q f) (λc o _ _ Q f _=>⟨o.slots,k2 c o Q f⟩) (λc o Q f P=>P) (λc o Q f=>⟨o,k2 c o Q f⟩) (λc zs f=>f) (λc o zs f=>f) (λc ps f=>⟨#[],by rw[f];simp⟩) (λm hm=>?_) (λc o2 f=>?_) I.bare;·obtain⟨f0,f1,R,f3,f4,f5⟩:=hf c (sub c m);exact⟨f3,f1,f4,f5⟩
  ·obtain⟨o,g',ep,ho,r⟩:=hm;exact⟨o,g',ep,k2 _ o (λm=>(hf _ (sub _ m)).2.1 rfl) ho,r⟩
  · refine(I.hok c o2 f).stay (λe v' b' qq=>k2 e v' ?_ qq) (λe qq=>qq) λe zs qq=>qq;rcases b' with rfl|b';·exact nt _ _ f
    ·exact nt _ _ b'
 self:=λ_ _ _ _ _ st h=>wpAny_pyIter_zip st.z h
def MP:W%0->W%0->W%0|x::b,y::a=>.tup [x,y]::MP b a|_,_=>[]
def ki:∀(a b:W%0),a.length=b.length->(MP a b).length=a.length|[],[],_=>rfl|x::a,y::b,h=>by show(MP a b).length+1=a.length+1;rw[ki a b (by simpa using h)]|[],_::_,h=>rfl|_::_,[],h=>by simp at h
def w6:∀(d b:W%0)(i:Nat)(x y:W),d[i]?=Z x->b[i]?=Z y->(MP d b)[i]?=Z (.tup [x,y])|x::d,y::b,0,f,e,h,a=>by simp at h a;subst h a;rfl|x::d,y::b,i+1,f,e,h,a=>w6 d b i f e (by simpa using h) (by simpa using a)|[],_,_,_,_,h,_=>by simp at h|_::_,[],_,_,_,_,a=>by simp at a
def OM{b:V%0}{f:W%0}(n:g e=Z (.tup ζ))(m:g A=Z (.tup b))(r:S q g u ζ)(D:S q g f b)(k:u.length=f.length):WkG q (Itz e A) (MP u f) g where
 go:=λi E a h=>by
  rw[ki u f k]at h;have s:i<ζ.length:=by rw[r.length];exact h
  have o:i<b.length:=by rw[D.length,<-k];exact h
  exact⟨ζ,b,ζ[i],b[i],a _ _ n,a _ _ m,by simp[s],by simp[o]⟩
 stop:=λE a=>⟨ζ,b,a _ _ n,a _ _ m,by rw[r.length,ki u f k];exact o_ _⟩;yld:=λi E v Q a h y=>by obtain⟨p,x,y,rfl,j,rfl,I,H⟩:=y;obtain⟨d,s,o⟩:=S.get (S.mono a _ _ r) (I ζ (a _ _ n));obtain⟨P,z,w⟩:=S.get (S.mono a _ _ D) (H b (a _ _ m));exact⟨aG j _,_,w6 u f i d P s z,⟨p,_,rfl,ao,⟨x,[y],rfl,Ü.mono (aG j _) _ _ o,y,[],rfl,Ü.mono (aG j _) _ _ w,rfl⟩⟩⟩
def ON:W%0->Rs (W%0)%1|[.tup b,.tup a]=>if b.length=a.length then MP b a%3 else U|_=>U
def Kf(hg:Gl a "zip")(hm:a.mg "zip"=U)(ha:FA a [h,v] μ)(hs:k_ [h,v] a.env=[(h_,eval h a.env),(h_,eval v a.env)]:=by lk)(D:k_ [v] a.env=[(h_,eval v a.env)]:=by lk):Ň a (.Tuple s b k) (.Call (.Name "zip" w) [h,v] [] Λ) (λy=>à (μ y) ON):=by
 constructor;intro f' d σ H R I f;obtain⟨y,E,o⟩:=f;have key:ô a H (μ y) λvs H'=>∃A,S a.K H' A vs/\ĺ a H' (ON A) R:=by match hf:μ y,o with|some (.exc c),o=>exact o|some (.ok A),o=>exactλvs H' e rs=>⟨A,rs,ĺ.mono e o⟩
 refine Call_ (jf I hg hm (show Yz "zip"=Z (.type "zip")by decide+kernel) (Yn (í (ha.h Λ f' d σ H _ I ⟨y,E,key⟩) λus z⟨vs,H1,p,r1,A,rs,q⟩=>?_) (by rw[hs,D]) (by rw[D];rfl)));unfold ON at q;split at q
 · split at q
   · rename_i hl;obtain⟨j,v',rfl,rv,a'⟩:=Jm rs;obtain⟨i,ws,rfl,h1,h2⟩:=rv.tupE;obtain⟨g,g',rfl,P,e'⟩:=a'.tupE;obtain⟨u,u',rfl,ru,b'⟩:=Ö.two r1;cases ru;cases b';obtain⟨l',rt,pl,hz⟩:=p.tuple (û.of h1);obtain⟨k',i',c',m'⟩:=p.tuple (û.of P);refine Bb ((pl)) ((c')) λh' g1 g2 g3 g4 g5 g6 kk=>(wpAny_pyIter_zip g1 ?_);have r:∀m n:Nat,m≠n->z.heap.objs.size+m≠z.heap.objs.size+n:=λm n d' e=>d' (ad2 e);have Q:∀m:Nat,0≠m->z.heap.objs.size≠z.heap.objs.size+m:=λm hm e=>hm (ad2 (n:=z.heap.objs.size) e);refine⟨_,_,_,_,H1,rfl,(p.kept kk),ET i g _ _ _ _ _ ⟨r 2 4 #v[],r 3 4 #v[],Q 4 #v[],r 1 4 #v[],r 2 3 #v[],(Q 2 #v[]).symm,r 2 1 #v[],(Q 3 #v[]).symm,r 3 1 #v[],Q 1 #v[]⟩,⟨g1,g2,⟨_,_,g3⟩,g4,g5⟩,λc hc=>?_,q _ H1 (.refl H1) (OM h1 P h2 e' hl)⟩;rcases TV hc with rfl|rfl|rfl|rfl|rfl;·exact p.fpOk (YR _ _) (p.hok.fresh (YR _ _))
     ·exact p.fpOk (YR _ _) (p.hok.fresh (YR _ _))
     ·exact p.fpOk (YR _ _) (p.hok.fresh (YR _ _))
     ·exact p.fpOk (o_ _) (p.hok.fresh (o_ _))
     ·exact p.fpOk (YR _ _) (p.hok.fresh (YR _ _))
   ·exact q.elim
 ·exact q.elim
def jw(b:W->Ev->Ev%1)(f:Nat%0)(a:á):W%0->Ev->Fl%1|[],e=>Z (.nx (fgt f e))|d::i,e=>match b d (fgt f e)with|none=>U|some g=>match a g with|some (.nx h)=>jw b f a i h|o=>o
def Bc(b:W->Ev->Ev%1)(f:Nat%0)(d:ê)(a:á):á:=λe=>c9 (d e) λg=>jw b f a g e
def tgG(X:C)(b:W->Ev->Ev%1):TG:=λv h H Q=>∃d g e,Ü X.K H d v/\â X.K H h g/\b d g=Z e/\∀a f,Õ H f->â X.K f a e->Q a f
def FG.pg{b:W->Ev->Ev%1}(f:FG a h b):PG a h (tgG a b):=λn s k H v u Q I r⟨d,m,i,rd,E,e,q⟩=>í (f.h n s k H v u d m i I r rd E e) λ_ y⟨g,j,p,o,w⟩=>⟨g,j,p,q g j o w⟩
def Kg{b:W->Ev->Ev%1}(A:Nat%0)(hp:aaG (B_ a.prog a.w) a.A a.env a.xe)(hc:a.calm=L)(hi:Ň a h v μ)(hg:FG a h b)(hb:Ĩ a Υ Ψ)(hs:∀x,V_ v a.env x=pure x:=by intro _;lk):FS a (.For h v Υ [] k) (Bc b A μ Ψ):=by refine vg (sx hp hc hi.h hg.pg hb.h hs) λD σ H Q E o=>⟨Q,E,?_⟩;unfold Bc at o;match hf:μ Q,o with
 |none,o=>exact o|some (.exc c),o=>exact o|some (.ok q),o=>
 intro J H1 e1 wk;have o1:ÿ a H1 (jw b A Ψ q Q) D:=ÿ.mono e1 o;refine⟨λn m s g=>m=q.length-n/\n<=q.length/\Õ H1 g/\∃i,â a.K g s i/\ÿ a g (jw b A Ψ (q.drop n) i) D,⟨q.length,by simp,XG _,.refl H1,Q,E.mono e1,by simpa using o1⟩,?_⟩;rintro n m s g⟨rfl,hn,e2,i,E',p⟩;by_cases w:n<q.length;·refine .inr ⟨wk.go n g e2 w,λP I=>Õ H1 I/\∃f,â a.K I P f/\ÿ a I _ D,λP I⟨e3,f,E2,e⟩=>⟨_,by lia,rfl,w,e3,f,E2,e⟩,λx I y=>?_⟩;obtain⟨e4,d,hd,rd⟩:=wk.yld n g x I e2 w y;rw[gf hd]at p;unfold jw at p;match z:b d (fgt A i)with
   |none=>rw[z]at p;exact p.elim|some u=>rw[z]at p;refine⟨d,_,u,rd,(â.fgt A E').mono e4,z,λc' H3 e5 E3=>?_⟩;refine⟨u,E3,?_⟩;have e:=ÿ.mono (e4.trans e5) p;dsimp only at e;match j:Ψ u with|none=>rw[j]at e;exact e|some (.exc c)=>rw[j]at e;exact e|some (.rt r)=>rw[j]at e;exact e|some (.nx f)=>rw[j]at e;exactλb' H4 e6 E4=>⟨((e2.trans e4).trans e5).trans e6,f,E4,ÿ.mono e6 e⟩
 · have a':n=q.length:=by lia
   subst a';rw[Zv]at p;exact .inl ⟨wk.stop g e2,p s g (.refl g) (â.fgt A E')⟩
def OO:Þ|[.str x]=>.str x%3|a=>TF a
def Bd:lH a (.type "str") (λb H Q=>(∃i,b=[.int i]/\i.natAbs.log2<1920/\Q (.str (toString i)) H)\/∃x,b=[.str x]/\Q (.str x) H):=by
 intro g s e H b f Q I r h;rcases h with⟨i,rfl,d,q⟩|⟨x,rfl,q⟩;·obtain⟨u,rfl,t,rfl⟩:=gK r;exact PySem.P.str_of_int d ⟨.str _,H,I.tok _,⟨_,rfl⟩,q⟩
 ·obtain⟨u,rfl,t,rfl⟩:=gK r;exact PySem.P.str_of_str ⟨.str _,H,I,⟨_,rfl⟩,q⟩
def Kh(n:Gl a "str")(m:a.mg "str"=U)(q:FA a (h::s) μ)(p:h%8:=by lk)(e:(Xv w (k_ s a.env)).any (·.1)=h_:=by lk):FE a (.Call (.Name "str" k) (h::s) [] w) (ì OO μ):=dI (jq Bd n m (by decide+kernel) q.h #v[] #v[] p e) λu H Q g E o=>⟨g,E,ô.bind o λA y d z f b=>by
 unfold OO at b;split at b;·rename_i x;obtain⟨v,rfl,r⟩:=dL f;cases((r));exact .inr ⟨x,rfl,b _ d (.refl d) rfl⟩
 · unfold TF at b;split at b
   · rename_i i _;split at b;·rename_i j;obtain⟨v,rfl,r⟩:=dL f;cases((r));exact .inl ⟨i,rfl,j,b _ d (.refl d) rfl⟩
     ·exact b.elim
   ·exact b.elim⟩
def Be(e f:Û):kP:=λa b=>AG (f a) λd=>AG (e a) λk=>match k with|.int k=>if 0<=k/\k<b.length then Z (.nx a (b.set k.toNat d))else U|_=>U
def S.set{K:d_}{H:Hp}{d:W}{v:V}(k:Ü K H d v):∀{e:W%0}{b:V%0}(j:Nat),S K H e b->S K H (e.set j d) (b.set j v)|[],b,j,r=>by cases(show b=[]from r);exact r|h::e,b,0,r=>by obtain⟨i,f,rfl,m,g⟩:∃v a,b=v::a/\Ü K H h v/\S K H e a:=r;exact⟨v,f,rfl,k,g⟩|h::e,b,j+1,r=>by obtain⟨i,f,rfl,m,g⟩:∃v a,b=v::a/\Ü K H h v/\S K H e a:=r;exact⟨i,_,rfl,m,S.set k j g⟩
def EU(q:a.ex=[]){x:Str}{j:Pos}(hx:PE a (.Name x j) (zv b))(hi:FE a v Ñ)(he:FE a h z)(hs:ad6 [.Subscript (.Name x j) v w] h k.line a.env=pure h_:=by lk)(hw:ad7 [.Subscript (.Name x j) v w] h a.env=pure U:=by lk)(h1:(XH [.Subscript (.Name x j) v w] a.env).map (·.2)=[ķ (.Subscript (.Name x j) v w) a.env]:=by lk)(ha:∀e,ķ (.Subscript (.Name x j) v w) a.env e=(do let A<-ű [e] (eval (.Name x j) a.env);let iv<-ű [e,A] (eval v a.env);acZ w;ű [e,A,iv] (setItem A iv e);release [e,A,iv] []):=by intro _;lk):Ů a b (.Assign [.Subscript (.Name x j) v w] h k) (Be Ñ z):=⟨λf' s σ Hf D I⟨H,g,y,u,ds,e1,c',p,E,r,o⟩=>by refine Hd (vq q he.h) (Na hx (vq q hi.h) DY ha) hs hw h1 f' s σ Hf D I ⟨H,g,y,e1,c',u,E,?_⟩;unfold Be at o;match n:z u with
 |none=>rw[n]at o;exact o.elim|some (.exc _)=>rw[n]at o;exact o.elim|some (.ok d)=>rw[n]at o;match m:Ñ u with
 |none=>rw[m]at o;exact o.elim|some (.exc _)=>rw[m]at o;exact o.elim|some (.ok f)=>
 dsimp only[AG]at o;rw[m]at o;dsimp only at o;intro e H' Q rd b';refine⟨_,p,H',g,y,rfl,b',u,E.mono Q,?_⟩;rw[m];intro i H2 P rk a';cases f<;>try exact((o)).elim
 rename_i f;dsimp only at o;split at o
 · rename_i hk;cases((rk));have hl:=r.length;have hj:ixN y.length f=Z f.toNat:=by unfold ixN;rw[if_pos hk.1,if_pos ()]
   refine⟨g,y,f,f.toNat,rfl,rfl,ao,hj,?_⟩;rw[zr];exact o σ H2 _ (Q.trans P) a' p (E.mono (Q.trans P)) (S.set (Ü.mono P _ _ rd) f.toNat (S.mono (Q.trans P) _ _ r))
 ·exact o.elim⟩
def R7:Þ|[.str x]=>if x.length<=640 then(match afb x with|some n=>.int n%3|none=>U)else U|_=>U
def Bf:lH a (.type "int") (λb H Q=>∃x i,b=[.str x]/\x.length<=640/\afb x=Z i/\Q (.int i) H):=by intro j s f H b g Q I r h;obtain⟨x,i,rfl,e,d,q⟩:=h;obtain⟨u,rfl,t,rfl⟩:=gK r;exact PySem.W.KIN.call_text d e ⟨.int _,H,I.tok _,⟨_,rfl⟩,q⟩
def EV(p:Gl a "int")(j:a.mg "int"=U)(u:FA a (h::s) μ)(q:h%8:=by lk)(d:(Xv w (k_ s a.env)).any (·.1)=h_:=by lk):FE a (.Call (.Name "int" k) (h::s) [] w) (ì R7 μ):=dI (jq Bf p j (by decide+kernel) u.h #v[] #v[] q d) λy H Q f E o=>⟨f,E,ô.bind o λD z e A g b=>by
 unfold R7 at b;split at b
 · rename_i x;split at b
   · rename_i m;split at b;·rename_i n i;obtain⟨v,rfl,r⟩:=dL g;cases((r));exact⟨x,n,rfl,m,i,b _ e (.refl e) rfl⟩
     ·exact b.elim
   ·exact b.elim
 ·exact b.elim⟩
end FD
namespace ST
open PySem.SetTable
def tm(m:Nat):SetTable:={mask:=m,place:=#[],dummies:=#[],finger:=0,led:=L,moves:=0,plain:=L}
def pos(m:Nat)(h:Int)(n:Nat):Nat:=(advN (tm m) n ((tm m).probeStart h)).j
def addK[DecidableEq Q](a:Q%0)(k:Q):Q%0:=if k∈a then a else k::a
def ddk[DecidableEq Q](a:Q%0):Q%0:=a.foldl addK []
def EW[DecidableEq Q](a:Q%0)(k:Q):(addK a k).length<=a.length+1:=by unfold addK;split<;>simp
def kU{d:Type}[DecidableEq d]:∀(b a:d%0),(b.foldl addK a).length<=a.length+b.length|[],a=>o_ _|k::b,a=>by have f:=kU b (addK a k);have e:=EW a k;rw[abN,Xu];lia
def ddk_le[DecidableEq Q](a:Q%0):(ddk a).length<=a.length:=by have:=kU a [];unfold ddk;simpa using this
end ST
namespace FD
open L2
def range_getD(a:Q%0)(d:Q)(n:Nat)(h:n=a.length):(y_ n).map (λi=>a.getD i d)=a:=by
 subst h;apply abl;intro i;by_cases b:i<a.length;·simp[b]
 ·simp[b]
def tC(X:C)(i:Nat)(h:Û):TS:=λD b H=>∃e,â X.K H b e/\match h e with|none=>False|some (.exc c)=>XW X c H|some (.ok d)=>∃f,d=.lst f/\∀a p g,Õ H a->a p=U->S X.K a f g->D.nx (b.set i (Z (.ref p))) (å a p (.lst g))
def Bg{a:W->Ev->Ev%1}(g:Ev)(d:W)(h:bB b À μ a Í z g=d%3):∃e,d=.lst e:=by
 rcases Tj h with⟨c,j,f⟩|⟨n,e,j,f,m,k,i⟩;·cases f
 ·cases i;exact⟨e,rfl⟩
def uY{a:Type}(b:a->a->Bool)(x:a):a%0->a%0|[]=>[x]|y::l=>if b x y then x::y::l else y::uY b x l
def isortB{a:Type}(b:a->a->Bool):a%0->a%0|[]=>[]|x::l=>uY b x (isortB b l)
def jx{a:Type}(b:a->a->Bool)(x:a):∀l:a%0,(uY b x l).Perm (x::l)
 |[]=>.refl _|y::l=>by
  unfold uY;split;·exact .refl _
  ·exact((jx b x l).cons y).trans (adN ..)
def isortB_perm{a:Type}(b:a->a->Bool):∀l:a%0,(isortB b l).Perm l|[]=>.refl _|x::l=>(jx b x _).trans ((isortB_perm b l).cons x)
structure R8{α:Type}(le:α->α->Bool):Prop where
 t:∀a b,le a b=h_->le b a=L
 tr:∀a b c,le a b=L->le b c=L->le a c=L
 an:∀a b,le a b=L->le b a=L->a=b
def nO{f:Type}{e:f->f->Bool}(o:R8 e)(x:f):∀l:f%0,l.Pairwise (λa b=>e a b=L)->(uY e x l).Pairwise (λa b=>e a b=L)
 |[],_=>by simp[uY]|y::l,h=>by
  unfold uY;rw[Xy]at h;split
  · rename_i g;rw[Xy,Xy];refine⟨λz d=>?_,h⟩;rcases p_.mp d with rfl|d;·exact g
    ·exact o.tr _ _ _ g (h.1 z d)
  · rename_i g;rw[Xy];refine⟨λz d=>?_,nO o x l h.2⟩;rcases p_.mp ((jx e x l).mem_iff.mp d)with rfl|d;·exact o.t _ _ (by simpa using g)
    ·exact h.1 z d
def isortB_sorted{d:Type}{e:d->d->Bool}(o:R8 e):∀l:d%0,(isortB e l).Pairwise (λa b=>e a b=L)|[]=>abm|x::l=>nO o x _ (isortB_sorted o l)
def sorted_uniq{f:Type}{g:f->f->Bool}(o:R8 g):∀{l m:f%0},l.Perm m->l.Pairwise (λa b=>g a b=L)->m.Pairwise (λa b=>g a b=L)->l=m
 |[],m,d,_,_=>(List.Perm.nil_eq d)|x::l,[],d,_,_=>by simpa using d.length_eq|x::l,y::m,d,k,j=>by
  rw[Xy]at k j;have e:x=y:=by
   have i:=d.mem_iff.mp on;have h:=d.mem_iff.mpr on;rcases p_.mp i with e|i;·exact e
   · rcases p_.mp h with e|h;·exact e.symm
     ·exact o.an _ _ (k.1 y h) (j.1 x i)
  subst e;rw[sorted_uniq o (d.cons_inv) k.2 j.2]
def leS(a b:Str):Bool:=!A_ (b.cps.toList<a.cps.toList)
def ordS:R8 leS where
 t:=λa b h=>by simp![leS,Bool.not_eq_false',decide_eq_true_eq]at h;simp![leS,aar,decide_eq_false_iff_not];exactλd=>adM _ (aea h d)
 tr:=λa b c h d=>by simp![leS,aar,decide_eq_false_iff_not,adJ]at*;exact List.le_trans h d
 an:=λa b h d=>by simp![leS,aar,decide_eq_false_iff_not,adJ]at*;have e:=aeO h d;obtain⟨⟨a⟩⟩:=a;obtain⟨⟨b⟩⟩:=b;simp at e;rw[e]
def w8:W%0->(Int%0)%1|[]=>Z []|.int i::r=>(w8 r).map (i::·)|_=>U
def w9{H:Hp}{K:d_}:∀{a:W%0}{e:Str%0}{d:V%0}{b:B%0},cw a=Z e->S K H a d->Ö d b->ae9 b e
 |[],e,d,b,h,r,v=>by cases h;cases((r));cases v;exact .nil|.str i::a,e,d,b,h,r,v=>by obtain⟨y,f,rfl,k,j⟩:∃v f,d=v::f/\Ü K H _ v/\S K H a f:=r;cases((k));obtain⟨n,m,rfl⟩:=YQ.mp ((h));cases v with|cons g v2=>obtain⟨t,rfl⟩:=g;exact .cons i t (w9 m j v2)
 |.non::a,_,_,_,h,_,_=>by cases h|.bl _::a,_,_,_,h,_,_=>by cases h|.int _::a,_,_,_,h,_,_=>by cases h|.tup _::a,_,_,_,h,_,_=>by cases h|.lst _::a,_,_,_,h,_,_=>by cases h|.scr _::a,_,_,_,h,_,_=>by cases h|.exn _::a,_,_,_,h,_,_=>by cases h|.obj _ _::a,_,_,_,h,_,_=>by cases h
def pU:∀{a:B%0}{b:Str%0},ae9 a b->Ö (b.map V.str) a|_,_,.nil=>.nil|_,_,.cons n t h=>.cons ⟨t,rfl⟩ (pU h)
def pV{K:d_}(H:Hp):∀a:Str%0,S K H (a.map W.str) (a.map V.str)|[]=>rfl|n::a=>⟨_,_,rfl,rfl,pV H a⟩
def tK:∀(p:Str)(l:Str%0),risingS p l=L->(p::l).Pairwise (λa b=>leS a b=L)
 |p,[],_=>by simp|p,x::r,h=>by
  have g:(!ltCps x.cps.toList p.cps.toList)=L/\risingS x r=L:=by simpa[risingS]using h
  have d:=tK x r g.2;have f:leS p x=L:=by unfold leS;rw[<-ltCps_eq];exact g.1
  rw[Xy];refine⟨λz e=>?_,d⟩;rw[Xy]at d;rcases p_.mp e with rfl|e;·exact f
  ·exact ordS.tr _ _ _ f (d.1 z e)
def sortedS_pw(l:Str%0)(h:sortedS l=L):l.Pairwise (λa b=>leS a b=L):=by cases l with|nil=>exact .nil|cons x r=>exact tK x r h
def line64(h:b<64):b<=sizeLine:=by
 have:sizeLine=16777216:=by decide
 lia
def Ki:Þ|[.lst a]=>(match kN a with|some bs=>.bl (bs.any id)%3|none=>U)|_=>U
def Bh:lH a (.builtin "any") (λy H Q=>∃d p bs w,y=[.ref d]/\H d=Z (.lst p)/\S a.K H w p/\kN w=Z bs/\a.calm=L/\Q (.bl (bs.any id)) H):=by
 intro f' s σ H y us Q I r h;obtain⟨d,p,bs,w,rfl,h1,h2,h3,hc,q⟩:=h;obtain⟨u,rfl,P⟩:=gK r;cases P;obtain⟨z,a',n,E,hl,e⟩:=I.lstM h1;have eb:=qQ h2 E h3;subst eb;have A:s.heap.IsList d _:=⟨_,e,rfl,_,rfl⟩;refine call_any_walk (aan A ?_);refine⟨s.heap.objs.size,_,_,_,_,_,λi=>(bs[i]?).getD L,rfl,afh (A:=a.A.in1) (I.ok.hd hc) _ d (D_ (uk e)) _,⟨⟨_,rl _ rfl,rfl,rfl⟩,A.push _⟩,λi v D Q' E' hP hQ=>?_,λh' tk hk=>?_⟩
 · have f:(bs.map XA)[i]?=Z v:=by simpa using hP
   rw[P_]at f;cases j:bs[i]? with|none=>rw[j]at f;cases f|some b=>rw[j]at f;cases f;have k:Q' ((bs[i]?).getD L) D:=hQ;rw[j]at k;exact Y7 k
 · have e2:((y_ (bs.map XA).toArray.size).any λi=>(bs[i]?).getD L)=bs.any id:=by
    rw[I_,T_,Yt];simp![Z9,X5,id];constructor;·rintro⟨i,g,m⟩;simp![r_ g]at m;exact⟨_,aaK g,m⟩
    ·rintro⟨b,j,m⟩;obtain⟨i,g,rfl⟩:=adL.mp j;exact⟨i,g,by simpa[g]using m⟩
   rw[e2];exact⟨.bl _,H,I.kept λb o q=>hk b o (by simp;exact D_ (uk q)) (l_ _ q),rfl,q⟩
def OP(u:a.calm=L)(p:Gl a "any")(n:a.mg "any"=U)(z:FA a (h::s) μ)(q:h%8:=by lk)(e:(Xv w (k_ s a.env)).any (·.1)=h_:=by lk):FE a (.Call (.Name "any" k) (h::s) [] w) (ì Ki μ):=dI (iM Bh p n (by decide+kernel) z.h #v[] #v[] q e) λI H Q g E o=>⟨g,E,ô.bind o λds P f e1 m d=>by
 unfold Ki at d;split at d
 · rename_i i;split at d;·rename_i bs y;obtain⟨v,rfl,r⟩:=dL m;obtain⟨b,j,rfl,D,A⟩:=r.lstE;exact⟨b,j,bs,i,rfl,D,A,y,u,d _ f (.refl f) rfl⟩
   ·exact d.elim
 ·exact d.elim⟩
def HI{a:ñ%1}{b:Û}{e:Ev}:∀f:W%0,Ad a b e f=oQ (gN 0) a b e f|[]=>rfl|d::f=>by unfold Ad oQ;rw[HI f];rfl
def Kj(e:(Str×Nat)%0)(b:ê)(a:ñ%1)(d:Û):cu e b a d=bB 1 e b (gN 0) a d:=by funext f;show à _ _=à _ _;congr 1;funext g;rw[HI];rfl
def Kk(h:PS a Γ (tC a b z))(q:∀e d,z e=d%3->∃g,d=.lst g):FS a Γ (cO b z):=⟨λr s k H D I⟨e,E,o⟩=>by refine h r s k H D I ⟨e,E,?_⟩;unfold cO at o;match f:z e with|none=>rw[f]at o;exact o.elim|some (.exc c)=>rw[f]at o;exact o|some (.ok d)=>rw[f]at o;obtain⟨g,rfl⟩:=q e d f;exact⟨g,rfl,λu p m j i n=>o _ _ (j.trans (aG i _)) ((E.mono (j.trans (aG i _))).set ⟨p,m,rfl,ao,S.mono (aG i _) _ _ n⟩)⟩⟩
end FD
namespace ST
open PySem.SetTable
def SetS(b:m_)(w:v_)(h:O_)(S:O)(d:Str%0):Prop:=∃o a f t,h.get? S=Z o/\o.ExactSet/\o.data=.set a f t/\t.fits a.size=L/\d.length<=60/\t.led=(!Ħ w)/\(a.size≠0->t.plain=h_)/\ElemsOf (YL b w) a.toList/\(∀e∈a.toList,∃x t,e.2=.str x t)/\(a.toList.map λe=>aeY e.2).Perm d
def OQ(t:SetTable)(n:Nat):(t.orStandIn n).led=t.led/\((t.orStandIn n).plain=t.plain\/(t.orStandIn n).plain=h_):=by
 unfold SetTable.orStandIn;split;·exact⟨rfl,.inl rfl⟩
 ·exact⟨rfl,.inr rfl⟩
def Kl(t:SetTable)(a:Array (Int×B))(h:Int)(x:B):(layNew t a h x).2.1.led=t.led:=by
 unfold layNew;split;·exact(OQ _ _).1
 ·rfl
def EY{f:Array Int}{d:Array Nat}(e:laid b o Δ H Ï f=Z (Β,d)):Β.led=H/\Β.plain=Ï:=by unfold laid at e;cases g:afj b f with|none=>rw[g]at e;cases e|some a=>rw[g]at e;cases e;exact⟨rfl,rfl⟩
def Bi(t:SetTable)(b:Array (Int×B))(n:Nat)(d:t.plain=h_):(acH t b n).2.1.led=t.led/\(acH t b n).2.1.plain=h_:=by
 unfold acH;split
 · rename_i h a e;obtain⟨g,f⟩:=EY e;dsimp!;split;·exact⟨g,f.trans d⟩
   ·exact⟨rfl,rfl⟩
 ·exact⟨rfl,rfl⟩
def Bj{w:Array (Int×B)}(q:I.get? e=Z Ä)(h:Ä.ExactSet)(k:Ä.data=.set w b Β){d:Array (Int×B)}{f:SetTable}{g:Str%0}(v:f.fits d.size=L)(u:g.length<=60)(s:f.led=(!Ħ n))(o:f.plain=h_)(i:ElemsOf (YL p n) d.toList)(m:∀a∈d.toList,∃x Β,a.2=.str x Β)(r:(d.toList.map λa=>aeY a.2).Perm g):SetS p n (I.update e (ZS d f)) e g:=by have j:=YG (ZS d f) q (by rw[acI d f k];rfl);rw[acI d f k]at j;exact⟨_,d,_,f,j,h,rfl,v,u,s,λ_=>o,i,m,r⟩
def tL{l a:(Int×B)%0}(p:a.Perm l)(d:∀e∈l,∃x t,e.2=Zh x t){b:Str%0}(f:(l.map λe=>aeY e.2).Perm b):(∀e∈a,∃x t,e.2=Zh x t)/\(a.map λe=>aeY e.2).Perm b:=⟨λe g=>d e (p.mem_iff.mp g),(p.map _).trans f⟩
def HJ{g:Array (Int×B)}(h:∀e∈g.toList,∃x t,e.2=.str x t)(i:(g.toList.map λe=>aeY e.2).Perm E):(∃e∈g.toList,(YL p n).is d e.2=L)↔d∈E:=by
 rw[<-i.mem_iff,L_];constructor
 · rintro⟨e,b,a⟩;obtain⟨x,t,f⟩:=h e b;refine⟨e,b,?_⟩;rw[f]at a⊢;have:(x==d)=L:=by simpa[YL,ZR]using a
   show x=d;simpa using this
 ·rintro⟨e,b,a⟩;obtain⟨x,t,f⟩:=h e b;refine⟨e,b,?_⟩;rw[f]at a⊢;have:x=d:=a;rw[this];simp[YL,ZR]
def WU{w:Tok}{Q:Bool->ge->Prop}(hS:SetS p n f.heap e E)(hn:E.length<60)(h:∀b h',YO e f.heap h'->SetS p n h' e (addK E d)->Q b {f with heap:=h'}):xy (B_ p n) D (setAddHashed e (.str d w) ((YL p n).hash d)) Q ν f:=by
 obtain⟨o,es,ep,t,ho,hex,hd,hf,n',hl,hp,a',hs,hm⟩:=id hS;have H:=strKind_is p n d w;have d':(Zh d w).scannable=L:=rfl;have k':es.size=E.length:=by have:=hm.length_eq;simpa using this
 refine XY (c_ (Yc ho hd hf ?_));dsimp!;rw[byScan_of d' (by rw[k'];unfold scanBound;lia) a'];refine c_ (c_ (Zw (c_ (wpAny_setScan_of H ho hd hf a' ?_))));have gv:∀(b:Bool){A:ge}{Q':Unit->ge->Prop},Q' Unit.unit A->xy (B_ p n) D (match b with|true=>rule "set.scan.the-table-gave-way"|false=>pure Unit.unit) Q' ν A:=λb _ _ z=>by
  cases b;·exact i_ z
  ·exact Zw z
 cases hr:List.findIdx? _ es.toList with|some j=>obtain⟨hj,pj,_⟩:=List.findIdx?_eq_some_iff_getElem.mp hr;refine i_ (i_ (h _ f.heap (Heap.SameBut.refl e f.heap) ?_));unfold addK;rw[if_pos ((HJ hs hm).mp ⟨_,aaK hj,pj⟩)];exact hS|none=>
  have i':d∉E:=λz=>by obtain⟨g,I,q⟩:=(HJ hs hm).mpr z;have:=List.findIdx?_eq_none_iff.mp hr g I;rw[q]at this;cases this
  have m:=layNew_perm t es ((YL p n).hash d) (.str d w);have s:=layNew_fits t es ((YL p n).hash d) (.str d w);have u:=Kl t es ((YL p n).hash d) (.str d w);generalize layNew t es _ _=i at m s u⊢;obtain⟨k,t1,wd,o'⟩:=i;rw[abn]at m;have g':=(a'.push H d').perm m;have eK:addK E d=d::E:=by unfold addK;rw[if_neg i']
  obtain⟨s1,m1⟩:=tL m (b:=d::E) (λg I=>by
   rcases XD.mp I with I|I;·exact hs g I
   ·rw[S_.mp I];exact⟨d,w,rfl⟩) (by rw[YE];exact(hm.append_right _).trans (aaA d E));have z1:k.size=E.length+1:=by have:=m1.length_eq;simpa using this
  have f':k.size<scanBound:=by rw[z1];unfold scanBound;lia
  refine c_ (gv _ ?_);have y:∀r:SetTable,r.fits k.size=L->r.led=(!Ħ n)->r.plain=h_->xy (B_ p n) D (do
   afa e k r if(!wd&&r.tooFull)=L then do(match(acH r k (Zy k.size)).2.2 with|true=>rule "set.scan.the-table-gave-way"|false=>pure Unit.unit)afa e (acH r k (Zy k.size)).1 (acH r k (Zy k.size)).2.1pure (Z L)else pure (Z L)) (λa s'=>xy (B_ p n) D (match a with|some b'=>pure b'|none=>setAddHashedIn e (.str d w) ((YL p n).hash d) 99999) Q ν s') ν f:=by
   intro r R l2 p2;refine c_ (aa_ ho hd ?_ (fits_of_scanBound f'));have S1:SetS p n (f.heap.update e (ZS k r)) e (addK E d):=by rw[eK];exact Bj ho hex hd R (by simp;lia) l2 p2 g' s1 m1
   have c':=YT f.heap e (ZS k r);split
   · have v:=relayAll_perm r k (Zy k.size);have e':=relayAll_fits r k (Zy k.size);obtain⟨q1,q2⟩:=Bi r k _ p2;generalize acH r k _=L2 at v e' q1 q2⊢;obtain⟨m',t3,g2⟩:=L2;obtain⟨s2,m2⟩:=tL v s1 m1;have z2:m'.size=k.size:=by rw[<-Yj,v.length_eq,Yj]
     have P:=YG (ZS k r) ho (by rw[acI k r hd];rfl);rw[acI k r hd]at P;refine c_ (gv _ (c_ (aa_ P rfl (i_ (i_ (h _ _ (c'.trans (YT _ e _)) ?_))) (fits_of_scanBound (by rw[z2];exact f')))));rw[eK];exact Bj P hex rfl e' (by simp;lia) (q1.trans l2) q2 (g'.perm v) s2 m2
   ·exact i_ (i_ (h _ _ c' S1))
  split;·exact c_ (i_ (y _ (SetTable.fits_plain_off s) (u.trans hl) rfl))
  ·rename_i l';exact c_ (i_ (y _ s (u.trans hl) (by simpa using l')))
def SetS.moved{a:O_}(x:SetS p n I e E)(d:∀o,I.get? e=Z o->a.get? e=Z o):SetS p n a e E:=by obtain⟨o,f,g,t,b,r⟩:=x;exact⟨o,f,g,t,d _ b,r⟩
def EZ(a:I.get? e=Z (vy (!Ħ n))):SetS p n I e []:=⟨_,#[],0,_,a,⟨rfl,rfl,rfl⟩,rfl,rfl,by simp,rfl,(absurd rfl),λa b=>by simp at b,λa b=>by simp at b,.refl _⟩
def fl_S{a:Nat->Str}(s:∀(i:Nat)(v:B),Κ[i]?=Z v->∃j,v=Zh (a i) j)(z:Κ.size<=59):Fl p n f Κ b λi h=>SetS p n h f.heap.objs.size (ddk ((y_ i).map a))where
 h0:=λk e _=>EZ e;mv:=λI i h k q _ e hS=>hS.moved λo=>e _ o q;st:=λi v y D Q E _ r hS h=>by
  have u:=(Yw.mp r).1;obtain⟨j,rfl⟩:=s i v r;refine XY (c_ ((YL p n).pyHash (strKind_is p n _ j) ?_));have d:ddk ((y_ (i+1)).map a)=addK (ddk ((y_ i).map a)) (a i):=by unfold ddk;rw[adk,YE,List.foldl_append];rfl
  have w:(ddk ((y_ i).map a)).length<=i:=by have:=ddk_le ((y_ i).map a);simpa using this
  refine WU hS () λA k m g=>?_;rw[<-d]at g;exact h _ k _ (YR _ _) m g
def Ć:Slot "set_iterator" "__next__" "set_iterator.__next__":=.of (n:="__next__") (owner:="set_iterator") (by lk) (rfl) (rfl) (rfl) (by first|exact .inl (by decide+kernel)|exact .inr _) (by lk)
def xb:entryFor table "set_iterator.__next__"=Z Zd.«set_iterator.__next__»:=entryFor_of_tree (rfl)
def xf(a:B):argsOk "set_iterator.__next__" ⟨[a],[]⟩:=by lk
def TW:entryFor table "set.__iter__"=Z Zd.«frozenset.__iter__»:=entryFor_alias (id':="frozenset.__iter__") (by lk) rfl (by decide+kernel) (by lk)
def lO{a:Type}:∀(l:a%0)(i:Nat)(h:i<l.length),(l[i]::l.eraseIdx i).Perm l|x::l,0,_=>.refl _|x::l,i+1,h=>by exact(adN ..).trans ((lO l i _).cons x)
def tM{e:Type}(a:Nat->Nat):∀(n k:Nat)(left:e%0)(b:Array e),left.length=n->(ael a n k left b).toList.Perm (b.toList++left)|0,k,left,b,h=>by have:=Y4.mp h;subst this;unfold ael;simp|n+1,k,left,b,h=>by unfold ael;have d:a k%left.length<left.length:=aaW _ ();rw[r_ d];refine(tM a n _ _ _ (by rw[acg d];lia)).trans ?_;rw[abn,XM];exact List.Perm.append_left _ (lO _ _ d)
def Bk{a:Source}{Q:Nat->ge->Prop}(e:b≠0)(h:∀i d,i<b->Q i {f with drawn:=d}):xy (B_ p n) D (choose a b) Q ν f:=λ_ _ _=>⟨e,h _ _ (aaW _ (Nat.pos_of_ne_zero e))⟩
def Bl{f:m_}{w:v_}{A:x_}{E:B->ge->Prop}{k:Type}:∀(n:Nat)(a:k%0)(s:ge)(Q:k%0->ge->Prop),a.length=n->(∀g d,g.Perm a->Q g {s with drawn:=d})->xy (B_ f w) A (drawOrder n a) Q E s|0,a,s,Q,b,h=>by have:=Y4.mp b;subst this;have e:s={s with drawn:=s.drawn}:=rfl;refine i_ ?_;exact h [] s.drawn (.refl _)|n+1,[],s,Q,b,h=>by simp at b|n+1,x::a,s,Q,b,h=>by refine c_ (Bk ∅ λi d j=>?_);rw[r_ j];exact c_ (Bl n _ _ _ (by rw[acg j];simp at b⊢;lia) λg o m=>(i_ (h _ o ((m.cons _).trans (lO _ _ j)))))
structure Rd(w:v_)(h:O_)(S:O)(es:Array (Int×B))(ep:Nat)(t:SetTable):Prop where
 o:∃o,h.get? S=Z o/\o.ExactSet/\o.data=.set es ep t
 f:t.fits es.size=L
 l:t.led=(!Ħ w)p:es.size≠0->t.plain=h_
def Rd.moved{a:O_}{d:Array (Int×B)}(r:Rd n I e d b Β)(k:∀o,I.get? e=Z o->a.get? e=Z o):Rd n a e d b Β:=by obtain⟨⟨o,g,f⟩,j,i,h⟩:=r;exact⟨⟨o,k _ g,f⟩,j,i,h⟩
abbrev ŷ(a:B)(i:Nat)(S:O)(n b:Nat):Obj:={cls:=.type "set_iterator",dict:=U,data:=.fields #[a,Zm i,.ref S,Zm n,Zm b],slots:=#[]}
def xg(f:B)(i:Nat)(S:O)(n a:Nat):ŷ f (i+1) S n a={cls:=.type "set_iterator",dict:=U,data:=.fields #[f,.int ((i:Int)+1) 0,.ref S,.int n 0,.int a 0],slots:=#[]}:=rfl
def Fa{h:Array (Int×B)}{Q:B%1->ge->Prop}(r:Rd n f.heap A h b Β)(d:f.heap.get? e=Z (ŷ (Zm Δ) o A h.size b)){x:B}{j:Nat}(s:∀(R:(B×Nat)%1->ge->Prop)(z:B->ge->Prop),R (Z (x,j)) f->xy (B_ p n) D.in1 (aek A Δ o b) R z f)(q:∀g,g.get? e=Z (ŷ (Zm j) (o+1) A h.size b)->YO e f.heap g->Q (Z x) {f with heap:=g}):xy (B_ p n) D (K' (.ref e)) Q ν f:=by have i:f.TypeIs (.ref e) "set_iterator":=⟨_,d,rfl⟩;obtain⟨a,k,hex,m⟩:=r.o;refine c_ (YZ (XO i Ć (XN Ć i xb ?_ (xf _))));refine c_ (Zs (by rfl) (c_ (aat d rfl ?_)));dsimp only[Zm];refine c_ (ZW k m r.f ?_);rw[if_neg ∅];refine c_ (m:=pure _) (i_ ?_);refine c_ (s _ _ ?_);exact c_ (Ym d ∅ λH v y=>(c_ (Ym v ∅ λE u w=>(i_ ⟨x,rfl,i_ (q _ (by rw[xg];simpa[Zm]using u) (y.trans w))⟩))))
def tN{i:Array (Int×B)}{Q:B%1->ge->Prop}(k:D.handled=U)(r:Rd n f.heap A i b Β)(d:f.heap.get? e=Z (ŷ (Zm Δ) o A i.size b))(s:∀(R:(B×Nat)%1->ge->Prop)(v:B->ge->Prop),R U f->xy (B_ p n) D.in1 (aek A Δ o b) R v f)(q:∀h,adD e f.heap h->Q U {f with heap:=h}):xy (B_ p n) D (K' (.ref e)) Q ν f:=by have g:f.TypeIs (.ref e) "set_iterator":=⟨_,d,rfl⟩;obtain⟨a,j,hex,m⟩:=r.o;refine c_ (YZ (XO g Ć (XN Ć g xb ?_ (xf _))));refine c_ (Zs (by rfl) (c_ (aat d rfl ?_)));dsimp only[Zm];refine c_ (ZW j m r.f ?_);rw[if_neg ∅];refine c_ (m:=pure _) (i_ ?_);refine c_ (s _ _ ?_);refine c_ (Ym d ∅ λw y u=>(c_ ?_));refine c_ (Xz (c_ (Zs (a:=M_) (rfl) (Xz ?_ (by size_fits)))) (by size_fits));refine c_ (acv ?_);rw[(k)];refine c_ (i_ (adx ?_));exact c_ (aaC ⟨_,rl _ rfl,rfl⟩ ab4 (i_ (q _ ((u.extBut.push _).push _))))
def Fb{T:O}{d:Array (Int×B)}{Q:B%1->ge->Prop}(r:Rd n f.heap A d b Β)(g:f.heap.get? e=Z (ŷ (.ref T) o A d.size b))(w:f.heap.IsTuple T Κ){k:Nat}{z:Int}{x:B}(u:Κ[o]?=Z (Zm k))(v:d[k]?=Z (z,x))(y:∀h,h.get? e=Z (ŷ (.ref T) (o+1) A d.size b)->YO e f.heap h->Q (Z x) {f with heap:=h}):xy (B_ p n) D (K' (.ref e)) Q ν f:=by have m:f.TypeIs (.ref e) "set_iterator":=⟨_,g,rfl⟩;obtain⟨a,q,hex,s⟩:=r.o;obtain⟨I,i,_,P,j⟩:=w;refine c_ (YZ (XO m Ć (XN Ć m xb ?_ (xf _))));refine c_ (Zs (by rfl) (c_ (aat g rfl ?_)));dsimp only[Zm];refine c_ (ZW q s r.f ?_);rw[if_neg ∅];refine c_ (m:=pure _) (i_ ?_);refine c_ (YY i j ?_);dsimp!;rw[Zl,u];refine c_ ?_;refine c_ (Yc q s r.f ?_);dsimp!;rw[if_neg ∅];refine c_ (i_ ?_);rw[Zl,v];exact i_ (c_ (Ym g ∅ λh1 E H=>(i_ ⟨x,rfl,i_ (y _ (by rw[xg];simpa[Zm]using E) H)⟩)))
def tP{T:O}{k:Array (Int×B)}{Q:B%1->ge->Prop}(s:D.handled=U)(r:Rd n f.heap A k b Β)(d:f.heap.get? e=Z (ŷ (.ref T) o A k.size b))(v:f.heap.IsTuple T Κ)(m:Κ[o]?=U)(w:∀j,adD e f.heap j->Q U {f with heap:=j}):xy (B_ p n) D (K' (.ref e)) Q ν f:=by have i:f.TypeIs (.ref e) "set_iterator":=⟨_,d,rfl⟩;obtain⟨a,q,hex,u⟩:=r.o;obtain⟨H,g,_,I,h⟩:=v;refine c_ (YZ (XO i Ć (XN Ć i xb ?_ (xf _))));refine c_ (Zs (by rfl) (c_ (aat d rfl ?_)));dsimp only[Zm];refine c_ (ZW q u r.f ?_);rw[if_neg ∅];refine c_ (m:=pure _) (i_ ?_);refine c_ (YY g h ?_);dsimp!;rw[Zl,m];refine c_ (Ym d ∅ λh1 y E=>(c_ (Ym y ∅ λP g2 z=>(c_ ?_))));simp![newTuple];refine c_ (Xz (c_ (Zs (a:=M_) (rfl) (Xz ?_ (by size_fits)))) (by size_fits));refine c_ (acv ?_);rw[(s)];refine c_ (i_ (adx ?_));exact c_ (aaC ⟨_,rl _ rfl,rfl⟩ ab4 (i_ (w _ (((E.trans z).extBut.push _).push _))))
def HK{j:Array (Int×B)}{R:(B×Nat)%1->ge->Prop}(r:Rd n f.heap e j b Β)(i:Ħ n=L)(k:R (((acJ (n.params.setOrder e b) j)[o]?).map λa=>(a.2,Δ)) f):xy (B_ p n) D (aek e Δ o b) R ν f:=by obtain⟨d,g,hex,h⟩:=r.o;refine c_ (Yc g h r.f ?_);refine c_ (c_ (Z0 (i_ ?_)));rw[if_pos (show(B_ p n).w.params.followText "set-order"=L from i),if_neg ∅];refine c_ (c_ (Yc g h r.f ?_));refine c_ (c_ (Z0 (i_ ?_)));rw[if_pos (show(B_ p n).w.params.followText "set-order"=L from i)];exact c_ (Z0 (i_ (i_ k)))
def HL{d:Array (Int×B)}{R:(B×Nat)%1->ge->Prop}(r:Rd n f.heap e d b Β)(g:Ħ n=h_)(u:d.size<=1)(q:R (match d[SetTable.below Β.place Δ]?,Β.place[SetTable.below Β.place Δ]? with|some (_,x),Z j=>Z (x,j+1)|_,_=>U) f):xy (B_ p n) D (aek e Δ o b) R ν f:=by
 obtain⟨a,h,hex,k⟩:=r.o;have i:Β.led=L:=by rw[r.l,g];rfl
 refine c_ (Yc h k r.f ?_);refine c_ (c_ (Z0 (i_ ?_)));rw[if_neg ((by rw[show(B_ p n).w.params.followText "set-order"=h_ from g];simp))];split
 ·rename_i m;have s:(!Β.plain&&decide _)=L:=m;lia
 ·refine c_ (Zs (a:=Unit.unit) ?_ (i_ q));show(if(!Β.led&&!d.isEmpty)=L then _ else pure Unit.unit)=pure Unit.unit;rw[i];rfl
def HM:Slot "set_iterator" "__iter__" "set_iterator.__iter__":=.of (n:="__iter__") (owner:="set_iterator") (by lk) (rfl) (rfl) (rfl) (by first|exact .inl (by decide+kernel)|exact .inr _) (by lk)
def OR:entryFor table "set_iterator.__iter__"=Z Zd.«dict_keyiterator.__iter__»:=entryFor_alias (id':="dict_keyiterator.__iter__") (by lk) (rfl) (by decide+kernel) (by lk)
def OS(a:B):argsOk "set_iterator.__iter__" ⟨[a],[]⟩:=by lk
def Bm{b:Array Q}(h:b.size=1):∃a,b=#[a]:=by obtain⟨l⟩:=b;match l,h with|[a],_=>exact⟨a,rfl⟩
def tQ(a:f.TypeIs (.ref e) "set_iterator")(h:Å (.ref e) f):xy (B_ p n) D (aeG (.ref e)) Å ν f:=by refine acl a HM (XN HM a OR ?_ (OS _));exact i_ ⟨_,rfl,_,_,a,Ć.lookup,h⟩
def tW(P:D.handled=U)(I S:O)(w:S≠I)(m:Array (Int×B))(j:Nat)(t:SetTable)(a:B%0)(q:Nat->Nat)(hl:a.length=m.size)(hN:∀(i:Nat)(v:B)(s:ge)(R:(B×Nat)%1->ge->Prop)(d:B->ge->Prop),Rd n s.heap S m j t->a[i]?=Z v->R (Z (v,q (i+1))) s->xy (B_ p n) D.in1 (aek S (q i) i j) R d s)(hE:∀(s:ge)(R:(B×Nat)%1->ge->Prop)(d:B->ge->Prop),Rd n s.heap S m j t->R U s->xy (B_ p n) D.in1 (aek S (q a.length) a.length j) R d s):Walks p n D I [I,S] [I] a.length (λi v=>a[i]?=Z v) (λi h=>h.get? I=Z (ŷ (Zm (q i)) i S m.size j)/\Rd n h S m j t)where
 sub:=λb f=>by simp at f;simp[f]
 frame:=λ_ _ _ st A=>⟨A I ∅ _ st.1,st.2.moved (A S ∅)⟩;item:=λi s Q E H st k=>by
  have z:a[i]?=Z a[i]:=by simp[H]
  exact Fa st.2 st.1 (λR d r=>hN i _ s R d st.2 z r) λu g b=>(k _ u s.toks z ⟨g,st.2.moved λo e=>b.extBut S o w e⟩ λb' o f e=>b.extBut b' o (λh=>f (by simp[h])) e)
 done:=λs Q E st k=>tN P st.2 st.1 (λR d r=>hE s R d st.2 r) λu y=>k u s.toks λb o f e=>y b o (λh=>f (by simp[h])) e;self:=λ_ _ _ _ st k=>tQ ⟨_,st.1,rfl⟩ k
def Bn(hh:D.handled=U)(I S T:O)(u:S≠I)(hT:T≠I)(r:Array (Int×B))(H:Nat)(t:SetTable)(d:Nat%0)(a:B%0)(P:a.length=d.length)(j:∀(i:Nat)(k:Nat)(v:B),d[i]?=Z k->a[i]?=Z v->∃A,r[k]?=Z (A,v)):Walks p n D I [I,S,T] [I] a.length (λi v=>a[i]?=Z v) (λi h=>h.get? I=Z (ŷ (.ref T) i S r.size H)/\Rd n h S r H t/\h.IsTuple T (d.map λ(i:Nat)=>Zm i).toArray)where
 sub:=λb f=>by simp at f;simp[f]
 frame:=λ_ _ _ st j=>⟨j I ∅ _ st.1,st.2.1.moved (j S ∅),st.2.2.at (j T ∅)⟩;item:=λi s Q E hi st m=>by
  have z:a[i]?=Z a[i]:=by simp[hi]
  have w:d[i]?=Z (d[i]'()):=by simp
  obtain⟨A,e0⟩:=j i _ _ w z;exact Fb st.2.1 st.1 st.2.2 (by simp[show i<d.length by lia]) e0 λq g b=>(m _ q s.toks z ⟨g,st.2.1.moved λo e=>b.extBut S o u e,st.2.2.extBut b.extBut hT⟩ λb' o f e=>b.extBut b' o (λh=>f (by simp[h])) e)
 done:=λs Q E st m=>tP hh st.2.1 st.1 st.2.2 (by simp[P]) λq y=>m q s.toks λb o f e=>y b o (λh=>f (by simp[h])) e;self:=λ_ _ _ _ st m=>tQ ⟨_,st.1,rfl⟩ m
structure Wk(prog:m_)(w:v_)(S I:O)(h:O_)(h':O_)(es:Array (Int×B))(vs:B%0)(fp:O%0)(St:Nat->O_->Prop):Prop where
 W:∀A:x_,A.handled=U->Walks prog w A I fp [I] vs.length (λi v=>vs[i]?=Z v) St
 st:St 0 h'
 pm:vs.Perm (es.toList.map (·.2))up:∀b o,h.get? b=Z o->h'.get? b=Z o
 nw:h.objs.size<=I
 fp:∀b∈fp,(b=S\/h.objs.size<=b)/\b<h'.objs.size
def Fc{s:Array (Int×B)}(r:Rd n f.heap e s b Β)(g':s.size<=60)(hQ:∀(I:O)(E:O_)(d:Drawn)(H:B%0)(fp:O%0)(St:Nat->O_->Prop),Wk p n e I f.heap E s H fp St->Å (.ref I) {f with heap:=E,drawn:=d}):xy (B_ p n) D (aeG (.ref e)) Å ν f:=by
 obtain⟨o,ho,hex,hd⟩:=id r.o;have hT:f.TypeIs (.ref e) "set":=⟨o,ho,hex.1⟩;have hS:=uk ho;have b':Β.place.size=s.size:=by have:=r.f;unfold afs at this;simp at this;exact this.1
 refine acl hT F.slot_set_iter (XN F.slot_set_iter hT TW ?_ (F.args_set_iter_1 _));refine c_ (Zs (by rfl) (c_ ?_));refine c_ (ZW ho hd r.f (i_ (c_ ?_)));refine c_ (Yc ho hd r.f ?_);refine c_ (c_ (Z0 (i_ (i_ ?_))));dsimp!;split
 · rename_i hc;refine c_ (Bl _ _ _ _ ∅ λks d hp=>?_);have z:ks.length<=sizeLine:=by
    have h1:=hp.length_eq;rw[aaq]at h1;have:sizeLine=16777216:=by decide
    lia
   refine c_ (Xz ?_ (by simpa[sizeOk]using z));refine c_ ?_;refine c_ (Yc (l_ _ ho) hd r.f (i_ (c_ (Xz (i_ ⟨_,rfl,"set_iterator",_,⟨_,rl _ rfl,rfl⟩,Ć.lookup,?_⟩)))));have f':∀k∈ks,k<s.size:=λk hk=>by simpa using hp.mem_iff.mp hk
   refine hQ _ _ d (ks.map λk=>(s.toList.map (·.2)).getD k .none) [(f.heap.push {cls:=.type "tuple",data:=.seq (ks.map λ(i:Nat)=>Zm i).toArray}).objs.size,e,f.heap.objs.size] _ ⟨λA' E=>Bn E _ e f.heap.objs.size (by rw[Xw];exact D_ (X7 hS)) (by rw[Xw];exact D_ (Y3 _)) s b Β ks _ ∅ (λi k v w e2=>?_),⟨rl _ rfl,r.moved (λo' g=>l_ _ (l_ _ g)),?_⟩,?_,λm o' g=>l_ _ (l_ _ g),by rw[Xw];exact aaz _,?_⟩;·have hk:=f' k (N_ w);simp[w]at e2;refine⟨s[k].1,?_⟩;rw[<-e2];simp[hk]
   ·exact⟨_,l_ _ (rl _ rfl),rfl,0,rfl⟩
   ·have g:(y_ s.size).map (λk=>(s.toList.map (·.2)).getD k .none)=s.toList.map _:=FD.range_getD _ _ _ ∅;exact(hp.map _).trans (by rw[g])
   · intro m u;rw[Xw,Xw];rw[Xw]at u;simp![p_,J_,or_false]at u;rcases u with u|u|u;·subst u;exact⟨.inr (aaz _),Y3 _⟩
     ·subst u;exact⟨.inl rfl,X7 (X7 hS)⟩
     ·subst u;exact⟨.inr (o_ _),X7 (Y3 _)⟩
 · rename_i hc;have A:¬((!Ħ n&&(!Β.plain&&decide _))=L):=hc;refine c_ (i_ (c_ (c_ (Yc ho hd r.f (i_ (c_ (Xz (i_ ⟨_,rfl,_,_,⟨_,rl _ rfl,rfl⟩,Ć.lookup,?_⟩))))))));have d':∀(H:B%0)(sl:Nat->Nat),sl 0=0->H.Perm (s.toList.map (·.2))->(∀D:x_,D.handled=U->Walks p n D f.heap.objs.size [f.heap.objs.size,e] [f.heap.objs.size] H.length (λi v=>H[i]?=Z v) (λi h=>h.get? f.heap.objs.size=Z (ŷ (Zm (sl i)) i e s.size b)/\Rd n h e s b Β))->Å (.ref f.heap.objs.size) {f with heap:=f.heap.push (ŷ (Zm 0) 0 e s.size b)}:=by
    intro H sl h0 hp hW;refine hQ _ _ f.drawn H _ _ ⟨hW,⟨by rw[h0];exact rl _ rfl,r.moved (λo' g=>l_ _ g)⟩,hp,λm o' g=>l_ _ g,o_ _,λm u=>?_⟩;rw[Xw];simp![p_,J_,or_false]at u;rcases u with u|u;·subst u;exact⟨.inr (o_ _),Y3 _⟩
    ·subst u;exact⟨.inl rfl,X7 hS⟩
   by_cases u:Ħ n=L
   · have c':(acJ (n.params.setOrder e b) s).toList.Perm s.toList:=by have:=tM (n.params.setOrder e b) s.size 0 s.toList #[] ∅;simpa[acJ]using this
     have e':(acJ (n.params.setOrder e b) s).size=s.size:=by simpa using c'.length_eq
     refine d' _ (λ_=>0) rfl (c'.map _) λA' E=>tW E _ e (D_ hS) s b Β _ _ (by simp[e']) (λi v s1 R E' P w y=>HK P u ?_) (λs1 R E' P y=>HK P u ?_);·simp at w;obtain⟨a,w⟩:=w;rw[w];exact y
     ·rw[show(acJ _ s)[(List.map _ (acJ _ s).toList).length]?=U by simp];exact y
   · have a':Ħ n=h_:=by simpa using u
     have Q:s.size<=1:=by
      rw[a']at A;by_cases z:s.size=0;·lia
      ·rw[r.p z]at A;simp at A;exact A
     refine d' _ (λi=>if i=0 then 0 else Β.place.getD 0 0+1) rfl (.refl _) λA' E=>tW E _ e (D_ hS) s b Β _ _ ∅ (λi v s1 R E' P w y=>HL P a' Q ?_) (λs1 R E' P y=>HL P a' Q ?_)
     · have hi:i=0:=by have:=u_.mp w;obtain⟨q,_⟩:=this;simp at q;lia
       subst hi;obtain⟨a,ea⟩:∃a,s=#[a]:=by obtain⟨l⟩:=s;have:=(u_.mp w).1;match l,this,Q with|[a],_,_=>exact⟨a,rfl⟩|_::_::_,_,h=>simp at h
       subst ea;obtain⟨j,ej⟩:∃j,Β.place=#[j]:=Bm b';simp at w;subst w;rw[ej]at y⊢;simpa[below,aet]using y
     · by_cases z:s.size=0;·have e0:=Array.eq_empty_of_size_eq_zero z;subst e0;simpa using y
       ·obtain⟨a,ea⟩:=Bm (b:=s) ();subst ea;obtain⟨j,ej⟩:∃j,Β.place=#[j]:=Bm b';rw[ej];simpa[below,aet]using y
def vz{es:Array (Int×B)}{Q:B%0->ge->Prop}(hh:D.handled=U)(r:Rd n f.heap e es b Β)(f':es.size<=60)(hQ:∀(m:O_)(d:Drawn)(tk:Nat)(s:B%0),s.Perm (es.toList.map (·.2))->f.heap.objs.size<m.objs.size->(∀g o,f.heap.get? g=Z o->m.get? g=Z o)->Q s {f with heap:=m,drawn:=d,toks:=tk}):xy (B_ p n) D (collect (.ref e)) Q ν f:=by
 obtain⟨o,ho,hex,hd⟩:=id r.o;have hS:e<f.heap.objs.size:=uk ho;unfold collect;refine c_ (wpAny_runValue (ZG F.entry_proto_collect ?_));rw[aay F.plain_proto_collect _];show xy _ D.in1 (newList []>>=λl=>again (.builtin "list.__iadd__" ⟨[l,.ref e],[]⟩)) _ _ f;refine c_ (Xz ?_);refine i_ ⟨acy F.plain_list_iadd _,ZG F.entry_list_iadd ?_⟩;rw[aay F.plain_list_iadd _];show xy _ D.in1 (abX (.ref f.heap.objs.size) (.ref e) (.ref f.heap.objs.size)) _ _ _;unfold abX;generalize hH:f.heap.push {cls:=.type "list",data:=.seq ([]:B%0).toArray}=H;have e':H.objs.size=f.heap.objs.size+1:=by rw[<-hH,Xw]
 have q:∀g k,f.heap.get? g=Z k->H.get? g=Z k:=λg k a=>hH▸l_ _ a;have hL:H.get? f.heap.objs.size=Z {cls:=.type "list",data:=.seq ([]:B%0).toArray}:=hH▸rl _ rfl;have ty:acz {f with heap:=H} (.ref e) "set":=⟨o,q _ _ ho,hex.1⟩;refine c_ (Z_ (T:="set") ty ?_);have h1:acD (.ref f.heap.objs.size) (.ref e)=h_:=by simp[acD];exact(D_ hS).symm
 have h2:(t_ "set"==t_ "list")=h_:=by decide
 have h3:(t_ "set"==t_ "tuple")=h_:=by decide
 simp![h1,h2,h3,acG,YB,if_false];refine c_ (Fc (f:={f with heap:=H}) (r.moved λo a=>q _ _ a) f' λI m d s fp St K=>?_);have v:acz {f with heap:=m,drawn:=d} (.ref e) "set":=⟨o,K.up _ _ (q _ _ ho),hex.1⟩;refine c_ (XY ?_);unfold Builtin.List.listLengthHint;refine c_ (wpAny_specialOf v F.slot_set_len.lookup ?_);wp_delta;refine c_ (aaC (T:="set") (b:=L) v (by rw[isSubtype_type];lk) ?_);show xy _ D.in1 (aeF (U_ e)>>=_) _ _ _;refine c_ (Z_ (T:="set") v ?_);refine i_ ?_;show xy _ D.in1 (rule "list.extend.makes-room">>=λ_=>Builtin.List.listTouch (.ref f.heap.objs.size)>>=λ_=>again (.builtin "list.extend.loop" ⟨[.ref f.heap.objs.size,.ref I,.ref f.heap.objs.size],[]⟩)) _ _ _;refine c_ (Zw ?_);have a':m.get? f.heap.objs.size=Z {cls:=.type "list",data:=.seq ([]:B%0).toArray}:=K.up _ _ hL;refine c_ ?_;show xy _ D.in1 (updateSeq f.heap.objs.size (·.push .none)>>=λ_=>updateSeq f.heap.objs.size (·.pop)) _ _ _;refine c_ (wpAny_updateSeq a' rfl ?_);have P:=YG (XX (·.push M_)) a' rfl;refine wpAny_updateSeq P rfl ?_;have n':=YG (XX (·.pop)) P rfl;have A:∀g k,g≠f.heap.objs.size->m.get? g=Z k->((m.update f.heap.objs.size (XX (·.push M_))).update f.heap.objs.size (XX (·.pop))).get? g=Z k:=λg k z a=>(Zr _ _ (YH z)).trans ((Zr _ _ (YH z)).trans a);have E:f.heap.objs.size∉fp:=λy=>by
  rcases(K.fp _ y).1 with a|a;·exact absurd a (D_ hS).symm
  ·rw[e']at a;exact absurd a (Nat.not_le.mpr (Y3 _))
 have W:=K.W D.in1 hh;have m':s.length<=sizeLine:=by
  have h1:=K.pm.length_eq;simp at h1;have:sizeLine=16777216:=by decide
  lia
 refine i_ ⟨acy F.plain_extend_loop _,codeAny_extend_loopS W.toS m' _ E _ s.length 0 _ _ _ rfl (XG _) (W.frame 0 m _ K.st λg z k a=>A g k (λh=>E (h▸z)) a) n' (ItemsOf.nil _) λs' j c' y b' u=>?_⟩;show xy _ D (load f.heap.objs.size>>=_) _ _ s';refine c_ (wpAny_load b' ?_);have i':j.toList=s:=by
  apply acW;·simpa using u.1
  ·intro i h1 h2;have:s[i]?=Z j[i]:=u.2 i j[i] ∅;rw[r_ h2]at this;simpa using this.symm
 show xy _ D (pure j.toList) _ _ s';rw[i'];obtain⟨o',g',d',k',l'⟩:=s';have eg:g'=f.gens:=y.gens;have ed:d'=d:=y.drawn;have eo:l'=f.os:=y.os;subst eg;subst ed;subst eo;refine i_ (hQ o' d' k' s K.pm (uk b') λg k a=>y.heap g k (λz=>?_) (A g k (D_ (uk a)) (K.up _ _ (q _ _ a))));have w:=uk a;rcases p_.mp z with h|h;·exact absurd w (h▸Yx _)
 ·rw[S_.mp h]at w;have:=K.nw;rw[e']at this;exact absurd (abZ w this) (Yx _)
def SetS.rd(x:SetS p n I e E):∃b d t,Rd n I e b d t/\b.size<=60/\(∀a∈b.toList,∃x t,a.2=.str x t)/\(b.toList.map λa=>aeY a.2).Perm E:=by obtain⟨o,b,d,t,i,hex,m,k,r,j,h,q,g,f⟩:=x;refine⟨b,d,t,⟨⟨o,i,hex,m⟩,k,j,h⟩,?_,g,f⟩;have:=f.length_eq;simp at this;lia
def Bo:∀{a:B%0},(∀v∈a,∃x t,v=.str x t)->ae9 a (a.map aeY)|[],_=>.nil|v::a,h=>by obtain⟨x,t,rfl⟩:=h v on;exact .cons x t (Bo λv b=>h v (pi _ b))
def sorted_set(hh:D.handled=U)(x:SetS p n f.heap e E)(h:∀(l:O)(y:O_)(d:Drawn)(s:Nat)(m:B%0)(a:Nat),ae9 m (FD.isortB FD.leS E)->y.get? l=Z (Yi "list" m.toArray a)->f.heap.objs.size<=l->(∀b o,f.heap.get? b=Z o->y.get? b=Z o)->Å (.ref l) {f with heap:=y,drawn:=d,toks:=s}):xy (B_ p n) D (call (.builtin "sorted") [.ref e]) Å ν f:=by
 obtain⟨es,ep,t,r,b',hs,hm⟩:=x.rd;refine acj aeZ aez aeA (args_sorted1 _) ?_;unfold Zd.«sorted»;refine c_ (m:=checkCount "sorted" 1 1 _) (i_ ?_);refine c_ (vz hh r b' λh1 d s k u a' up=>?_);have H:∀v∈k,∃x t,v=Zh x t:=λv hv=>by obtain⟨a,w,rfl⟩:=L_.mp (u.mem_iff.mp hv);exact hs a w
 have hS:=Bo H;have g:k.length<64:=by have:=u.length_eq;simp at this;lia
 have P:(k.map aeY).Perm E:=by have:=u.map aeY;rw[XS]at this;exact this.trans hm
 refine c_ (aby ?_ (FD.line64 g));have i:(h1.push (Yi "list" k.toArray 0)).get? h1.objs.size=Z (Yi "list" k.toArray 0):=rl _ rfl;refine c_ (XY (XN adF ⟨_,i,rfl⟩ adj (list_sort_treeK strKind_oneLt i hS.keysOf (λe' d' rest a=>keyKind_strs (by rw[<-a];exact hS)) g λz Q I=>⟨_,rfl,?_⟩) (args_list_sort _)));obtain⟨A,a1,a2,a3⟩:=sorted_out_str hS Q I;have c':A=FD.isortB FD.leS E:=FD.sorted_uniq FD.ordS ((a2.trans P).trans (FD.isortB_perm FD.leS E).symm) (FD.sortedS_pw _ a3) (FD.isortB_sorted FD.ordS E);subst c';obtain⟨a,w⟩:=sortedHeap_at (out:=(ţ z).map (·.2)) i;refine i_ ⟨_,rfl,h _ _ d s _ a a1 (by rw[Array.toArray_toList];exact w) (aaJ a') λb ob q=>?_⟩;·have q1:=up _ _ q;have j:=uk q1;rw[sortedHeap_old (D_ j) (by rw[Xw];exact X7 j),Y8 _ _ _ (D_ j)];exact q1
end ST
namespace FD
open L2
def qX:Þ
 |[.lst b]=>match cw b with|some a=>if a.length<=59 then .lst ((isortB leS (ST.ddk a)).map W.str)%3 else U|none=>U
 |_=>U
def Bp(I:N a δ É g f)(d:Drawn):N a δ É g {f with drawn:=d}:=⟨I.ok,I.os,I.bare,I.base,I.loc,I.cell,I.free,I.freeC,I.pin,I.hok,I.len⟩
def xh:∀{a:B%0}{d:Str%0},ae9 a d->a.length=d.length/\∀(i:Nat)(v:B),a[i]?=Z v->∃b,v=Zh (d.getD i "") b|_,_,.nil=>⟨rfl,λi v h=>by simp at h⟩|_,_,.cons x t h=>by obtain⟨g,f⟩:=xh h;refine⟨by simp[g],λi v e=>?_⟩;cases i with|zero=>simp at e;exact⟨t,by simp[<-e]⟩|succ i=>obtain⟨b,q⟩:=f i v (by simpa using e);exact⟨b,by simpa using q⟩
def yC{e:Pos}(hc:a.calm=L)(hg:Gl a "sorted")(hm:a.mg "sorted"=U)(i':Gl a "set")(e':a.mg "set"=U)(ha:FA a [h] μ)(he:k_ [.Call (.Name "set" w) [h] [] e] a.env=(h_,eval (.Call (.Name "set" w) [h] [] e) a.env)::k_ [] a.env:=by lk)(d':(Xv Λ (k_ [] a.env)).any (·.1)=h_:=by lk)(k':k_ [h] a.env=(h_,eval h a.env)::k_ [] a.env:=by lk)(a':(Xv e (k_ [] a.env)).any (·.1)=h_:=by lk):FE a (.Call (.Name "sorted" k) [.Call (.Name "set" w) [h] [] e] [] Λ) (ì qX μ):=⟨λf' s σ H Q I⟨ρ,E,o⟩=>by
 refine YI (jf I hg hm (ω:=.builtin "sorted") (by decide+kernel) (Z4 ?_ he d') #v[] #v[]);show xy _ _ (spliced ((h_,eval _ a.env)::Xv Λ _)) _ _ s;refine ZA (YI (jf I i' e' (ω:=.type "set") (by decide+kernel) (Yn (í (ha.h e f' s σ H _ I ⟨ρ,E,ô.bind o λds vs H1 e1 rs f=>(show∃ds,S a.K H1 ds vs/\õ a H1 _ Q from⟨ds,rs,f⟩)⟩) λus m⟨vs,H1,y,r1,ds,rs,f⟩=>?_) k' a') #v[] #v[]));have l':∀(g:Str%0)(p:O_)(tk:Nat),g.length<=59->õ a H1 (.lst ((isortB leS (ST.ddk g)).map W.str)%3) Q->ST.SetS a.prog a.w p m.heap.objs.size (ST.ddk g)->(∀b o,b<m.heap.objs.size->m.heap.get? b=Z o->p.get? b=Z o)->xy (B_ a.prog a.w) a.A (call (.builtin "sorted") [.ref m.heap.objs.size]) (EP a f' σ Q) a.xe {m with heap:=p,toks:=tk}:=by
  intro g p tk hk f hS j;refine ST.sorted_set (y.ok.hd hc) hS λl h2 d m' b' e0 a1 a2 a3 a4=>?_;have P:m.heap.objs.size<=l:=by obtain⟨_,_,_,_,q,_⟩:=hS;exact aaJ (Q_ (uk q) a3)
  refine⟨.ref l,_,Bp (y.laid (λb ob q=>a4 _ _ (j b ob (uk q) q)) P ?_) d,rfl,f _ _ (aG (y.hok.fresh P) _) ⟨l,_,rfl,ao,pV _ _⟩⟩;exact⟨line64 (by rw[T_,(isortB_perm leS _).length_eq];have:=ST.ddk_le g;lia),b',e0,pU a1,by simpa[Yi]using a2⟩
 unfold qX at f;split at f
 · obtain⟨v,rfl,r⟩:=dL rs;obtain⟨l,xs,rfl,hl,rx⟩:=r.lstE;obtain⟨u,rfl,ru⟩:=gK r1;cases((ru));split at f
   · rename_i g g';split at f
     · rename_i D;obtain⟨z,c',n,rv,hz,eh⟩:=y.lstM hl;obtain⟨q1,q2⟩:=xh (w9 g' rx rv);have A:c'.toArray.size=g.length:=by simp[q1]
       refine ST.call_set_G (y.ok.hd hc) ⟨_,eh,rfl,n,rfl⟩ (ST.fl_S (λi v hi=>q2 i v (by simpa using hi)) (by rw[A];exact D)) λp tk hS j=>(aao ?_);rw[range_getD g "" _ A]at hS;exact l' g p tk D f hS j
     ·exact f.elim
   ·exact f.elim
 ·exact f.elim⟩
end FD
namespace TS
def ĭ{b:Type}(M:Z2)(A:x_)(E:B->ge->Prop)(J:ge->Prop)(m:StateT Q Sem b)(a:b->Q->Prop)(d:Q):Prop:=∀s,J s->xy M A (m.run d) (λr e=>J e/\a r.1 r.2) E s
variable{Ó:ge->Prop}
def cF{d:Type}{a:d}{b:d->Q->Prop}(h:b a Ò):ĭ Ì D ν Ó (pure a:StateT Q Sem d) b Ò:=λs e=>by exact i_ ⟨e,h⟩
def bD{i g:Type}{m:StateT Q Sem i}{f:i->StateT Q Sem g}{b:g->Q->Prop}(h:ĭ Ì D ν Ó m (λa d=>ĭ Ì D ν Ó (f a) b d) Ò):ĭ Ì D ν Ó (m>>=f) b Ò:=λs n=>by exact c_ (X8 (h s n) (λr k j=>j.2 k j.1) λ_ _ e=>e)
def tX{f:Type}{m:StateT Q Sem f}{b i:f->Q->Prop}(h:ĭ Ì D ν Ó m b Ò)(k:∀a d,b a d->i a d):ĭ Ì D ν Ó m i Ò:=λs j=>X8 (h s j) (λr _ g=>⟨g.1,k _ _ g.2⟩) λ_ _ e=>e
def yD{a:Q->Q->Prop}(h:a Ò Ò):ĭ Ì D ν Ó (get:StateT Q Sem Q) a Ò:=λs b=>by exact i_ ⟨b,h⟩
def mU{f:Q->Q}{a:PUnit->Q->Prop}(h:a ⟨⟩ (f Ò)):ĭ Ì D ν Ó (modify f:StateT Q Sem PUnit) a Ò:=λs b=>by exact i_ ⟨b,h⟩
def Bq{d:Type}{m:Sem d}{b:d->Q->Prop}(h:∀s,Ó s->xy Ì D m (λa f=>Ó f/\b a Ò) ν s):ĭ Ì D ν Ó (liftM m:StateT Q Sem d) b Ò:=λs g=>by show xy Ì D ((StateT.lift m).run Ò) _ ν s;exact c_ (X8 (h s g) (λa f i=>i_ i) λ_ _ e=>e)
def OT{M:Z2}{A:x_}{E:B->ge->Prop}{J:ge->Prop}{o k:Type}(f:Nat->k->StateT o Sem (ForInStep k))(I:Nat->k->o->Prop)(Q:k->o->Prop)(b:Nat)(g:∀i c st,i<b->I i c st->ĭ M A E J (f i c) (λr d=>match r with|.done j=>Q j d|.yield j=>I (i+1) j d) st)(m:∀c st,I b c st->Q c st):∀(n a:Nat)(c:k)(st:o),a+n=b->I a c st->ĭ M A E J (afq (List.range' a n 1) c f) Q st
 |0,a,c,st,e,h=>by
  have:a=b:=by lia
  subst this;exact cF (m c st h)|n+1,a,c,st,e,h=>by rw[List.range'_succ,ae4];refine bD (tX (g a c st () h) λr d p=>?_);cases r with|done j=>exact cF p|yield j=>exact OT f I Q b g m n _ j d () p
def lP{e:Type}{f:Nat->e->StateT Q Sem (ForInStep e)}(I:Nat->e->Q->Prop){a:e->Q->Prop}(p:b<=o)(j:∀i c d,i<o->I i c d->ĭ Ì D ν Ó (f i c) (λr g=>match r with|.done k=>a k g|.yield k=>I (i+1) k g) d)(n:∀c d,I o c d->a c d){c:e}{d:Q}(h:I b c d):ĭ Ì D ν Ó (afq [b:o] c f) a d:=by
 rw[Std.Legacy.Range.forIn_eq_forIn_range'];have m:([b:o]).size=o-b:=by simp
 rw[m];exact OT f I a o j n _ b c d () h
structure Od(blt:Nat->Nat->Bool):Prop where
 ir:∀a,blt a a=h_
 tr:∀a b c,blt a b=L->blt b c=L->blt a c=L
 nt:∀a b c,blt a c=L->blt a b=L\/blt b c=L
def Ĵ(d:Nat->Nat->Bool)(a b:Nat):Prop:=d a b=L\/(d b a=h_/\a<b)
variable{Ε:Nat->Nat->Bool}
def Od.le(O:Od Ε){a b c:Nat}(e:Ε b a=h_)(d:Ε c b=h_):Ε c a=h_:=by cases h:Ε c a with|false=>rfl|true=>
 rcases O.nt _ b _ h with q|q;·rw[q]at d;cases d
 ·rw[q]at e;cases e
def Od.lt_le(O:Od Ε){a b c:Nat}(e:Ε a b=L)(d:Ε c b=h_):Ε a c=L:=by
 rcases O.nt _ c _ e with q|q;·exact q
 ·rw[q]at d;cases d
def Od.le_lt(O:Od Ε){a b c:Nat}(d:Ε b a=h_)(e:Ε b c=L):Ε a c=L:=by
 rcases O.nt _ a _ e with q|q;·rw[q]at d;cases d
 ·exact q
def Od.as(O:Od Ε){a b:Nat}(h:Ε a b=L):Ε b a=h_:=by cases d:Ε b a with|false=>rfl|true=>have:=O.tr _ _ _ h d;rw[O.ir]at this;cases this
def Ĵ.tr(O:Od Ε){a b c:Nat}(e:Ĵ Ε a b)(d:Ĵ Ε b c):Ĵ Ε a c:=by
 rcases e with e|⟨e,f⟩
 · rcases d with d|⟨d,i2⟩;·exact .inl (O.tr _ _ _ e d)
   ·exact .inl (O.lt_le e d)
 · rcases d with d|⟨d,i2⟩;·exact .inl (O.le_lt e d)
   ·exact .inr ⟨O.le e d,by lia⟩
def Ĵ.of_le(h:Ε o b=h_)(i:b<o):Ĵ Ε b o:=.inr ⟨h,i⟩
structure SB(a₀:Array ľ)(kd:ZM)(p:Nat->Nat)(st:ZB):Prop where
 sz:(ţ st).size=a₀.size
 at':∀k,k<a₀.size->(ţ st)[k]?=a₀[p k]?lt:∀k,k<a₀.size->p k<a₀.size
 inj:∀a b,a<a₀.size->b<a₀.size->p a=p b->a=b
 kind:kindOf st=kd
 failed:adG st=U
 pend:adU st=#[]
def ĥ(p:Nat->Nat)(i j k:Nat):Nat:=if i<=k/\k<j then p (i+j-1-k)else p k
def Ť(p:Nat->Nat)(a b k:Nat):Nat:=if k=b then p a else if b<k/\k<=a then p (k-1)else p k
variable{Ν:Nat->Nat}
def SB.mirror{d:Array ľ}{h:ZM}{f:ZB}(B:SB d h Ν f){i j:Nat}(o:j<=d.size):SB d h (ĥ Ν i j) (setArr f (mirror (ţ f) i j ((j-i)/2)))where
 sz:=(mirror_size _ _ _ _).trans B.sz;at':=λk g=>by
  rw[getElem?_mirror_all (by rw[B.sz];exact o)];unfold ĥ;split;·exact B.at' _ ()
  ·exact B.at' _ g
 lt:=λk g=>by
  unfold ĥ;split;·exact B.lt _ ()
  ·exact B.lt _ g
 inj:=λa b n m e=>by
  unfold ĥ at e;split at e<;>split at e;·have:=B.inj _ _ () () e;lia
  ·have:=B.inj _ _ () m e;lia
  ·have:=B.inj _ _ n () e;lia
  ·exact B.inj _ _ n m e
 kind:=B.kind;failed:=B.failed;pend:=B.pend
def SB.bubble{g:Array ľ}{m:ZM}{h:ZB}(B:SB g m Ν h){d f:Nat}(i:d<g.size)(n:f<=d):SB g m (Ť Ν d f) (setArr h (bubble (ţ h) d (d-f)))where
 sz:=(bubble_size _ _ _).trans B.sz;at':=λk j=>by
  rw[getElem?_bubble (by rw[B.sz];exact i) _ (),show d-(d-f)=f by lia];unfold Ť;split;·exact B.at' _ i
  · split;·exact B.at' _ ()
    ·exact B.at' _ j
 lt:=λk j=>by
  unfold Ť;split;·exact B.lt _ i
  · split;·exact B.lt _ ()
    ·exact B.lt _ j
 inj:=λa b p o e=>by
  unfold Ť at e;repeat' split at e
  all_goals first|lia|(have:=B.inj _ _ () () e;lia)
 kind:=B.kind;failed:=B.failed;pend:=B.pend
def Cm(M:Z2)(A:x_)(J:ge->Prop)(a:Array ľ)(f:ZM)(d:Nat->Nat->Bool):Prop:=∀(i j:Nat)(x y:ľ)(s:ge)(g:B->ge->Prop),a[i]?=Z x->a[j]?=Z y->J s->xy M A (keyLt' f x.1 y.1) (λb e=>J e/\b=d i j) g s
def OW{f:Array ľ}{k:ZM}{g:ZB}{Q:Bool%1->ZB->Prop}(C:Cm Ì D Ó f k Ε)(a:SB f k Ν g)(j:b<f.size)(i:o<f.size)(h:Q (Z (Ε (Ν b) (Ν o))) g):ĭ Ì D ν Ó (ltAt' b o) Q g:=by
 have r:(ţ g)[b]?=Z (f[Ν b]'(a.lt b j)):=by rw[a.at' b j];simp[a.lt b j]
 have q:(ţ g)[o]?=Z (f[Ν o]'(a.lt o i)):=by rw[a.at' o i];simp[a.lt o i]
 rw[ltAt'_eq];refine bD (yD ?_);show ĭ Ì D ν Ó (do let x<-elem' _ b;let y<-elem' _ o;lt' x y) Q g;rw[elem'_eq,elem'_eq,r,q];refine bD (cF (bD (cF ?_)));rw[lt'_eq];refine bD (yD ?_);rw[a.kind];refine bD (Bq λs m=>YZ (X8 (C (Ν b) (Ν o) _ _ s _ ∅ ∅ m) (λd u p=>?_) λ_ _ e=>e));obtain⟨n,rfl⟩:=p;exact⟨n,cF h⟩
def Fd{a:ZB}{Q:Unit->ZB->Prop}(h:Q Unit.unit (setArr a (mirror (ţ a) b o ((o-b)/2)))):ĭ Ì D ν Ó (reverseSlice' b o) Q a:=by exact mU h
structure Up(blt:Nat->Nat->Bool)(p:Nat->Nat)(n N:Nat):Prop where
 so:∀a b,a<b->b<n->Ĵ blt (p a) (p b)lo:∀a,a<n->p a<n
 re:∀a,n<=a->a<N->p a=a
def Up.next(O:Od Ε){n N:Nat}(d:Up Ε Ν n N)(q:1<=n)(m:n<N)(h:Ε (Ν n) (Ν (n-1))=h_):Up Ε Ν (n+1) N where
 so:=λa b k p=>by
  by_cases g:b<n;·exact d.so a b k g
  · have i:b=n:=by lia
    subst i;have e:Ĵ Ε _ _:=.of_le h (by rw[d.re b (o_ _) m];exact d.lo _ ());by_cases f:a=b-1;·subst f;exact e
    ·exact(d.so a _ () ()).tr O e
 lo:=λa f=>by
  by_cases j:a<n;·have:=d.lo a j;lia
  · have:a=n:=by lia
    subst this;rw[d.re a (o_ _) m];lia
 re:=λa f o=>d.re a () o
def OX{e:Array ľ}{m:ZM}{i:ZB}{Q:AscSt->ZB->Prop}(O:Od Ε)(C:Cm Ì D Ó e m Ε)(d:SB e m Ν i)(s:1<=b)(k:b<=o)(r:o<=e.size)(a:Up Ε Ν b e.size)(h:∀n,b<=n->n<=o->Up Ε Ν n e.size->(n=o\/Ε (Ν n) (Ν (n-1))=L)->Q (U,n) i):ĭ Ì D ν Ó (ascLoop b o) Q i:=by
 refine lP (I:=λx c f=>f=i/\c=(U,x)/\b<=x/\Up Ε Ν x e.size) k ?_ ?_ ⟨rfl,rfl,o_ _,a⟩;·rintro x c f q⟨rfl,rfl,g,j⟩;dsimp!;refine bD (OW C d () () ?_);cases p:Ε _ _ with|true=>exact cF (h x g () j (.inr p))|false=>exact cF ⟨rfl,rfl,by lia,j.next O () () p⟩
 ·rintro c f⟨rfl,rfl,g,j⟩;exact h o g (o_ _) j (.inl rfl)
structure Dn(blt:Nat->Nat->Bool)(p:Nat->Nat)(n N:Nat):Prop where
 so:∀a b,a<b->b<n->Ĵ blt (p b) (p a)lo:∀a,a<n->p a<n
 re:∀a,n<=a->a<N->p a=a
structure Dq(blt:Nat->Nat->Bool)(p:Nat->Nat)(c n N:Nat):Prop where
 cn:c<n
 d1:∀a b,a<b->b<c->Ĵ blt (p b) (p a)d2:∀a b,a<c->c<=b->b<n->blt (p b) (p a)=L
 d3:∀a b,c<=a->a<b->b<n->blt (p a) (p b)=h_/\blt (p b) (p a)=h_/\p a<p b
 lo:∀a,a<n->p a<n
 re:∀a,n<=a->a<N->p a=a
def Dq.turn(D:Dq Ε Ν b o Δ):Dn Ε (ĥ Ν b o) o Δ where
 so:=λa d h i=>by
  unfold ĥ;by_cases f:b<=d
  · rw[if_pos ⟨f,i⟩];by_cases g:b<=a;·rw[if_pos ⟨g,by lia⟩];have:=D.d3 (b+o-1-d) (b+o-1-a) () () ();exact .inr ⟨this.2.1,this.2.2⟩
    ·rw[if_neg ()];exact .inl (D.d2 a _ () () ())
  ·rw[if_neg (),if_neg ()];exact D.d1 a d h ()
 lo:=λa e=>by
  unfold ĥ;split;·exact D.lo _ ()
  ·exact D.lo _ e
 re:=λa e j=>by unfold ĥ;rw[if_neg ()];exact D.re a e j
def Dq.one(D:Dq Ε Ν (b-1) b o):Dn Ε Ν b o where
 so:=λa d f g=>by
  by_cases e:d<b-1;·exact D.d1 a d f e
  ·exact .inl (D.d2 a d () () g)
 lo:=D.lo;re:=D.re
def Dn.turn(D:Dn Ε Ν b o):Up Ε (ĥ Ν 0 b) b o where
 so:=λa d h f=>by unfold ĥ;rw[if_pos ⟨XG _,by lia⟩,if_pos ⟨XG _,f⟩];exact D.so _ _ () ()
 lo:=λa e=>by unfold ĥ;rw[if_pos ⟨XG _,e⟩];exact D.lo _ ()
 re:=λa e g=>by unfold ĥ;rw[if_neg ()];exact D.re a e g
def Dn.next(O:Od Ε){n N:Nat}(D:Dn Ε Ν n N)(o:1<=n)(g:n<N)(h:Ε (Ν n) (Ν (n-1))=L):Dq Ε Ν n (n+1) N where
 cn:=by lia
 d1:=D.so;d2:=λa b d i k=>by
  have:b=n:=by lia
  subst this;by_cases e:a=b-1;·subst e;exact h
  · rcases D.so a (b-1) () ()with q|⟨q,_⟩;·exact O.tr _ _ _ h q
    ·exact O.lt_le h q
 d3:=λa b d m i=>by lia
 lo:=λa d=>by
  by_cases f:a<n;·have:=D.lo a f;lia
  · have:a=n:=by lia
    subst this;rw[D.re a (o_ _) g];lia
 re:=λa d j=>D.re a () j
def Dq.next(O:Od Ε){c n N:Nat}(D:Dq Ε Ν c n N)(k:n<N)(o:Ε (Ν n) (Ν (n-1))=h_)(h:Ε (Ν (n-1)) (Ν n)=h_):Dq Ε Ν c (n+1) N where
 cn:=by have:=D.cn;lia
 d1:=D.d1;d2:=λa b d m s=>by
  by_cases f:b<n;·exact D.d2 a b d m f
  · have:b=n:=by lia
    subst this;exact O.le_lt h (D.d2 a _ d (by have:=D.cn;lia) ())
 d3:=λa b d j m=>by
  by_cases f:b<n;·exact D.d3 a b d j f
  · have:b=n:=by lia
    subst this;have g:Ν a<Ν b:=by have:=D.lo a ();rw[D.re b (o_ _) k];exact this
    by_cases e:a=b-1;·subst e;exact⟨h,o,g⟩
    ·obtain⟨q,p,_⟩:=D.d3 a (b-1) d () ();exact⟨O.le h q,O.le p o,g⟩
 lo:=λa d=>by
  by_cases i:a<n;·have:=D.lo a i;lia
  · have:a=n:=by lia
    subst this;rw[D.re a (o_ _) k];lia
 re:=λa d r=>D.re a () r
def Br{f:Array ľ}{i:ZM}{n:ZB}{Q:Nat%1->ZB->Prop}(O:Od Ε)(C:Cm Ì D Ó f i Ε)(e:SB f i Ν n)(s:1<=b)(j:b<=o)(r:o<=f.size)(d:Dn Ε Ν b f.size)(h:∀m p g,SB f i p g->1<=m->m<=o->Up Ε p m f.size->Q (Z m) g):ĭ Ì D ν Ó (tail3 b o) Q n:=by refine bD (Fd ?_);have q:=e.mirror (i:=0) (j:=b) ();exact bD (OX O C q s j r d.turn λm u k a _=>cF (h m _ _ q () k a))
def OY{g:Array ľ}{r:ZM}{w:ZB}{Q:DescSt->ZB->Prop}(O:Od Ε)(C:Cm Ì D Ó g r Ε)(d:SB g r Ν w)(P:2<=b)(v:b<=o)(H:o<=g.size)(a:Dq Ε Ν (b-1) b g.size)(h:∀m f j i,SB g r j i->b<=m->m<=o->f+1<=m->Dq Ε j (m-(f+1)) m g.size->Q (U,m,f) i):ĭ Ì D ν Ó (descLoop b o) Q w:=by
 refine lP (I:=λx c i=>∃f j,c=(U,x,f)/\SB g r j i/\b<=x/\f+1<=x/\Dq Ε j (x-(f+1)) x g.size) v ?_ ?_ ⟨0,Ν,rfl,d,o_ _,by lia,a⟩;·rintro x c i E⟨f,j,rfl,n,p,u,k⟩;dsimp!;refine bD (OW C n () () ?_);cases s:Ε _ _ with
 |true=>
 simp![if_true];by_cases q:f>0
 · rw[if_pos q];refine bD (Fd (cF ?_));refine⟨0,_,rfl,(n.mirror ()),by lia,by lia,?_⟩;have I:=k.cn;refine k.turn.next O () () ?_;have A:ĥ j (x-(f+1)) x x=j x:=by unfold ĥ;rw[if_neg ()]
   have z:ĥ j (x-(f+1)) x (x-1)=j (x-(f+1)):=by unfold ĥ;rw[if_pos ()];congr 1;lia
   rw[A,z];by_cases e:x-(f+1)=x-1;·rw[e];exact s
   ·exact O.lt_le s (k.d3 _ _ (o_ _) () ()).1
 · have e:f=0:=by lia
   subst e;exact cF ⟨0,j,rfl,n,by lia,by lia,k.one.next O () () s⟩            |false=>refine bD (OW C n () () ?_);cases y:Ε _ _ with|true=>exact cF (h x f j i n p () u k)|false=>refine cF ⟨_,j,rfl,n,by lia,by lia,?_⟩;have:=k.next O () s y;rwa[show x+1-(f+1+1)=x-(f+1)by lia]
 ·rintro c i⟨f,j,rfl,n,p,u,k⟩;exact h o f j i n p (o_ _) u k
def pW{f:Array ľ}{p:ZM}{u:ZB}{Q:Nat%1->ZB->Prop}(O:Od Ε)(C:Cm Ì D Ó f p Ε)(d:SB f p Ν u)(E:1<=b)(r:b+1<=o)(q:o<=f.size)(a:Dq Ε Ν b (b+1) f.size)(h:∀m n g,SB f p n g->1<=m->m<=o->Up Ε n m f.size->Q (Z m) g):ĭ Ì D ν Ó (descPart b o) Q u:=by
 refine bD (Bq λs y=>Zw ⟨y,(bD (OY O C d () r q a λm i n g w z j A v=>?_))⟩);dsimp!;by_cases k:i>0;·rw[if_pos k];exact bD (Fd (Br O C (w.mirror ()) () j q v.turn h))
 · have e:i=0:=by lia
   subst e;exact Br O C w () j q v.one h
def Km{j:Array ľ}{H:ZM}{E:ZB}{Q:Nat%1->ZB->Prop}(O:Od Ε)(C:Cm Ì D Ó j H Ε)(f:SB j H Ν E)(h1:1<=b)(I:b<=j.size)(r:∀k,k<j.size->Ν k=k)(h:∀m p' u,SB j H p' u->1<=m->m<=b->Up Ε p' m j.size->Q (Z m) u):ĭ Ì D ν Ó (countRun' 0 b) Q E:=by
 rw[countRun0_eq];refine bD (OX O C f (o_ 1) h1 I ⟨λa g z s=>by lia,λa o=>by rw[r a ()];exact o,λa _ P=>r a P⟩ λn w v d c'=>?_);dsimp!;by_cases p:n=b;·rw[if_pos (by simpa using p)];exact cF (h n Ν E f w v d)
 · rw[if_neg (by simpa using p)];have y:=c'.resolve_left p;by_cases d':n>1;·rw[if_pos d'];refine bD (OW C f () () ?_);cases hr:Ε _ _ with|true=>exact cF (h n Ν E f w v d)|false=>
     have b':∀a,a<n->Ε _ (Ν 0)=h_:=λa o=>by
      by_cases e:a=0;·subst e;exact O.ir _
      · rcases d.so 0 a () o with q|q;·exact O.as q
        ·exact q.1
     have a':∀a,a<n->Ε (Ν _) _=h_:=λa o=>by
      by_cases e:a=n-1;·subst e;exact O.ir _
      · rcases d.so a (n-1) () ()with q|q;·exact O.as q
        ·exact q.1
     have eq:=λa g o s=>O.le (a' g s) (O.le hr (b' a o));have i:Dq Ε (ĥ Ν 0 n) n (n+1) j.size:=by
      have Dm:Dn Ε (ĥ Ν 0 n) n j.size:=⟨λa g z s=>by unfold ĥ;rw[if_pos ⟨XG _,s⟩,if_pos ⟨XG _,by lia⟩];refine .of_le (eq _ _ () ()) ?_;rw[r _ (),r _ ()];lia,λa o=>by unfold ĥ;rw[if_pos ⟨XG _,o⟩,r _ ()];lia,λa o P=>by unfold ĥ;rw[if_neg (),r _ P]⟩;refine Dm.next O () () ?_;have e1:ĥ Ν 0 n n=Ν n:=by unfold ĥ;rw[if_neg ()]
      have e2:ĥ Ν 0 n (n-1)=Ν 0:=by unfold ĥ;lia
      rw[e1,e2];exact O.lt_le y (eq 0 _ () ())
     exact bD (Fd (pW O C (f.mirror ()) () () I i h))
   · have A:n=1:=by lia
     subst A;refine pW O C f () () I ?_ h;have Dm:Dn Ε Ν 1 j.size:=⟨λa g z s=>by lia,d.lo,d.re⟩;exact Dm.next O () () y
def TX{j:Array ľ}{A:ZM}{st:ZB}{Q:Bool->ZB->Prop}(O:Od Ε)(C:Cm Ì D Ó j A Ε)(g:SB j A Ν st)(i':1<=o)(a':o<=b)(hn:b<=j.size)(f:Up Ε Ν o j.size)(h:∀m p,SB j A m p->Up Ε m b j.size->Q L p):ĭ Ì D ν Ó (binarySort' 0 b o) Q st:=by
 rw[binarySort'_eq];simp![aaf];rw[show max o 1=o by lia];refine bD (tX (lP (I:=λk c p=>∃m,c=(U,Unit.unit)/\o<=k/\SB j A m p/\Up Ε m k j.size) (a:=λc p=>∃m,c=(U,Unit.unit)/\SB j A m p/\Up Ε m b j.size) a' ?_ ?_ ⟨Ν,rfl,o_ _,g,f⟩) ?_)
 · rintro k c p hk⟨m,rfl,h',z,u⟩;have E:=u.re k (o_ _) ();refine bD (tX (lP (I:=λx c s=>s=p/\∃l r,c=(U,l,r)/\l<=r/\r<=k/\r-l<=k-x/\(∀i,i<l->Ε (m k) (m i)=h_)/\(∀i,r<=i->i<k->Ε (m k) (m i)=L)) (a:=λc s=>s=p/\∃l r,c=(U,l,r)/\l<=k/\(∀i,i<l->Ε (m k) (m i)=h_)/\(∀i,l<=i->i<k->Ε (m k) (m i)=L)) (XG k) ?_ ?_ ⟨rfl,0,k,rfl,by lia,by lia,by lia,λi hi=>by lia,λi h1 h2=>by lia⟩) ?_)
   · rintro x c s hx⟨rfl,l,r,rfl,b',y,hm,v,w⟩;dsimp!;by_cases H:l>=r
     · rw[if_pos H];have:l=r:=by lia
       subst this;exact cF ⟨rfl,l,l,rfl,y,v,w⟩
     ·rw[if_neg H];refine bD (OW C z () () ?_);cases n:Ε _ _ with
       |true=>
        refine cF ⟨rfl,l,_,rfl,by lia,by lia,by lia,v,λi i1 i2=>?_⟩;by_cases e:i=(l+r)/2;·subst e;exact n
        · rcases u.so ((l+r)/2) i () i2 with q|q;·exact O.tr _ _ _ n q
          ·exact O.lt_le n q.1|false=>
        refine cF ⟨rfl,_,r,rfl,by lia,by lia,by lia,λi i1=>?_,w⟩;by_cases e:i=(l+r)/2;·subst e;exact n
        · rcases u.so i ((l+r)/2) () ()with q|q;·exact O.le (O.as q) n
          ·exact O.le q.1 n
   · rintro c s⟨rfl,l,r,rfl,b',y,hm,v,w⟩;have:l=r:=by lia
     subst this;exact⟨rfl,l,l,rfl,y,v,w⟩
   · rintro c s⟨rfl,l,r,rfl,c',v,w⟩;refine bD (mU (cF ⟨Ť m k l,rfl,by lia,z.bubble () c',⟨λa d I hb=>?_,λa ha=>?_,λa ha hN=>?_⟩⟩))
     · have c1:Ť m k l l=m k:=by unfold Ť;rw[if_pos rfl]
       have c2:∀x,l<x->x<=k->Ť m k l x=m _:=λx h1 h2=>by unfold Ť;rw[if_neg (),if_pos ⟨h1,h2⟩]
       have P:∀x,x<l->Ť m k l x=m x:=λx h1=>by unfold Ť;rw[if_neg (),if_neg ()]
       by_cases d':d=l;·subst d';rw[c1,P a I];exact .of_le (v a ()) (by rw[E];exact u.lo a ())
       · by_cases e':l<d
         · rw[c2 d e' ()];by_cases f':a=l;·subst f';rw[c1];exact .inl (w _ () ())
           · by_cases g':l<a;·rw[c2 a g' ()];exact u.so _ _ () ()
             ·rw[P a ()];exact u.so a _ () ()
         ·rw[P a (),P d ()];exact u.so a d I ()
     · unfold Ť;split;·rw[E];lia
       · split;·have:=u.lo (a-1) ();lia
         ·have:=u.lo a ();lia
     ·unfold Ť;rw[if_neg (),if_neg ()];exact u.re a () hN
 ·rintro c p⟨m,rfl,_,z,u⟩;exact⟨m,rfl,z,u⟩
 ·rintro c p⟨m,rfl,z,u⟩;exact cF (h m p z u)
structure R9(a₀:Array ľ)(blt:Nat->Nat->Bool)(p:Nat->Nat)(xs:Array ľ):Prop where
 sz:xs.size=a₀.size
 at':∀k,k<a₀.size->xs[k]?=a₀[p k]?lt:∀k,k<a₀.size->p k<a₀.size
 inj:∀a b,a<a₀.size->b<a₀.size->p a=p b->a=b
 so:∀a b,a<b->b<a₀.size->Ĵ blt (p a) (p b)
def Dne(a:Array ľ)(d:Nat->Nat->Bool)(b:ZB):Prop:=∃p,R9 a d p (ţ b)/\adG b=U/\adU b=#[(0,a.size,0)]
def SB.done{b:Array ľ}{e:ZM}{d:ZB}(B:SB b e Ν d)(a:Up Ε Ν b.size b.size):Dne b Ε (setPending d ((adU d).push (0,b.size,0))):=⟨Ν,⟨B.sz,B.at',B.lt,B.inj,a.so⟩,B.failed,by rw[B.pend];rfl⟩
def HN{d:Array ľ}{j:ZM}{y:ZB}{Q:Unit->ZB->Prop}(O:Od Ε)(C:Cm Ì D Ó d j Ε)(b:SB d j Ν y)(hp:∀k,k<d.size->Ν k=k)(h2:2<=d.size)(w:d.size<64)(h:∀H e,R9 d Ε H (ţ e)->adG e=U->Q Unit.unit e):ĭ Ì D ν Ó sortRuns' Q y:=by
 rw[sortRuns'_eq];refine bD (yD ?_);dsimp!;have r:minRun' d.size d.size 0=d.size:=by
  obtain⟨f,hf⟩:∃f,d.size=f+1:=⟨d.size-1,by lia⟩;have:minRun' (f+1) d.size 0=d.size:=by rw[minRun'_succ,if_pos w];rfl
  rwa[<-hf]at this
 simp![b.sz,r];refine bD (tX (lP (I:=λx c e=>(x=0/\c=(U,0)/\SB d j Ν e)\/(1<=x/\c=(U,d.size)/\Dne d Ε e)) (a:=λc e=>c=(U,d.size)/\Dne d Ε e) (XG _) ?_ ?_ (.inl ⟨rfl,rfl,b⟩)) ?_)
 · rintro x c e I(⟨rfl,rfl,B'⟩|⟨a',rfl,a⟩)
   · rw[if_neg ()];simp![Nat.sub_zero,Nat.min_self,aaf];refine bD (Km O C B' () (o_ _) hp λm p2 q o v u z=>?_);dsimp!;by_cases i:m<d.size
     · rw[if_pos i];refine bD (Bq λs P=>Zw ⟨P,(bD (TX O C o v u (o_ _) z λp3 p A U3=>?_))⟩);refine bD (yD ?_);have n:(adU p).back?=U:=by rw[A.pend];rfl
       rw[n];exact bD (mU (cF (.inr ⟨by lia,rfl,A.done U3⟩)))
     · rw[if_neg i];have hm:m=d.size:=by lia
       subst hm;refine bD (yD ?_);have n:(adU q).back?=U:=by rw[o.pend];rfl
       rw[n];exact bD (mU (cF (.inr ⟨by lia,rfl,o.done z⟩)))
   ·rw[if_pos (o_ _)];exact cF ⟨rfl,a⟩
 · rintro c e(⟨I,_,_⟩|⟨_,hc,a⟩);·lia
   ·exact⟨hc,a⟩
 · rintro c e⟨rfl,E,D1,D2,D3⟩;refine bD (tX (lP (I:=λ_ c g=>g=e/\c=(U,Unit.unit)) (XG _) ?_ (λ_ _ hh=>hh) ⟨rfl,rfl⟩) ?_);·rintro x c g _⟨rfl,rfl⟩;refine bD (yD ?_);rw[if_pos (by rw[D3];exact o_ 1)];exact cF ⟨rfl,rfl⟩
   ·rintro c g⟨rfl,rfl⟩;exact cF (h E _ D1 D2)
abbrev tY(h:O_)(a:O)(b:B%0):O_:=((h.update a (XX λ_=>#[])).push (Yi "tuple" b.toArray 0)).push (Yi "list" #[] 0)
def JT(s:ge)(H:O_):ge->Prop:=λb=>∃a,s.toks<=a/\b={s with heap:=H,toks:=a}
def OZ{Kd:ZM->Prop}{g:adT->ge->Prop}(H:f.heap.get? e=Z (Yi "list" P.toArray b))(r:P.length<64)(i:Od Ε)(b':2<=P.length->∀E,JT f (tY f.heap e P) E->xy (B_ p n) D (keyKind' P.toArray) (λk s'=>JT f (tY f.heap e P) s'/\Kd k) ν E)(C:∀kd,Kd kd->Cm (B_ p n) D (JT f (tY f.heap e P)) (adV P) kd Ε)(h:∀(d:Nat->Nat)(q:Array B)(I:Nat),q.size=P.length->(∀k,k<P.length->q[k]?=P[d k]?)->(∀k,k<P.length->d k<P.length)->(∀x y,x<P.length->y<P.length->d x=d y->x=y)->(∀x y,x<y->y<P.length->Ĵ Ε (d x) (d y))->g (.done (.ret .none)) {f with heap:=sortedHeap f.heap e P q,toks:=I}):xy (B_ p n) D (Zd.«list.sort» ⟨[.ref e],[]⟩) g ν f:=by
 rw[list_sort_plain];have ha:=uk H;refine c_ (abf H rfl (c_ (aal H rfl ?_ (FD.line64 (by simpa using r)))));obtain⟨Q,A⟩:∃Q,(f.heap.update e _).get? e=Z (Yi "list" #[] Q):=⟨_,aaR H (λ_=>#[])⟩;refine c_ (acr A rfl (c_ (ady (c_ (aby (XY ?_))) (FD.line64 (by simpa using r)))));have o:(tY f.heap e P).get? e=Z (Yi "list" #[] Q):=by rw[Y8 _ _ _ (by rw[abu,Z3];exact D_ (X7 ha)),Y8 _ _ _ (by rw[Z3];exact D_ ha)];exact A
 show xy _ D _ g ν {f with heap:=tY f.heap e P};have a':P.toArray.size=P.length:=by simp
 have s:=ada P;have z:∀k,k<P.length->(adV P)[k]?=(P[k]?).map λv=>(v,v):=λk j=>by unfold adV;simp[j]
 by_cases w:P.toArray.size<2;·rw[if_pos w,if_pos w];refine c_ (i_ (c_ (i_ ?_)));dsimp!;refine c_ (acr o rfl (c_ (aal o rfl ?_ (hsz2:=by rw[ZC];show(adV P).size<=_;rw[ada,abB];lia))));simp![bne_self_eq_false,YB];refine i_ (h id ((adV P).map Prod.snd) f.toks (by simp[s]) (λk j=>?_) (λk j=>j) (λx y _ _ a=>a) (λx y e' hy=>by rw[a']at w;lia));rw[aa1,z k j];simp[j]
 ·rw[if_neg w,if_neg w];refine c_ (X8 (b' () _ ⟨f.toks,o_ _,rfl⟩) (λk E d'=>?_) λ_ _ a=>a);obtain⟨J1,c'⟩:=d';refine c_ (X8 (HN (Q:=λ_ m=>∃u,R9 _ Ε u (ţ m)/\adG m=U) (Ν:=id) i (C k c') ⟨rfl,λ_ _=>rfl,λ_ h=>h,λ_ _ _ _ a=>a,rfl,rfl,rfl⟩ (λ_ _=>rfl) (by rw[s];lia) (by rw[s];exact r) (λu m a1 a2=>⟨u,a1,a2⟩) E J1) ?_ λ_ _ a=>a);rintro⟨⟨⟩,m⟩s'⟨⟨I,_,rfl⟩,u,F,hf⟩;refine c_ (acr o rfl (c_ (aal o rfl ?_ (hsz2:=by refine Xx (abi ((ZC ..).trans (F.sz.trans (ada _)))) ?_;rw[abB];lia))));rw[hf];simp![bne_self_eq_false,YB];have Fl:=F.lt;have Fi:=F.inj;have Fs:=F.so;rw[s]at Fl Fi Fs;refine i_ (h u _ I (by rw[ZC,F.sz,s]) (λk j=>?_) Fl Fi Fs);rw[aa1,F.at' k (by rw[s];exact j),z _ (Fl k j)];simp[Fl k j]
open L2
def pY(h:O_)(A:x_)(z:Bool)(p q:B)(e l:Bool):Prop:=∀(a:m_)(w:v_)(E:B->ge->Prop)(s:ge),s.heap=h->(∀Q:Bool->ge->Prop,Q e s->xy (B_ a w) A (eqBool p q) Q E s)/\(∀(b:Bool)(Q:Bool->ge->Prop),(b=L->z=L)->Q l s->xy (B_ a w) A (oneLt' b p q) Q E s)
def tZ(x:Bool){M:Z2}{A:x_}{E:B->ge->Prop}{s:ge}{Q:Bool->ge->Prop}(h:Q x s):xy M A (truthOfDropped (.bool x)) Q E s:=Y7 h
def xj(e:O_)(A:x_)(z:Bool)(a b:Str)(t u:Tok):pY e A z (.str a t) (.str b u) (A_ (a=b)) (A_ (a.cps.toList<b.cps.toList)):=λd w E s _=>⟨λQ h=>wpAny_eqBool_str h,λf Q _ h=>by cases f with|true=>exact oneLt_str h|false=>rw[adW];exact c_ (ad1 (tZ _ h))⟩
def xl(e:O_)(A:x_)(z:Bool)(a b:Int)(t u:Tok):pY e A z (.int a t) (.int b u) (a==b) (A_ (a<b)):=λd w E s _=>⟨λQ h=>wpAny_eqBool_int h,λf Q _ h=>by cases f with|true=>exact oneLt_int h|false=>rw[adW];exact c_ (PyProof.Rows.lt_int (tZ _ h))⟩
def Kn(e:O_)(A:x_)(z:Bool)(a b:Bool):pY e A z (.bool a) (.bool b) (a==b) (A_ (b2i a<b2i b)):=λd w E s _=>⟨(adB a b d w E),λf Q _ h=>by cases f with|true=>rw[adW];exact c_ (wpAny_cRoomFor_byValue rfl (c_ (wpAny_callSpecialIfBound?_slot (aey s a) F.slot_bool_lt (call_gives F.slot_bool_lt (aey s a) F.entry_int_lt (F.args_int_lt_2 _ _) (gives_int_lt_bools a b) (tZ _ h)))))|false=>rw[adW];exact c_ (PyProof.Rows.lt_bool (tZ _ h))⟩
def dR:(Bool×Bool)%0->Bool%1|[]=>U|(L,_)::r=>dR r|(h_,l)::_=>Z l
def gm(k l:Bool)(a:(Bool×Bool)%0):(dR ((k,l)::a)).getD h_=if k=L then(dR a).getD h_ else l:=by cases k<;>rfl
inductive oV(h:O_)(A:x_):Bool->(B×B)%0->(Bool×Bool)%0->Prop|nil{z:Bool}:oV h A z [] []|cons{z:Bool}{p q:B}{e l:Bool}{ps:(B×B)%0}{rs:(Bool×Bool)%0}:pY h A z p q e l->oV h A h_ ps rs->oV h A z ((p,q)::ps) ((e,l)::rs)
def Bs{a:m_}{w:v_}{A:x_}{E:B->ge->Prop}{s:ge}(b:Bool){R:Bool%1×Unit->ge->Prop}:∀{z:Bool}{l:(B×B)%0}{d:(Bool×Bool)%0}(k:Nat),oV s.heap A z l d->(k=0->z=L)->R (dR d,Unit.unit) s->xy (B_ a w) A (afq (l.zipIdx k) ((U,Unit.unit):Bool%1×Unit) λx __s=>match x with|((p,q),i)=>do
 let __do_lift<-eqBool p q if(!__do_lift)=L then do
 let __do_lift<-oneLt' (b&&i==0) p q
 pure (ForInStep.done (Z __do_lift,Unit.unit))else pure (YN (U,Unit.unit))) R E s
 |_,_,_,k,.nil,_,h=>by exact i_ h|_,_,_,k,.cons (e:=e) i r,g,h=>by rw[List.zipIdx_cons,ae4];refine c_ ?_;dsimp!;refine c_ ((i a w E s rfl).1 _ ?_);cases e with|true=>exact i_ (Bs b _ r (λz=>absurd z (Nat.succ_ne_zero k)) h)|false=>exact c_ ((i a w E s rfl).2 _ _ (λf=>g (by simp at f;exact f.2)) (i_ (i_ h)))
def ua(b:Bool){a c:O}{e d:Array B}{g:(Bool×Bool)%0}{Q:Bool->ge->Prop}(m:f.heap.IsTuple a e)(k:f.heap.IsTuple c d)(j:oV f.heap D L (e.toList.zip d.toList) g)(h:Q ((dR g).getD (A_ (e.size<d.size))) f):xy (B_ p n) D (keyLt' (tuples' b) (.ref a) (.ref c)) Q ν f:=by obtain⟨w,q,_,z,u⟩:=m;obtain⟨v,o,_,y,s⟩:=k;refine c_ (abf q u (c_ (abf o s (c_ (Bs b 0 j (λ_=>rfl) ?_)))));cases i:dR g with|none=>rw[i]at h;exact i_ h|some r=>rw[i]at h;exact i_ h
inductive ka(h:O_):B%0->B%0->Prop|nil:ka h [] []|cons{a:O}{xs:Array B}{f:B}{vs fs:B%0}:h.IsTuple a xs->xs[0]?=Z f->ka h vs fs->ka h (.ref a::vs) (f::fs)
def ub{a:m_}{w:v_}{A:x_}{E:B->ge->Prop}{s:ge}{R:Option B%0->ge->Prop}:∀{b:B%0}{fs:B%0},ka s.heap b fs->R (fs.map Z) s->xy (B_ a w) A (b.mapM firstOfTuple') R E s|_,_,.nil,h=>by exact i_ h|_,_,.cons f e r,h=>by rw[List.mapM_cons];obtain⟨o,g,c,n,d⟩:=f;refine c_ (c_ (Z_ ⟨o,g,c⟩ ?_));refine c_ (abf g d (i_ ?_));rw[e];exact c_ (ub r (i_ h))
def O0(p q:B)(e l:Bool):Prop:=∀(a:m_)(w:v_)(A:x_)(E:B->ge->Prop)(s:ge),(∀Q:Bool->ge->Prop,Q e s->xy (B_ a w) A (eqBool p q) Q E s)/\(∀Q:B->ge->Prop,Q (.bool l) s->xy (B_ a w) A (richCompare .Lt p q) Q E s)
inductive pZ:(B×B)%0->(Bool×Bool)%0->Prop|nil:pZ [] []|cons{p q:B}{e l:Bool}{ps:(B×B)%0}{rs:(Bool×Bool)%0}:O0 p q e l->pZ ps rs->pZ ((p,q)::ps) ((e,l)::rs)
section
open PySem.SeqAt
open PySem.AutoSeq1(wpAny_loadPart')
open PySem.MeetsSeq PySem.MeetsSeq2 PySem.MeetsSeq3
def Bt(l b:O)(j f:Array B)(n n2:Nat)(dd I:O%1)(sl E:Array (B%1))(v:(Bool×Bool)%0)(hi:pZ (j.toList.zip f.toList) v)(hz:j.size=f.size):Meets (Zd.«tuple.__lt__» ⟨[.ref l,.ref b],[]⟩) (λ_ a s=>s.heap.get? l=Z {cls:=.type "tuple",dict:=dd,data:=.seq j n,slots:=sl}/\s.heap.get? b=Z {cls:=.type "tuple",dict:=I,data:=.seq f n2,slots:=E}/\a (.ok (.ret (.bool ((dR v).getD h_)))) s):=.of_wp λm w A a s h=>by
 obtain⟨z,g,d,u,os⟩:=s;obtain⟨hl,hb,h⟩:=h;have R:=acE;wp_walk using abH hl,abH hb,aaD _ (λrest b p=>b.1=U/\p=⟨z,g,d,u,os⟩/\∃k,pZ rest k/\a (.ok (.ret (.bool ((dR k).getD h_)))) ⟨z,g,d,u,os⟩) _;case turn=>rintro⟨y,x⟩rest b p⟨o,rfl,k,D,q⟩;cases D with|cons i r=>rename_i e lw P;rw[gm]at q;refine c_ ((i m w _ _ _).1 _ ?_);cases e with|true=>wp_walk;exact⟨rfl,rfl,_,r,by simpa using q⟩|false=>have H:=λQ h=>(i m w A.in1 (λe p=>a (.error e) p) ⟨z,g,d,u,os⟩).2 Q h;wp_walk using H;exact⟨_,rfl,by simpa using q⟩
 case fin=>rintro⟨b1,b2⟩p⟨o,rfl,k,D,q⟩;simp only at o;subst o;cases D;wp_walk;exact⟨_,rfl,by simpa[abo,hz,dR]using q⟩
 case h=>exact⟨rfl,rfl,v,hi,h⟩
end
def oR:Str%0->Str%0->Bool|x::b,y::a=>if x=y then oR b a else A_ (x.cps.toList<y.cps.toList)|_,_=>h_
def p8:∀{e f:Str%0}{d b:B%0},e.length=f.length->Ö (e.map V.str) d->Ö (f.map V.str) b->∃g,pZ (d.zip b) g/\(dR g).getD h_=oR e f
 |[],[],d,b,_,v,n=>by cases v;exact⟨[],.nil,rfl⟩|k::e,j::f,d,b,r,v,n=>by cases v with|cons o v2=>cases n with|cons m i=>obtain⟨g,q,i2⟩:=p8 (by simpa using r) v2 i;obtain⟨t,rfl⟩:=o;obtain⟨p,rfl⟩:=m;refine⟨_,.cons (λa w A E s=>⟨(xj s.heap A h_ k j t p a w E s rfl).1,λQ h=>(ad1 h)⟩) q,?_⟩;rw[gm,i2];simp[oR]
 |[],_::_,_,_,h,_,_=>by simp at h|_::_,[],_,_,h,_,_=>by simp at h
def vA{a:m_}{w:v_}:∀{d:Str%0}{b:B%0},Ö (d.map V.str) b->afl (YL a w) d b|[],b,v=>by cases v;exact .nil|k::d,b,v=>by cases v with|cons e v2=>obtain⟨t,rfl⟩:=e;exact .cons (by show ZR k (.str k t)=L;simp[ZR]) (vA v2)
def Fe{j:Str%0}{i:B%0}(hu:D.units+8<cLine)(h1:I.IsTuple e P.toArray)(h2:I.IsTuple A i.toArray)(hl:E.length=j.length)(m:Ö (E.map V.str) P)(k:Ö (j.map V.str) i):pY I D h_ (.ref e) (.ref A) (A_ (E=j)) (oR E j):=λv w a s hs=>by subst hs;obtain⟨⟨a',dd,y,H⟩,o,u,n,r⟩:=id h1;obtain⟨⟨z,q,data2,p⟩,d,g,n2,f⟩:=id h2;simp only at u r g f;subst u r g f;refine⟨λQ h=>PySem.wpAny_eqBool_tuple () ⟨_,_,_,o,rfl,rfl,by simpa using vA m⟩ ⟨_,_,_,d,rfl,rfl,by simpa using vA k⟩ h,λb Q hb h=>?_⟩;cases b with|true=>exact absurd (hb rfl) #v[]|false=>
 rw[adW];obtain⟨rs,i1,i2⟩:=p8 hl m k;rw[<-i2]at h;have hz:P.toArray.size=i.toArray.size:=by have e1:=m.length;have e2:=k.length;simp at e1 e2⊢;lia
 refine c_ ?_;exact ac0 ⟨_,o,rfl⟩ ⟨_,d,rfl⟩ PySem.F.slot_tuple_lt PySem.F.entry_tuple_lt (PySem.F.args_tuple_lt_2 _ _) (Bt e A P.toArray i.toArray n n2 dd q H p rs i1 hz) ⟨o,d,(⟨(λx=>nomatch x),tZ _ h⟩)⟩ ()
open FD
def ę:W->Nat|.str _=>1|.int _=>2|.bl _=>3|.tup b=>(match cw b with|some a=>4+a.length|none=>0)|_=>0
def Ř:W->W->Bool|.str a,.str b=>A_ (a=b)|.int a,.int b=>a==b|.bl a,.bl b=>a==b|.tup a,.tup b=>(match cw a,cw b with|some x,Z y=>A_ (x=y)|_,_=>h_)|_,_=>h_
def Ĭ:W->W->Bool|.str a,.str b=>A_ (a.cps.toList<b.cps.toList)|.int a,.int b=>A_ (a<b)|.bl a,.bl b=>A_ (b2i a<b2i b)|.tup a,.tup b=>(match cw a,cw b with|some x,Z y=>oR x y|_,_=>h_)|_,_=>h_
def Ċ:W%0->W%0->Bool|x::b,y::a=>if Ř x y then Ċ b a else Ĭ x y|_,_=>h_
def Ĉ(a:W%0):Nat%0:=a.map ę
def j6(a:Nat%0):Bool:=a.all λk=>k !=0
def jU:∀{b:W%0}{a:Str%0},cw b=Z a->b=a.map W.str|[],a,h=>by cases h;rfl|.str x::r,a,h=>by obtain⟨e,d,rfl⟩:=YQ.mp ((h));rw[jU d];rfl|.non::_,_,h=>by cases h|.bl _::_,_,h=>by cases h|.int _::_,_,h=>by cases h|.tup _::_,_,h=>by cases h|.lst _::_,_,h=>by cases h|.scr _::_,_,h=>by cases h|.exn _::_,_,h=>by cases h|.obj _ _::_,_,h=>by cases h
def kc(h:ę (.tup u)≠0):∃a,cw u=Z a/\ę (.tup u)=4+a.length:=by
 simp![ę]at h⊢;split at h;·rename_i a e;exact⟨a,e,rfl⟩
 ·exact absurd rfl h
def p9(h:Ř m π=L):m=π:=by
 cases m<;>cases π<;>simp![Ř,YB,decide_eq_true_eq,beq_iff_eq]at h<;>try(rw[h])
 split at h;·rename_i b a;rw[jU b,jU a,of_decide_eq_true h]
 ·cases h
def xn(h:ę m≠0):Ř m m=L:=by
 cases m<;>try(simp[ę]at h)
 all_goals try(simp[Ř];done)
 obtain⟨a,e,_⟩:=kc h;simp[Ř,e]
def Bu:∀a:Str%0,oR a a=h_|[]=>rfl|x::a=>by rw[oR,if_pos rfl];exact Bu a
def HP:∀{h g f:Str%0},oR h g=L->oR g f=L->oR h f=L
 |x::h,y::g,z::f,a,b=>by
  unfold oR at a b⊢;by_cases i:x=y
  · subst i;rw[if_pos rfl]at a;by_cases d:x=z;·rw[if_pos d]at b⊢;exact HP a b
    ·rw[if_neg d]at b⊢;exact b
  · rw[if_neg i]at a;by_cases d:y=z;·subst d;rw[if_neg i];exact a
    ·rw[if_neg d]at b;have:=aea (of_decide_eq_true a) (of_decide_eq_true b);rw[if_neg λe=>by subst e;exact adM _ this];exact decide_eq_true this|[],_,_,a,_=>by simp[oR]at a|_::_,[],_,a,_=>by simp[oR]at a|_::_,_::_,[],_,b=>by simp[oR]at b
def Bv(a b:Str)(h:¬a.cps.toList<b.cps.toList)(d:¬b.cps.toList<a.cps.toList):a=b:=by have e:=aeO (adJ.mp d) (adJ.mp h);obtain⟨⟨a⟩⟩:=a;obtain⟨⟨b⟩⟩:=b;simp at e;rw[e]
def vB:∀{xs ys:Str%0},xs.length=ys.length->oR xs ys=h_->oR ys xs=h_->xs=ys
 |[],[],_,_,_=>rfl|x::xs,y::ys,d,b,a=>by
  unfold oR at b a;by_cases e:x=y;·subst e;rw[if_pos rfl]at b a;rw[vB (by simpa using d) b a]
  ·rw[if_neg e]at b;rw[if_neg (YH e)]at a;exact absurd (Bv _ _ (of_decide_eq_false b) (of_decide_eq_false a)) e|[],_::_,h,_,_=>by simp at h|_::_,[],h,_,_=>by simp at h
def xo(x:W):Ĭ x x=h_:=by cases x with
 |str a=>simp![Ĭ,decide_eq_false_iff_not];exact adM _|int a=>simp[Ĭ]|bl a=>cases a<;>rfl|tup e=>
 simp![Ĭ];split;·rename_i x y d b;rw[d]at b;cases b;exact Bu x
 ·rfl|_=>rfl
variable{Η:W}
def Bw(b:Ĭ m π=L)(a:Ĭ π Η=L):Ĭ m Η=L:=by
 cases m<;>cases π<;>simp![Ĭ,YB,decide_eq_true_eq]at b<;>cases Η<;>simp![Ĭ,YB,decide_eq_true_eq]at a⊢;·lia
 ·lia
 ·exact aea b a
 · split at b
   · rename_i k j g f;split at a;·rename_i i h d e;rw[f]at d;cases d;rw[g,e];exact HP b a
     ·cases a
   ·cases b
def Bx(d:ę m=ę π)(h:ę m≠0)(g:Ĭ m π=h_)(f:Ĭ π m=h_):m=π:=by cases m with
 |str a=>cases π with|str b=>simp![Ĭ,decide_eq_false_iff_not]at g f;rw[Bv _ _ g f]|tup b=>obtain⟨_,_,e⟩:=kc (show ę _≠0 by rw[<-d];exact h);simp![ę]at d e;rw[e]at d;lia|_=>simp[ę]at d
 |int a=>cases π with|int b=>simp[Ĭ]at g f;rw[show a=b by lia]|tup b=>obtain⟨_,_,e⟩:=kc (show ę _≠0 by rw[<-d];exact h);simp![ę]at d e;rw[e]at d;lia|_=>simp[ę]at d
 |bl a=>cases π with|bl b=>cases a<;>cases b<;>simp[Ĭ,b2i]at g f⊢|tup b=>obtain⟨_,_,e⟩:=kc (show ę _≠0 by rw[<-d];exact h);simp![ę]at d e;rw[e]at d;lia|_=>simp[ę]at d
 |tup a=>obtain⟨n,k,j⟩:=kc h;cases π with|tup b=>obtain⟨o,i,p⟩:=kc (show ę _≠0 by rw[<-d];exact h);simp![Ĭ,k,i]at g f;rw[jU k,jU i,vB () g f]|_=>simp![ę]at d j;rw[j]at d;lia
 |_=>exact absurd rfl h
def HQ:∀a:W%0,Ċ a a=h_
 |[]=>rfl|x::a=>by
  unfold Ċ;split;·exact HQ a
  ·exact xo x
def By:∀{i h g:W%0},Ċ i h=L->Ċ h g=L->Ċ i g=L
 |x::i,y::h,z::g,a,b=>by
  unfold Ċ at a b⊢;by_cases f:Ř x y=L
  · have:=p9 f;subst this;rw[if_pos f]at a;by_cases d:Ř x z=L;·rw[if_pos d]at b⊢;exact By a b
    ·rw[if_neg d]at b⊢;exact b
  · rw[if_neg f]at a;by_cases d:Ř y z=L;·have:=p9 d;subst this;rw[if_neg f];exact a
    ·rw[if_neg d]at b;have:=Bw a b;rw[if_neg λe=>by have:=p9 e;subst this;rw[xo]at this;cases this];exact this|[],_,_,a,_=>by simp[Ċ]at a|_::_,[],_,a,_=>by simp[Ċ]at a|_::_,_::_,[],_,b=>by simp[Ċ]at b
def HR:∀{e d i:W%0},Ĉ e=Ĉ d->Ĉ d=Ĉ i->j6 (Ĉ e)=L->Ċ e i=L->Ċ e d=L\/Ċ d i=L
 |x::e,y::d,z::i,a,f,k,h=>by
  simp![Ĉ,F_,adn]at a f;simp![Ĉ,j6,F_,Y0,n_,bne_iff_ne]at k;have j:=k.1;unfold Ċ at h⊢;by_cases g:Ř x y=L
  · have:=p9 g;subst this;rw[if_pos g];by_cases b:Ř x z=L;·rw[if_pos b]at h⊢;exact HR a.2 f.2 (by simpa[j6,Ĉ]using k.2) h
    ·rw[if_neg b]at h⊢;exact .inr h
  · rw[if_neg g];by_cases b:Ř y z=L;·have:=p9 b;subst this;rw[if_neg g]at h;exact .inl h
    ·rw[if_neg b];cases p:Ĭ x y with|true=>exact .inl rfl|false=>cases o:Ĭ y z with|true=>exact .inr rfl|false=>
    have s:Ĭ y x=L:=by cases q:Ĭ y x with|true=>rfl|false=>have:=Bx a.1 j p q;subst this;exact absurd (xn j) g
    have r:Ĭ z y=L:=by cases q:Ĭ z y with|true=>rfl|false=>have:=Bx f.1 (by rw[<-a.1];exact j) o q;subst this;exact absurd (xn (by rw[<-a.1];exact j)) b
    have m:=Bw r s;by_cases n:Ř x z=L;·have:=p9 n;subst this;rw[xo]at m;cases m
    ·rw[if_neg n]at h;have:=Bw h m;rw[xo]at this;cases this
 |[],_,_,_,_,_,h=>by simp[Ċ]at h|_::_,[],_,a,_,_,_=>by simp[Ĉ]at a|_::_,_::_,[],_,f,_,_=>by simp[Ĉ]at f
def Bz{R:Nat->Nat->Prop}(h:∀a b,R a b->R b a->False):∀{l m:Nat%0},l.Perm m->l.Pairwise R->m.Pairwise R->l=m
 |[],m,d,_,_=>d.nil_eq|x::l,[],d,_,_=>by simpa using d.length_eq|x::l,y::m,d,g,f=>by
  rw[Xy]at g f;have e:x=y:=by
   rcases p_.mp (d.mem_iff.mp (on))with e|j;·exact e
   · rcases p_.mp (d.mem_iff.mpr (on))with e|i;·exact e.symm
     ·exact(h _ _ (g.1 y i) (f.1 x j)).elim
  subst e;rw[Bz h d.cons_inv g.2 f.2]
variable{Ε:Nat->Nat->Bool}
def Ĵ.as(O:Od Ε){a b:Nat}(h:Ĵ Ε a b)(d:Ĵ Ε b a):False:=by
 have:=h.tr O d;rcases this with q|q;·rw[O.ir]at q;cases q
 ·lia
def BA{a:Nat->Nat->Bool}(O:Od a)(x:Nat):∀l:Nat%0,(∀y∈l,x<y)->l.Pairwise (Ĵ a)->(uY (λi j=>!a j i) x l).Pairwise (Ĵ a)
 |[],_,_=>by simp[uY]|y::l,f,h=>by
  unfold uY;rw[Xy]at h;split
  · rename_i e;have d:Ĵ a x y:=.of_le (by simpa using e) (f y on);rw[Xy,Xy];refine⟨λz b=>?_,h⟩;rcases p_.mp b with rfl|b;·exact d
    ·exact d.tr O (h.1 z b)
  · rename_i e;rw[Xy];refine⟨λz b=>?_,BA O x l (λz b=>f z (pi _ b)) h.2⟩;rcases p_.mp ((jx _ x l).mem_iff.mp b)with rfl|b;·exact .inl (by simpa using e)
    ·exact h.1 z b
def xq{a:Nat->Nat->Bool}(O:Od a):∀l:Nat%0,l.Pairwise (·<·)->(isortB (λi j=>!a j i) l).Pairwise (Ĵ a)|[],_=>.nil|x::l,h=>by rw[Xy]at h;exact BA O x _ (λy b=>h.1 y ((isortB_perm _ l).mem_iff.mp b)) (xq O l h.2)
def BB{a d:Type}{e:a->a->Bool}{b:d->d->Bool}(f:a->d)(x:a):∀l:a%0,(∀y∈l,e x y=b (f x) (f y))->(uY e x l).map f=uY b (f x) (l.map f)
 |[],_=>rfl|y::l,h=>by
  simp![uY,F_];rw[<-(h y on)];split;·rfl
  ·rw[F_,BB f x l λz g=>h z (pi _ g)]
def sort_map{e g:Type}{i:e->e->Bool}{d:g->g->Bool}(f:e->g):∀l:e%0,(∀x∈l,∀y∈l,i x y=d (f x) (f y))->(isortB i l).map f=isortB d (l.map f)|[],_=>rfl|x::l,h=>by simp![isortB,F_];rw[BB f x _ λy j=>h x on y (pi _ ((isortB_perm _ l).mem_iff.mp j)),sort_map f l λa m b k=>h a (pi _ m) b (pi _ k)]
def nP:∀(l m:Nat%0),l.Nodup->(∀x∈l,x∈m)->m.length<=l.length->l.Perm m
 |[],m,_,_,h=>by have:=Y4.mp (by simpa using h);subst this;exact .refl _|x::l,m,a,d,h=>by
  rw[Ys]at a;obtain⟨f,e,rfl⟩:=List.append_of_mem (d x on);refine((nP l _ a.2 (λy b=>?_) (by simp at h⊢;lia)).cons x).trans List.perm_middle.symm;have:=d y (pi _ b);simp![XD,p_]at this⊢;rcases this with q|rfl|q;·exact .inl q
  ·exact(a.1 b).elim
  ·exact .inr q
variable{Ν:Nat->Nat}
def vC(g:∀k,k<b->Ν k<b)(f:∀a d,a<b->d<b->Ν a=Ν d->a=d):((y_ b).map Ν).Perm (y_ b):=by
 have i:((y_ b).map Ν).Nodup:=by rw[List.nodup_iff_pairwise_ne,abk];refine(List.nodup_range).imp_of_mem λ{a d}o n h e=>h (f a d (by simpa using o) (by simpa using n) e)
 have sub:∀x∈(y_ b).map Ν,x∈y_ b:=λx j=>by obtain⟨k,m,rfl⟩:=L_.mp j;simpa using g k (by simpa using m)
 exact nP _ _ i sub ∅
def nQ(O:Od Ε){n:Nat}{p:Nat->Nat}(e:∀k,k<n->p k<n)(d:∀a b,a<n->b<n->p a=p b->a=b)(g:∀a b,a<b->b<n->Ĵ Ε (p a) (p b)):(y_ n).map p=isortB (λi j=>!Ε j i) (y_ n):=by refine Bz (λa b h o=>h.as O o) ((vC e d).trans (isortB_perm _ _).symm) ?_ (xq O _ adc);rw[abk];exact(adc).imp_of_mem λ{a b}q m f=>g a b f (by simpa using m)
def xr{a:m_}{w:v_}{A:x_}{E:B->ge->Prop}{s:ge}{R:B%0->ge->Prop}:∀{fs:B%0},(∀f∈fs,∃T,∀e:ge,e.TypeIs f T)->(∀b,R b s)->xy (B_ a w) A (fs.mapM aeF) R E s|[],_,h=>by exact i_ (h _)|f::fs,d,h=>by obtain⟨T,hT⟩:=d f on;rw[List.mapM_cons];exact c_ (Z_ (hT s) (c_ (xr (λg i=>d g (pi _ i)) λb=>i_ (h _))))
def O1{d:B%0}(j:ka f.heap P d)(i:∀a∈d,∃T,∀g:ge,g.TypeIs a T){R:ZM->ge->Prop}(h:∀b,R (tuples' b) f):xy (B_ p n) D (keyKind' P.toArray) R ν f:=by
 rw[keyKind'_eq,aeC];refine c_ ?_;refine c_ (ub j (i_ ?_));rw[if_pos ∅];refine c_ (Zw ?_);have e:(d.map Z).toArray.filterMap id=d.toArray:=by simp
 rw[e,oneTypeOnly'_eq,aeC];refine c_ (c_ ?_);refine c_ (xr i λk=>i_ ?_);split;·exact i_ (i_ (h _))
 ·exact i_ (i_ (h _))
def Ff{fs:B%0}(hl:f.heap.IsList e P.toArray)(c':P.length<64)(u:Od Ε)(hF:ka f.heap P fs)(hf:∀v∈fs,∃T,∀s':ge,s'.TypeIs v T)(hC:∀(A':x_)(h':O_)(i j:Nat)(x y:B),A'.units<=D.units+8->(∀b o,f.heap.get? b=Z o->h'.get? b=Z o)->P[i]?=Z x->P[j]?=Z y->∃a c H ys rs,x=.ref a/\y=.ref c/\f.heap.IsTuple a H/\f.heap.IsTuple c ys/\oV h' A' L (H.toList.zip ys.toList) rs/\(dR rs).getD (A_ (H.size<ys.size))=Ε i j)(h:∀(s:O)(h':O_)(I:Nat)(A:B%0)(m:Nat)(d:Nat->Nat),h'.get? s=Z (Yi "list" A.toArray m)->f.heap.objs.size<=s->(∀b o,f.heap.get? b=Z o->h'.get? b=Z o)->A.length=P.length->(∀k,k<P.length->A[k]?=P[d k]?)->(y_ P.length).map d=isortB (λi j=>!Ε j i) (y_ P.length)->(∀k,k<P.length->d k<P.length)->Å (.ref s) {f with heap:=h',toks:=I}):xy (B_ p n) D (call (.builtin "sorted") [.ref e]) Å ν f:=by
 refine acj aeZ aez aeA (args_sorted1 _) ?_;refine c_ (i_ (c_ (collect_list hl (c_ (aby ?_ (line64 c'))) (line64 c'))));generalize hH:(f.heap.push _).update f.heap.objs.size _=w;have f':w.objs.size=f.heap.objs.size+1:=by rw[<-hH,Z3,abu]
 have up1:∀b o,f.heap.get? b=Z o->w.get? b=Z o:=λb o q=>by have:=uk q;rw[<-hH,YS _ _ _ _ (D_ this),Y8 _ _ _ (D_ this)];exact q
 have b':(w.push _).get? w.objs.size=Z (Yi "list" P.toArray 0):=rl _ rfl;have e':∀b o,f.heap.get? b=Z o->(tY (w.push (Yi "list" P.toArray 0)) w.objs.size P).get? b=Z o:=λb o q=>by have q1:=up1 b o q;have:=uk q1;rw[Y8 _ _ _ (by rw[abu,Z3,abu];exact D_ (X7 (X7 this))),Y8 _ _ _ (by rw[Z3,abu];exact D_ (X7 this)),YS _ _ _ _ (D_ this),Y8 _ _ _ (D_ this)];exact q1
 have E:∀a H,f.heap.IsTuple a H->(tY _ w.objs.size P).IsTuple a H:=λa H⟨o,g,r⟩=>⟨o,e' _ _ g,r⟩;have F2:∀{Q d':B%0},ka f.heap Q d'->ka (tY (w.push (Yi "list" P.toArray 0)) w.objs.size P) Q d':=by intro Q d' g';induction g' with|nil=>exact .nil|cons a b _ ih=>exact .cons (E _ _ a) b ih
 refine c_ (XY (XN adF ⟨_,b',rfl⟩ adj (OZ (f:={f with heap:=w.push (Yi "list" P.toArray 0)}) (Kd:=λk=>∃b,k=tuples' b) b' c' u (λ_ s1 J1=>?_) (λkd hk=>?_) λd A I o1 o2 o3 o4 o5=>⟨_,rfl,?_⟩) (args_list_sort _)));·obtain⟨I,a',rfl⟩:=J1;exact O1 (F2 hF) hf λb=>⟨⟨I,a',rfl⟩,b,rfl⟩
 · obtain⟨b,rfl⟩:=hk;intro i j x y s1 E' ex ey J1;obtain⟨I,a',rfl⟩:=J1;have pz:∀(k:Nat)(z:ľ),(adV P)[k]?=Z z->P[k]?=Z z.1:=λk z hz=>by
    have hk:k<P.length:=by have:=(Yw.mp hz).1;rwa[ada]at this
    unfold adV at hz;simp[hk]at hz;rw[r_ hk,<-hz]
   obtain⟨a,c,H,ys,rs,e1,e2,t1,t2,it,eb⟩:=hC D.in1.in1 _ i j x.1 y.1 ∅ e' (pz i x ex) (pz j y ey);rw[e1,e2];refine ua b (E _ _ t1) (E _ _ t2) it ⟨⟨I,a',rfl⟩,eb⟩
 ·obtain⟨m,he⟩:=sortedHeap_at b';refine i_ ⟨_,rfl,h w.objs.size _ I A.toList m d (by exact he) (by rw[f'];exact aaz _) (λb o q=>?_) (by simpa using o1) (λk hk=>by simpa using o2 k hk) (nQ u o3 o4 o5) o3⟩;have q1:=up1 b o q;have:=uk q1;rw[sortedHeap_old (D_ this) (by rw[abu];exact X7 this),Y8 _ _ _ (D_ this)];exact q1
end TS
variable{Ó:ge->Prop}{Ε:Nat->Nat->Bool}{Ν:Nat->Nat}{Η:FD.W}
namespace FD
open L2 TS
def qc:W%0->((W%0)%0)%1|[]=>Z []|.tup a::r=>(qc r).map (a::·)|_=>U
def DE:W%0->Bool|[]=>h_|d::_=>A_ (ę d<4)
def gO(a:(W%0)%0):Bool:=A_ (a.length<64)&&a.all λr=>A_ (Ĉ r=Ĉ (a.headD []))&&DE r&&j6 (Ĉ r)
def xt:∀{b:W%0}{a:(W%0)%0},qc b=Z a->b=a.map W.tup|[],a,h=>by cases h;rfl|.tup f::r,a,h=>by obtain⟨e,d,rfl⟩:=YQ.mp ((h));rw[xt d];rfl|.non::_,_,h=>by cases h|.bl _::_,_,h=>by cases h|.int _::_,_,h=>by cases h|.str _::_,_,h=>by cases h|.lst _::_,_,h=>by cases h|.scr _::_,_,h=>by cases h|.exn _::_,_,h=>by cases h|.obj _ _::_,_,h=>by cases h
def uc:∀{e:W%0}{b:Str%0}{a:V%0},cw e=Z b->S q g e a->a=b.map V.str:=by intro e b a h r;have:=jU h;subst this;clear h;induction b generalizing a with|nil=>exact((r))|cons k b j=>obtain⟨v,d,rfl,i,f⟩:∃v d,a=v::d/\Ü q g _ v/\S q g _ d:=r;cases((i));rw[j f];rfl
def qY{X:C}{f':(O×Obj)%0}{σ:L2.St}{H:Hp}{s:ge}{D:O_}{A:x_}(I:N X f' σ H s)(hu:A.units+8<cLine)(up:∀b o,s.heap.get? b=Z o->D.get? b=Z o):∀{z:Bool}{j d:W%0}{P i:V%0}{m f:B%0},(z=L->DE j=L)->Ĉ j=Ĉ d->j6 (Ĉ j)=L->S X.K H j P->S X.K H d i->Ö P m->Ö i f->∃E,oV D A z (m.zip f) E/\(dR E).getD h_=Ċ j d
 |z,[],[],P,i,m,f,_,_,_,r,r',v,v'=>by cases((r));cases v;exact⟨[],.nil,rfl⟩|z,x::j,y::d,P,i,m,f,hz,s,Q,r,r',v,v'=>by obtain⟨u,g,rfl,r1,r2⟩:∃v g,P=v::g/\Ü X.K H x v/\S X.K H j g:=r;obtain⟨u',g',rfl,w,b'⟩:∃v g,i=v::g/\Ü X.K H y v/\S X.K H d g:=r';simp![Ĉ,F_,adn]at s;simp![Ĉ,j6,F_,Y0,n_,bne_iff_ne]at Q;cases v with|cons v1 v2=>cases v' with|cons k a'=>
  obtain⟨E,i1,i2⟩:=qY I hu up (z:=h_) (λz=>by cases z) s.2 (by simpa[j6,Ĉ]using Q.2) r2 b' v2 a';have one:∀(p q:B)(e l:Bool),pY D A z p q e l->(if e=L then Ċ j d else l)=Ċ _ _->∃E,oV D A z _ E/\(dR E).getD h_=Ċ (x::j) (y::d):=λp q e l h zz=>⟨_,.cons h i1,by rw[gm,i2];exact zz⟩;have kt:∀ds n,ę (.tup ds)=n->n≠0->n<4->False:=λds n e h0 h4=>by obtain⟨_,_,e'⟩:=kc (u:=ds) ();lia
  cases x with
  |str a=>cases y with|str b=>cases(show u=.str a from r1);cases(show u'=.str b from w);obtain⟨t,rfl⟩:=v1;obtain⟨t',rfl⟩:=k;exact one _ _ _ _ (xj D A z a b t t') rfl|tup b=>exact(kt b 1 s.1.symm #v[] #v[]).elim|_=>exact absurd s.1 (by simp[ę])
  |int a=>cases y with|int b=>cases(show u=.int a from r1);cases(show u'=.int b from w);obtain⟨t,rfl⟩:=v1;obtain⟨t',rfl⟩:=k;exact one _ _ _ _ (xl D A z a b t t') rfl|tup b=>exact(kt b 2 s.1.symm #v[] #v[]).elim|_=>exact absurd s.1 (by simp[ę])
  |bl a=>cases y with|bl b=>cases((r1));cases((w));cases v1;cases k;exact one _ _ _ _ (Kn D A z a b) rfl|tup b=>exact(kt b 3 s.1.symm #v[] #v[]).elim|_=>exact absurd s.1 (by simp[ę])
  |tup ds=>obtain⟨ks,e1,e2⟩:=kc Q.1;cases y with|tup l'=>
  obtain⟨js,e3,e4⟩:=kc (by rw[<-s.1];exact Q.1);obtain⟨a,xs,rfl,ha,rx⟩:=r1.tupE;obtain⟨c,ys,rfl,hc,ry⟩:=w.tupE;cases v1;cases k;obtain⟨k',q1,q2,_⟩:=I.tuple (û.of ha);obtain⟨i',p1,p2,_⟩:=I.tuple (û.of hc);have zf:z=h_:=by cases z with|false=>rfl|true=>have:=hz rfl;simp![DE,decide_eq_true_eq]at this;lia
  subst zf;obtain⟨o1,g1,d'⟩:=q2;obtain⟨o2,g2,c'⟩:=p2;rw[uc e1 rx]at q1;rw[uc e3 ry]at p1;refine one _ _ _ _ (Fe hu ⟨o1,up _ _ g1,d'⟩ ⟨o2,up _ _ g2,c'⟩ () q1 p1) ?_;simp![Ċ,Ř,Ĭ,e1,e3]|_=>have:=s.1;simp![ę]at this e2;rw[e2]at this;lia
  |_=>exact absurd rfl Q.1
 |_,[],_::_,_,_,_,_,_,s,_,_,_,_,_=>by simp[Ĉ]at s|_,_::_,[],_,_,_,_,_,s,_,_,_,_,_=>by simp[Ĉ]at s
def Fg(d:ę m≠0)(h:ę m<4)(r:Ü q g m υ)(b:ß υ ω):∃T,∀f:ge,f.TypeIs ω T:=by cases m with|str a=>cases(show υ=.str a from r);obtain⟨t,rfl⟩:=b;exact⟨_,λs=>aaU s _ _⟩|int a=>cases(show υ=.int a from r);obtain⟨t,rfl⟩:=b;exact⟨_,λs=>typeIs_int s _ _⟩|bl a=>cases(show υ=.bl a from r);cases b;exact⟨_,λs=>aey s _⟩|tup i=>obtain⟨_,_,e⟩:=kc d;lia|_=>exact absurd rfl d
def nR{X:C}{f':(O×Obj)%0}{o:L2.St}{H:Hp}{s:ge}(I:N X f' o H s):∀{b:(W%0)%0}{g:V%0}{d:B%0},(∀r∈b,DE r=L/\j6 (Ĉ r)=L)->S X.K H (b.map W.tup) g->Ö g d->∃fs,ka s.heap d fs/\∀f∈fs,∃T,∀y:ge,y.TypeIs f T
 |[],g,d,_,r,v=>by cases((r));cases v;exact⟨[],.nil,by simp⟩|i::b,g,d,h,r,v=>by obtain⟨u,e,rfl,E,D⟩:∃v e,g=v::e/\Ü X.K H _ v/\S X.K H _ e:=r;obtain⟨a,p,rfl,ha,z⟩:=E.tupE;cases v with|cons w v2=>cases w;obtain⟨fs,f1,R⟩:=nR I (λr hr=>h r (pi _ hr)) D v2;obtain⟨a',A,Q,hz⟩:=I.tuple (û.of ha);obtain⟨n,m⟩:=h i on;cases i with|nil=>cases n|cons x i=>obtain⟨u,j,rfl,P,q2⟩:∃v j,p=v::j/\Ü X.K H x v/\S X.K H i j:=z;cases A with|cons q w2=>
 rename_i t ts;refine⟨t::fs,.cons Q ∅ f1,λf k=>?_⟩;rcases p_.mp k with rfl|k;·simp![Ĉ,j6,F_,Y0,n_,bne_iff_ne]at m;exact Fg m.1 (of_decide_eq_true n) P q
 ·exact R f k
def ud{X:C}{f':(O×Obj)%0}{o:L2.St}{H:Hp}{s:ge}(I:N X f' o H s):∀{d:(W%0)%0}{g:V%0}{e:B%0}(i:Nat)(x:B),S X.K H (d.map W.tup) g->Ö g e->e[i]?=Z x->∃a j b k,d[i]?=Z k/\g[i]?=Z (.ref a)/\x=.ref a/\S X.K H k j/\Ö j b/\H a=Z (.tup j)/\s.heap.IsTuple a b.toArray|[],g,e,i,x,r,v,h=>by cases((r));cases v;simp at h|k::d,g,e,i,x,r,v,h=>by obtain⟨u,f,rfl,D,A⟩:∃v f,g=v::f/\Ü X.K H _ v/\S X.K H _ f:=r;obtain⟨a,p,rfl,n,y⟩:=D.tupE;cases v with|cons w v2=>cases w;cases i with|zero=>simp at h;subst h;obtain⟨b,z,Q,hz⟩:=I.tuple (û.of n);exact⟨a,p,b,k,rfl,rfl,rfl,y,z,n,Q⟩|succ i=>obtain⟨a',j,b,m,P,E,q⟩:=ud I i x A v2 (by simpa using h);exact⟨a',j,b,m,by simpa using P,by simpa using E,q⟩
def dU{H:Hp}{K:d_}:∀{e:W%0}{b:V%0},S K H e b->e.length=b.length|[],b,r=>by cases((r));rfl|d::e,b,r=>by obtain⟨u,a,rfl,g,f⟩:∃v a,b=v::a/\Ü K H d v/\S K H e a:=r;simp[dU f]
def qd(a:u.length=ζ.length)(h:∀(i:Nat)(d:W)(v:V),u[i]?=Z d->ζ[i]?=Z v->Ü q g d v):S q g u ζ:=by induction u generalizing ζ with
 |nil=>cases ζ with|nil=>exact rfl|cons _ _=>simp at a
 |cons d u b=>cases ζ with|nil=>simp at a|cons w ζ=>exact⟨w,ζ,rfl,h 0 d w rfl rfl,b (by simpa using a) λi j v f e=>h (i+1) j v (by simpa using f) (by simpa using e)⟩
def reps_at{H:Hp}{K:d_}:∀{e:W%0}{b:V%0},S K H e b->∀(i:Nat)(d:W)(v:V),e[i]?=Z d->b[i]?=Z v->Ü K H d v|[],_,_,i,d,v,h,_=>by simp at h|k::e,b,r,i,d,v,h,f=>by obtain⟨u,a,rfl,j,g⟩:∃v a,b=v::a/\Ü K H k v/\S K H e a:=r;cases i with|zero=>simp at h f;subst h;subst f;exact j|succ i=>exact reps_at g i d v (by simpa using h) (by simpa using f)
def qe(a:ζ.length=P.length)(h:∀(i:Nat)(v:V)(u:B),ζ[i]?=Z v->P[i]?=Z u->ß v u):Ö ζ P:=by induction ζ generalizing P with
 |nil=>cases P with|nil=>exact .nil|cons _ _=>simp at a
 |cons d j b=>cases P with|nil=>simp at a|cons w ζ=>exact .cons (h 0 d w rfl rfl) (b (by simpa using a) λi g v f e=>h (i+1) g v (by simpa using f) (by simpa using e))
def fD(a:(W%0)%0)(i:Nat):W%0:=a.getD i (a.headD [])
def nS{a:(W%0)%0}(h:∀r∈a,Ĉ r=Ĉ (a.headD [])/\DE r=L/\j6 (Ĉ r)=L)(i:Nat):Ĉ (fD a i)=Ĉ (a.headD [])/\j6 (Ĉ (fD a i))=L:=by unfold fD;cases a with|nil=>exact⟨rfl,rfl⟩|cons r a=>
 by_cases b:i<(r::a).length
 · have e:(r::a).getD i ((r::a).headD [])=(r::a)[i]:=by unfold ZK;rw[r_ b];rfl
   rw[e];have:=h _ (aaK b);exact⟨this.1,this.2.2⟩
 · have e:(r::a).getD i ((r::a).headD [])=r:=by unfold ZK;rw[X1 ()];rfl
   rw[e];exact⟨rfl,(h r on).2.2⟩
def BC{d:(W%0)%0}(h:∀r∈d,Ĉ r=Ĉ (d.headD [])/\DE r=L/\j6 (Ĉ r)=L):Od λi j=>Ċ (fD d i) (fD d j)where ir:=λa=>HQ _;tr:=λa b c e f=>By e f;nt:=λa b c e=>HR ((nS h a).1.trans (nS h b).1.symm) ((nS h b).1.trans (nS h c).1.symm) (nS h a).2 e
def kj{a:(W%0)%0}(h:a[b]?=Z u):fD a b=u:=by unfold fD ZK;rw[h];rfl
def vD(d:(W%0)%0):(isortB (λi j=>!(λi j=>Ċ (fD d i) (fD d j)) j i) (y_ d.length)).map (fD d)=isortB (λa b=>!Ċ b a) d:=by
 have e:(y_ d.length).map (fD d)=d:=by
  apply abl;intro i;by_cases f:i<d.length;·rw[P_,ZY f,r_ f];show Z _=_;rw[kj (r_ f)]
  ·rw[X1 (by simpa using f),X1 ()]
 rw[sort_map (d:=λa b=>!Ċ b a) _ _ λx _ y _=>rfl,e]
def Fh(I:N a δ Θ g f){e:(W%0)%0}{v:V%0}{h:B%0}{A':x_}{hp:O_}(hr:∀r∈e,Ĉ r=Ĉ (e.headD [])/\DE r=L/\j6 (Ĉ r)=L)(h2:S a.K g (e.map W.tup) v)(A:Ö v h)(hA:A'.units+8<cLine)(up:∀b o,f.heap.get? b=Z o->hp.get? b=Z o){i j:Nat}{x y:B}(ex:h[i]?=Z x)(ey:h[j]?=Z y):∃d c s q n,x=.ref d/\y=.ref c/\f.heap.IsTuple d s/\f.heap.IsTuple c q/\oV hp A' L (s.toList.zip q.toList) n/\(dR n).getD (A_ (s.size<q.size))=Ċ (fD e i) (fD e j):=by
 obtain⟨a1,b',z,m,H,q2,q3,E,D,q6,q7⟩:=ud I i x h2 A ex;obtain⟨a2,a',w,k,p1,p2,p3,Q,P,p6,p7⟩:=ud I j y h2 A ey;have p:=hr m (N_ H);have m2:=hr k (N_ p1);obtain⟨n,i1,i2⟩:=qY I hA up (λ_=>p.2.1) (p.1.trans m2.1.symm) p.2.2 E Q D P;refine⟨a1,a2,z.toArray,w.toArray,n,q3,p3,q7,p7,by simpa using i1,?_⟩;have u:z.toArray.size=w.toArray.size:=by
  have k1:=D.length;have k2:=P.length;have k3:=dU E;have k4:=dU Q;have k5:(Ĉ m).length=(Ĉ k).length:=by rw[p.1,m2.1]
  simp[Ĉ]at k5;simp;lia
 rw[u,decide_eq_false (Yx _),i2,kj H,kj p1]
def O2{f:(W%0)%0}{n:B%0}(h:f.length=P.length)(D:S a.K g (f.map W.tup) ζ)(z:Ö ζ P)(I:n.length=P.length)(H:∀k,k<P.length->n[k]?=P[Ν k]?)(E:(y_ P.length).map Ν=isortB (λi j=>!(λi j=>Ċ (fD f i) (fD f j)) j i) (y_ P.length))(y:∀k,k<P.length->Ν k<P.length):Ö ((y_ P.length).map λk=>ζ.getD (Ν k) .non) n/\S a.K g ((isortB (λe b=>!Ċ b e) f).map W.tup) ((y_ P.length).map λk=>ζ.getD (Ν k) .non):=by
 have p:=z.length;refine⟨qe (by simp[I]) λi v u o s=>?_,?_⟩
 · have m:i<P.length:=by have:=(u_.mp s).1;lia
   rw[H i m]at s;rw[P_,ZY m]at o;have r:Ν i<ζ.length:=by rw[p];exact y i m
   obtain⟨u',Q,A⟩:=z.get (by rw[r_ r,<-o];simp[ZK,r]);rw[Q]at s;cases s;exact A
 · rw[<-vD f,h,<-E,XS,XS];refine qd ∅ λi d v w o=>?_;have m:i<P.length:=by have:=(u_.mp w).1;simpa using this
   rw[P_,ZY m]at w o;simp![Zp,abA]at w o;have r:Ν i<ζ.length:=by rw[p];exact y i m
   have q:Ν i<f.length:=by rw[h];exact y i m
   refine reps_at D (Ν i) d v ?_ ?_;·rw[P_,r_ q,<-w,kj (r_ q)];rfl
   ·rw[<-o];simp[ZK,r]
def yF(hu:a.A.units+64<cLine):lH a (.builtin "sorted") (λxs H Q=>∃d A g,xs=[.ref d]/\H d=Z (.lst A)/\S a.K H (g.map W.tup) A/\gO g=L/\∀l m,H l=U->S a.K H ((isortB (λd b=>!Ċ b d) g).map W.tup) m->Q (.ref l) (å H l (.lst m))):=by
 intro f' s σ H xs us Q I r h;obtain⟨d,A,g,rfl,h1,w,v,q⟩:=h;obtain⟨u,rfl,ru⟩:=gK r;cases ru;obtain⟨z,a',n,D,hl,e⟩:=I.lstM h1;simp![gO,n_,decide_eq_true_eq,XQ]at v;have k:∀r∈g,Ĉ r=Ĉ _/\DE r=L/\j6 _=L:=λr k=>⟨(v.2 r k).1.1,(v.2 r k).1.2,(v.2 r k).2⟩;have o:g.length=a'.length:=by have E:=dU w;simp at E;lia
 obtain⟨fs,f1,R⟩:=nR I (λr b'=>(k r b').2) w D;refine Ff ⟨_,e,rfl,n,rfl⟩ () (BC k) f1 R (λA' hp i j x y hA up ex ey=>Fh I k w D () up ex ey) λf h' tk P ep p E g2 g3 g4 g5 g6 g7=>?_;obtain⟨hV,hR⟩:=O2 o w D g4 g5 g6 g7;exact⟨.ref f,_,I.laid (o:=.lst _) g3 g2 ⟨line64 (by simp;lia),P,ep,hV,by simpa[Yi]using E⟩,rfl,q f _ (I.hok.fresh g2) hR⟩
open PySem.W
def Ko(K:d_)(d:W):Zx K (.type (tyD d)) (.type "list")=Z (EJ d):=by cases d<;>lk
def O3(G:ö a.prog a.w a.K a.mg a.base Ĳ b e Ç E (ş a.K Â E.length))(s:ã b D)(o:D.frames=a.A.frames)(w:ø a.K Ç E [])(I:N a δ Θ g f){v:V}{u:B}{d n:W}(q:ß v u)(r:Ü a.K g d v)(p:E.length=1)(y:Â [d]=n%3):xy (B_ a.prog a.w) D (call (.ref e) [u]) (EP a δ Θ λm j=>Õ g j/\Ü a.K j n m) ν f:=by have i:=I.env0;refine ab3 (aaE (G.run D a.stack f g _ [u] [v] (λm j=>Õ g j/\Ü a.K j n m) E0 s ⟨o.trans i.frames,i.mod,i.bs,i.bsz,i.funs,i.frf,i.hok,i.bare⟩ (by simpa using w f [u] I.kIn (by simp[p])) (.cons q .nil) ⟨[d],⟨v,[],rfl,r,rfl⟩,p.symm,by rw[y];exactλv j h r=>⟨h,r⟩⟩) λr A k=>?_);cases r with|error h=>exact k.elim|ok z=>cases z with|ret u=>exact I.after k|next=>exact X9 k|brk=>exact X9 k|cont=>exact X9 k
end FD
namespace TS
open FD
def HS{d:ZB}{P:adT->ge->Prop}(j:f.heap.get? A=Z (Yi "list" Κ o))(m:f.heap.get? e=Z (Yi "list" #[] b))(g:A≠e)(i:Κ.size<=sizeLine)(q:(ţ d).size<=sizeLine)(k:adG d=U)(h:P (.done (.ret .none)) {f with heap:=(f.heap.update A (XX λ_=>#[])).update e (XX λ_=>(ţ d).map (·.2))}):xy (B_ p n) D (ksk_tail e h_ b (.ref A) d) P ν f:=by
 refine c_ (aal j rfl (c_ (aeQ ?_)) i (XG _));have a:(f.heap.update A (XX λ_=>#[])).get? e=Z (Yi "list" #[] b):=by rw[YS _ _ _ _ g.symm];exact m
 refine c_ (acr a rfl (c_ (aal a rfl ?_ (XG _) (by simp![YB,if_false,ZC];lia))));rw[k];simp![bne_self_eq_false,if_false];exact i_ h
def TY{s fs:B%0}{m:adT->ge->Prop}(u:f.heap.get? A=Z (Yi "list" P.toArray o))(ha:f.heap.get? e=Z (Yi "list" #[] b))(b':A≠e)(d':P.length=s.length)(I:s.length<64)(g:Od Ε)(hF:ka f.heap P fs)(hf:∀q∈fs,∃T,∀s':ge,s'.TypeIs q T)(hC:∀(A':x_)(i j:Nat)(x y:B),A'.units<=D.units+8->P[i]?=Z x->P[j]?=Z y->∃e o xs ys rs,x=.ref e/\y=.ref o/\f.heap.IsTuple e xs/\f.heap.IsTuple o ys/\oV f.heap A' L (xs.toList.zip ys.toList) rs/\(dR rs).getD (A_ (xs.size<ys.size))=Ε i j)(h:∀(d:Nat->Nat)(H:Array B)(tk:Nat),H.size=s.length->(∀k,k<s.length->H[k]?=s[d k]?)->(y_ s.length).map d=isortB (λi j=>!Ε j i) (y_ s.length)->(∀k,k<s.length->d k<s.length)->m (.done (.ret .none)) {f with heap:=(f.heap.update A (XX λ_=>#[])).update e (XX λ_=>H),toks:=tk}):xy (B_ p n) D (ksk_end e h_ s.toArray b (.ref A) P.toArray) m ν f:=by
 unfold ksk_end;simp![if_false];have Q:P.toArray.size<=sizeLine:=line64 (by simp;lia);have v:(P.toArray.zip s.toArray).size=s.length:=by simp[d']
 have E:∀k,k<s.length->(P.toArray.zip s.toArray)[k]?=Z (P.getD k .none,s.getD k .none):=λk u=>by
  have:k<P.length:=by lia
  have a:(P.zip s)[k]?=Z (P[k],s[k]):=by rw[r_ (by simp;lia),List.getElem_zip]
  simp[u,this,ZK,a]
 have a':s.toArray.size=s.length:=by simp
 by_cases h2:s.toArray.size<2
 ·rw[if_pos h2,if_pos h2];refine c_ (i_ (c_ (i_ (HS (d:=SortSt.mk' general' (P.toArray.zip s.toArray) #[] 7 U) u ha b' Q (line64 (by rw[v];exact I)) rfl ?_))));have:=h id ((P.toArray.zip s.toArray).map (·.2)) f.toks (by rw[ZC,v]) (λk u=>by rw[aa1,E k u];simp[u,ZK]) (nQ g (λk u=>u) (λ_ _ _ _ a=>a) (λx y i' hy=>by rw[a']at h2;lia)) (λk u=>u);exact this
 · rw[if_neg h2,if_neg h2];rw[a']at h2;refine c_ (O1 hF hf λr=>?_);refine c_ (X8 (HN (Ó:=JT f f.heap) (Q:=λ_ w=>∃p',R9 (P.toArray.zip s.toArray) Ε p' (ţ w)/\adG w=U) (Ν:=id) g (λi j x y s1 E' ex ey J1=>?_) (y:=SortSt.mk' _ (P.toArray.zip s.toArray) #[] 7 U) ⟨rfl,λ_ _=>rfl,λ_ h=>h,λ_ _ _ _ a=>a,rfl,rfl,rfl⟩ (λ_ _=>rfl) (by rw[v];lia) (by rw[v];exact I) (λp' w a1 a2=>⟨p',a1,a2⟩) f ⟨f.toks,o_ _,rfl⟩) ?_ λ_ _ a=>a)
   · obtain⟨tk,e',rfl⟩:=J1;have c':∀(k:Nat)(z:ľ),(P.toArray.zip s.toArray)[k]?=Z z->P[k]?=Z z.1:=λk z Q=>by
      have u:k<s.length:=by have:=(Yw.mp Q).1;rwa[v]at this
      rw[E k u]at Q;cases Q;have:k<P.length:=by lia
      simp[this,ZK]
     obtain⟨a1,c1,xs,ys,rs,h',g',t1,t2,it,eb⟩:=hC D i j x.1 y.1 () (c' i x ex) (c' j y ey);rw[h',g'];exact ua r t1 t2 it ⟨⟨tk,e',rfl⟩,eb⟩
   ·rintro⟨⟨⟩,w⟩s'⟨⟨tk,_,rfl⟩,p',F,f'⟩;have Fl:=F.lt;have Fi:=F.inj;have Fs:=F.so;rw[v]at Fl Fi Fs;refine HS u ha b' Q (by rw[F.sz,v];exact line64 I) f' (h p' _ tk (by rw[ZC,F.sz,v]) (λk u=>?_) (nQ g Fl Fi Fs) Fl);rw[aa1,F.at' k (by rw[v];exact u),E _ (Fl k u)];simp[Fl k u,ZK]
end TS
namespace FD
open L2 TS
def ue:∀{a:W%0}(n:Nat),é a=L->é (a.take n)=L|[],n,_=>by simp[é]|d::a,0,_=>rfl|d::a,n+1,h=>by simp![é,n_]at h;simp![List.take_succ_cons,é,n_];exact⟨h.1,ue n h.2⟩
def O4{kS:O}{Q:(W%0)%0}{v:adT->ge->Prop}(G:ö a.prog a.w a.K a.mg a.base Ĳ b e Ç E (ş a.K Â E.length))(hr:ã b D)(T':D.frames=a.A.frames)(hb:ø a.K Ç E [])(h1:E.length=1)(I:N a (δ++[(A,Yi "list" #[] o)]) Θ g f)(hk:g kS=Z (.lst []))(m':kS≠A)(rv:Ö ζ P)(p':S a.K g u ζ)(im:é u=L)(C':∀(i:Nat)(d:W),u[i]?=Z d->∃es,Q[i]?=Z es/\Â [d]=.tup es%3)(a4:Q.length=u.length)(R':gO Q=L)(q':é (Q.map W.tup)=L)(a3:∀H',H' A=U->wF a δ H' A)(h:∀(s':ge)(H':Hp)(p:Nat->Nat)(b':Array B)(c:Nat),N a δ Θ H' s'->H' A=U->(∀k m,k≠kS->g k=Z m->H' k=Z m)->s'.heap.get? A=Z (Yi "list" b' c)->b'.size=P.length->(∀b,b<P.length->b'[b]?=P[p b]?)->(y_ P.length).map p=isortB (λi j=>!(λi j=>Ċ (fD Q i) (fD Q j)) j i) (y_ P.length)->(∀b,b<P.length->p b<P.length)->v (.done (.ret .none)) s'):xy (B_ a.prog a.w) D (ksk_rest A (.ref e) h_ P.toArray o (.ref kS)) v ν f:=by
 have c':=R';simp![gO,n_,decide_eq_true_eq,XQ]at c';have hR:∀r∈Q,Ĉ r=Ĉ (Q.headD [])/\DE r=L/\j6 (Ĉ r)=L:=λr hr=>⟨(c'.2 r hr).1.1,(c'.2 r hr).1.2,(c'.2 r hr).2⟩;have a8:u.length=P.length:=by have g1:=dU p';have g2:=rv.length;lia
 have a0:P.length<64:=by lia
 unfold ksk_rest;refine c_ (Zw ?_);first|rw[List.forIn_toArray]|(rw[<-aa2];simp![List.toList_toArray])|rw[<-aa2]
 refine c_ (ksk_fold (λi s'=>∃H' zs,N a (δ++[(A,Yi "list" #[] o)]) Θ H' s'/\H' kS=Z (.lst zs)/\(∀k m,k≠kS->g k=Z m->H' k=Z m)/\S a.K H' ((Q.map W.tup).take i) zs) P 0 f ⟨g,[],I,hk,λ_ _ _ s=>s,rfl⟩ ?step ?done);case step=>
  rintro j x s' hx⟨H',zs,I',h',sm,rz⟩;simp![aaf]at rz⊢;have hj:j<P.length:=(u_.mp hx).1;have o':u[j]?=Z (u[j]'()):=r_ ();obtain⟨es,er,eF⟩:=C' j _ o';have t':ζ[j]?=Z (ζ[j]'(by have:=rv.length;lia)):=r_ (by have:=rv.length;lia);have a9:j<ζ.length:=by have:=rv.length;lia
  have a5:j<u.length:=by lia
  obtain⟨m,eu,ru⟩:=rv.get t';rw[hx]at eu;cases eu;have z':∀k ys,g k=Z (.tup ys)->H' k=Z (.tup ys):=λk ys q=>sm k _ (λz=>by rw[z,hk]at q;cases q) q;have rd:Ü a.K H' u[j] ζ[j]:=Ü.tups z' _ _ (mT im o') (reps_at p' j _ _ o' t');refine c_ (YZ (X8 (O3 G hr T' hb I' ru rd h1 eF (ν:=λ_ _=>False)) (λu' s2 he=>?_) λ_ _ z=>z.elim));obtain⟨v',H2,I2,D',k',E'⟩:=he;dsimp!;have n':H2 kS=Z (.lst zs):=k' _ _ h';obtain⟨z,d',n,a',S',ek⟩:=I2.lstM n';have N':zs.length<=62:=by have:=dU rz;simp at this;lia
  have w':d'.length<=62:=by have:=a'.length;lia
  refine c_ (aal ek rfl ?_ (by simp;exact line64 ()) (by simp;lia));have i':∀k ys,H2 k=Z (.tup ys)->(å H2 kS (.lst (zs++[v']))) k=Z (.tup ys):=λk ys q=>by rw[aq (λz=>by rw[z,n']at q;cases q)];exact q
  obtain⟨n2,e'⟩:∃n2,(s2.heap.update kS (XX (·.push u'))).get? kS=Z (Yi "list" (d'.toArray.push u') n2):=⟨_,aaR (c:="list") ek (·.push u')⟩;refine i_ ⟨rfl,å H2 kS (.lst (zs++[v'])),zs++[v'],?_,ao,λk m hb q=>?_,?_⟩
  · refine I2.write (t':=s2.toks) (x:=kS) (e:=kS) (o:=.lst (zs++[v'])) (by rw[n'];trivial) (.inl rfl) (λk m hb q=>?_) ⟨_,e'⟩ ?_;·rw[YS _ _ _ _ hb];exact q
    ·refine⟨by simp;exact line64 (),d'++[u'],n2,a'.append (.cons D' .nil),?_⟩;simpa[Yi]using e'
  ·rw[aq hb];exact k' _ _ (sm k m hb q)
  · have B':(Q.map W.tup).take (j+1)=(Q.map W.tup).take j++[.tup es]:=by rw[List.take_add_one,P_,er];rfl
    rw[B'];have g1:S a.K (å H2 kS (.lst (zs++[v']))) ((Q.map W.tup).take j) zs:=S.tups i' _ _ (ue j q') (S.mono k' _ _ rz);have J':ĩ (.tup es)=L:=mT q' (n:=j) (by rw[P_,er];rfl);exact g1.append ⟨v',[],rfl,Ü.tups i' _ _ J' E',rfl⟩
 case done=>
  rintro s'⟨H',zs,I',h',sm,rz⟩;have g':S a.K H' (Q.map W.tup) zs:=by rw[abj (by simp;lia)]at rz;exact rz
  obtain⟨z,d',n,a',S',ek⟩:=I'.lstM h';have N':zs.length=P.length:=by have:=dU g';simp at this;lia
  have w':d'.length=P.length:=by have:=a'.length;lia
  refine c_ (abf ek rfl ?_);obtain⟨fs,f1,R⟩:=nR I' (λr Q'=>(hR r Q').2) g' a';have l':=I'.pin (A,Yi "list" #[] o) ∅;refine TY (Ε:=λi j=>Ċ (fD Q i) (fD Q j)) (o:=n) ek l'.1 m' w' a0 (BC hR) f1 R (λA2 i j x y hA ex ey=>?_) λp b' tk o1 o2 o3 o4=>?_
  · obtain⟨a1,a7,t1,y',q1,q2,q3,q4,q5,q6,q7⟩:=ud I' i x g' a' ex;obtain⟨a2,a6,t2,x',p1,p2,p3,p4,p5,p6,p7⟩:=ud I' j y g' a' ey;have m1:=hR y' (N_ q1);have m2:=hR x' (N_ p1);obtain⟨rs,i1,i2⟩:=qY (A:=A2) (z:=L) I' (by have:=hr.un;lia) (λ_ _ s=>s) (λ_=>m1.2.1) (m1.1.trans m2.1.symm) m1.2.2 q4 p4 q5 p5;refine⟨a1,a2,t1.toArray,t2.toArray,rs,q3,p3,q7,p7,by simpa using i1,?_⟩;have O':t1.toArray.size=t2.toArray.size:=by
     have k1:=q5.length;have k2:=p5.length;have k3:=dU q4;have k4:=dU p4;have k5:(Ĉ y').length=(Ĉ x').length:=by rw[m1.1,m2.1]
     simp[Ĉ]at k5;simp;lia
    rw[O',decide_eq_false (Yx _),i2,kj q1,kj p1]
  · obtain⟨n2,e'⟩:∃n2,(s'.heap.update kS (XX λ_=>#[])).get? kS=Z (Yi "list" #[] n2):=⟨_,aaR (c:="list") ek (λ_=>(#[]:Array B))⟩;have w:=I'.write (t':=tk) (h':=s'.heap.update kS (XX λ_=>#[])) (x:=kS) (e:=kS) (o:=.lst []) (by rw[h'];trivial) (.inl rfl) (λk m hb q=>by rw[YS _ _ _ _ hb];exact q) ⟨_,e'⟩ ⟨XG _,[],n2,.nil,by simpa[Yi]using e'⟩;have W2:=w.unpinned;have r':å H' kS (.lst []) A=U:=by rw[aq m'.symm];exact l'.2.1
    have U':(s'.heap.update kS (XX λ_=>#[])).get? A=Z (Yi "list" #[] o):=by rw[YS _ _ _ _ m'.symm];exact l'.1
    obtain⟨g0,g1,g2,g3⟩:=a3 _ r';have T:=W2.turned (t':=tk) (h':=(s'.heap.update kS (XX λ_=>#[])).update A (XX λ_=>b')) (it:=A) (λk H hb q=>by rw[YS _ _ _ _ hb];exact q) g0 g1 g3.1 g3.2.1 g3.2.2;exact h _ _ p b' _ T r' (λk m hb q=>by rw[aq hb];exact sm k m hb q) (aaR U' λ_=>b') o1 o2 o3 o4
def kl(F:Þ):W%0->((W%0)%0)%1|[]=>Z []|d::r=>match F [d],kl F r with|some (.ok (.tup b)),Z a=>Z (b::a)|_,_=>U
def nU(d:(W%0)%0)(e:W%0):W%0:=(isortB (λa b=>!Ċ b.1 a.1) (d.zip e)).map Prod.snd
def xu(F:Þ)(b:W%0):Rs W%1:=match kl F b with|some a=>if gO a=L/\é b=L/\é (a.map W.tup)=L then .lst (nU a b)%3 else U|none=>U
def qf{F:Þ}:∀{f:W%0}{a:(W%0)%0},kl F f=Z a->a.length=f.length/\∀(i:Nat)(d:W),f[i]?=Z d->∃b,a[i]?=Z b/\F [d]=.tup b%3
 |[],a,h=>by cases h;exact⟨rfl,λi d e=>by simp at e⟩|d::f,a,h=>by
  unfold kl at h;split at h;·rename_i b o j g;cases h;obtain⟨m,k⟩:=qf g;refine⟨by simp[m],λi n e=>?_⟩;cases i with|zero=>simp at e;subst e;exact⟨b,rfl,j⟩|succ i=>exact k i n (by simpa using e)
  ·cases h
def BD{a:(W%0)%0}(d:a.length=u.length):(isortB (λi j=>!(λi j=>Ċ (fD a i) (fD a j)) j i) (y_ u.length)).map (λi=>u.getD i .non)=nU a u:=by
 have e:(y_ u.length).map (λi=>(fD a i,u.getD i .non))=a.zip u:=by
  apply acW;·simp[d]
  ·intro i b f;simp![T_,aaq]at b;simp![Z6,aeg];rw[kj (r_ ())];simp[ZK,b]
 unfold nU;rw[<-e,<-sort_map (i:=λi j=>!(λi j=>Ċ (fD a i) (fD a j)) j i) _ _ λx _ y _=>rfl,XS];rfl
def BE(a:I.get? e=Z Ä):gc [e] I=[(e,Ä)]:=by simp[gc,a]
def O5{w:(W%0)%0}{n:adT->ge->Prop}(G:ö a.prog a.w a.K a.mg a.base Ĳ b e Ç E (ş a.K Â E.length))(hr:ã b D)(o':D.frames=a.A.frames)(Q:ø a.K Ç E [])(h1:E.length=1)(I:N a δ Θ g f)(ho:f.heap.get? A=Z (Yi "list" P.toArray o))(h':g A=U)(a':∀H,H A=U->wF a δ H A)(rv:Ö ζ P)(b':S a.K g u ζ)(im:é u=L)(l':∀(i:Nat)(d:W),u[i]?=Z d->∃es,w[i]?=Z es/\Â [d]=.tup es%3)(k':w.length=u.length)(c':gO w=L)(n':é (w.map W.tup)=L)(h:∀(s':ge)(H:Hp)(p:Nat->Nat)(y:Array B)(c:Nat),N a δ Θ H s'->H A=U->Õ g H->s'.heap.get? A=Z (Yi "list" y c)->y.size=P.length->(∀b,b<P.length->y[b]?=P[p b]?)->(y_ P.length).map p=isortB (λi j=>!(λi j=>Ċ (fD w i) (fD w j)) j i) (y_ P.length)->(∀b,b<P.length->p b<P.length)->n (.done (.ret .none)) s'):xy (B_ a.prog a.w) D (ksk_tree A (.ref e) h_) n ν f:=by
 have i':P.length<64:=by simp![gO,n_,decide_eq_true_eq]at c';have g1:=dU b';have g2:=rv.length;lia
 have ha:A<f.heap.objs.size:=uk ho;obtain⟨g0,g1,g2,g3⟩:=a' _ h';unfold ksk_tree;refine c_ (abf ho rfl ?_);refine c_ (aal ho rfl ?_ (line64 (by simpa using i')));obtain⟨e1,e'⟩:∃e1,(f.heap.update A (XX λ_=>(#[]:Array B))).get? A=Z (Yi "list" #[] e1):=⟨_,aaR ho λ_=>#[]⟩;have I1:=I.turned (t':=f.toks) (h':=f.heap.update A (XX λ_=>(#[]:Array B))) (it:=A) (λk s Q q=>by rw[YS _ _ _ _ Q];exact q) g0 g1 g3.1 g3.2.1 g3.2.2;refine c_ (acr e' rfl ?_);refine c_ (ady ?_ (line64 (by simpa using i')));refine c_ (aby ?_);refine XY ?_;have I2:=I1.kept (t':=f.toks) (h':=(f.heap.update A (XX λ_=>(#[]:Array B))).push (Yi "tuple" P.toArray 0)) λk m q=>l_ _ q;have m':((f.heap.update A (XX λ_=>(#[]:Array B))).push (Yi "tuple" P.toArray 0)).objs.size=f.heap.objs.size+1:=by rw[abu,Z3]
 have fr:g ((f.heap.update A (XX λ_=>(#[]:Array B))).push (Yi "tuple" P.toArray 0)).objs.size=U:=I2.hok.fresh (o_ _);have I3:=I2.laid (t':=f.toks) (h':=((f.heap.update A (XX λ_=>(#[]:Array B))).push (Yi "tuple" P.toArray 0)).push (Yi "list" #[] 0)) (o:=.lst []) (λk m q=>l_ _ q) (o_ _) ⟨XG _,[],0,.nil,rl _ rfl⟩;have d':(((f.heap.update A (XX λ_=>(#[]:Array B))).push (Yi "tuple" P.toArray 0)).push (Yi "list" #[] 0)).get? A=Z (Yi "list" #[] e1):=l_ _ (l_ _ e');have g':((f.heap.update A (XX λ_=>(#[]:Array B))).push (Yi "tuple" P.toArray 0)).objs.size≠A:=by rw[m'];exact aaI (X7 ha)
 have I4:=I3.pinned (fp:=[A]) (λk Q=>by
 have:k=A:=by simpa using Q
 subst this;exact a' _ (by rw[aq g'.symm];exact h')) (λk Q=>by
 have:k=A:=by simpa using Q
 subst this;exact⟨_,d',λv z=>by cases z⟩);rw[BE d']at I4;refine O4 G hr o' Q h1 I4 ao g' rv (S.mono (aG fr _) _ _ b') im l' k' c' n' a' λs' H p y c J ja sm r o1 o2 o3 o4=>h s' H p y c J ja (λk m q=>sm k m (λz=>?_) ?_) r o1 o2 o3 o4;·rw[z,fr]at q;cases q
 ·rw[aq (λz=>by rw[z,fr]at q;cases q)];exact q
def Fj{r:(W%0)%0}(G:ö a.prog a.w a.K a.mg a.base Ĳ b e Ç E (ş a.K Â E.length))(hr:ã (b+2) a.A)(hb:ø a.K Ç E [])(h1:E.length=1)(I:N a δ Θ g f)(n':∀Q':B%0->ge->Prop,(∀h' tk,(∀h o,f.heap.get? h=Z o->h'.get? h=Z o)->f.heap.objs.size<=h'.objs.size->Q' P {f with heap:=h',toks:=tk})->xy (B_ a.prog a.w) a.A.in1 (collect (.ref A)) Q' ν f)(rv:Ö ζ P)(H:S a.K g u ζ)(q':kl Â u=Z r)(k':gO r=L)(im:é u=L)(p':é (r.map W.tup)=L)(q:∀(m:O)(c':V%0)(s:Hp),Õ g s->s m=Z (.lst c')->S a.K s (nU r u) c'->Ê (.ref m) s):xy (B_ a.prog a.w) a.A (call (.builtin "sorted") [.ref A] [(b_ "key",.ref e)]) (EP a δ Θ Ê) ν f:=by
 obtain⟨y,m'⟩:=qf q';have v':u.length=ζ.length:=dU H;have g':ζ.length=P.length:=rv.length;have t':P.length<64:=by simp![gO,n_,decide_eq_true_eq]at k';lia
 refine call_function_entry_kw aeZ aez aeA (ksk_s1 _ _) ?_;unfold Zd.«sorted»;refine c_ (m:=checkCount "sorted" 1 1 _) (i_ ?_);refine c_ (n' _ λn d' up gr=>?_);refine c_ (aby ?_ (line64 t'));have I1:=I.kept (t':=d') (h':=n.push (Yi "list" P.toArray 0)) λh j z=>l_ _ (up h j z);have l':(n.push (Yi "list" P.toArray 0)).get? n.objs.size=Z (Yi "list" P.toArray 0):=rl _ rfl;have r':g n.objs.size=U:=I.hok.fresh (gr);have a':∀s,s n.objs.size=U->wF a δ s n.objs.size:=λs hn=>I.fpOk (gr) hn;refine c_ (XY (wpAny_call_entry_kw adF ⟨_,l',rfl⟩ adj ?body (ksk_l1 _ _)));case body=>
 show xy (B_ a.prog a.w) a.A.in1.in1 (Zd.«list.sort» ⟨[.ref n.objs.size],[(b_ "key",.ref e)]⟩) _ _ _;rw[ksk_t1];refine O5 (f:={f with heap:=n.push (Yi "list" P.toArray 0),toks:=d'}) G (hr.in1.in1) rfl hb h1 I1 l' r' a' rv H im m' y k' p' λs' s p w cc J ja sm k o1 o2 o3 o4=>⟨_,rfl,?_⟩;refine i_ ⟨_,rfl,?_⟩;obtain⟨g0,g1,g2,g3,g4,g5⟩:=a' _ ja;have J2:=J.pinned (fp:=[n.objs.size]) (λh Q=>by
  have:h=n.objs.size:=by simpa using Q
  subst this;exact a' _ ja) (λh Q=>by
  have:h=n.objs.size:=by simpa using Q
  subst this;exact⟨_,k,λv z=>by cases z⟩);rw[BE k]at J2;have hV:Ö ((y_ P.length).map λb=>ζ.getD (p b) .non) w.toList:=by
  refine qe (by simp[o1]) λi v j D eu=>?_;have hi:i<P.length:=by have:=(u_.mp eu).1;simp[o1]at this;lia
  have b':w[i]?=Z j:=by simpa using eu
  rw[o2 i hi]at b';rw[P_,ZY hi]at D;simp![Zp,aap]at D;have hp:p i<ζ.length:=by rw[g'];exact o4 i hi
  have e1:ζ[p i]?=Z v:=by rw[r_ hp,<-D];simp[ZK,hp]
  obtain⟨u',e2,r2⟩:=rv.get e1;rw[e2]at b';cases b';exact r2
 have hR:S a.K s (nU r u) ((y_ P.length).map λb=>ζ.getD (p b) .non):=by
  have hn:P.length=u.length:=by lia
  rw[<-BD y,<-hn,<-o3,XS];refine qd ∅ λi d v ed D=>?_;have hi:i<P.length:=by have:=(u_.mp ed).1;simpa using this
  rw[P_,ZY hi]at ed D;simp![Zp,aap,abA]at ed D;have hp:p i<ζ.length:=by rw[g'];exact o4 i hi
  have i':p i<u.length:=by lia
  refine reps_at (S.mono sm _ _ H) (p i) d v ?_ ?_;·rw[r_ i',<-ed];simp[ZK,i']
  ·rw[r_ hp,<-D];simp[ZK,hp]
 have e':(n.objs.size,Yi "list" w cc)=(n.objs.size,JL w.toList cc):=by simp[Yi,JL]
 rw[e']at J2;obtain⟨w',J3⟩:=N.retrack J2 hV (line64 (by simp;lia)) (λo' z=>by
  exfalso;rcases g3 with g3|g3;·exact absurd (I.ok) (λ_=>by have:=abD (h:=a.s₀.heap) (a:=n.objs.size) (Xx I.sz (gr));rw[this]at z;cases z)
  ·have:=abD (h:=a.s₀.heap) (a:=n.objs.size) g3;rw[this]at z;cases z) g5;refine⟨.ref n.objs.size,_,J3,rfl,q _ _ _ (λh j z=>?_) ao (S.mono (aG ja _) _ _ hR)⟩;exact aG ja _ h j (sm h j z)
end FD
namespace TS
open L2 FD
def okF(a:Nat%0):Bool:=a.all λk=>k !=0&&A_ (k<4)
end TS
namespace FD
open L2 TS
def av(X:C)(N:Str%0)(b:YJ)(a:O)(s:ge)(H:Hp)(d:O%0):C:={X with N:=N,s₀:=s,H₀:=H,env:=compEnvC b (Yu (a+1) b.names (mI b.names X.env [])) a X.env,outer:=X.stack,stack:=X.stack,ex:=d,fn:=λy=>b.names.lookup y==Z .cell,pn:=[],xe:=λ_ _=>False}
structure iQ(osc scope:YJ)(cs:(Str×Nat)%0)(N:Str%0):Prop where
 kind:scope.kind=.function
 one:∀y∈scope.names,y.2=.cell->scope.names.lookup y.1=Z .cell
 names:∀y∈scope.names,y.2=.local->scope.names.lookup y.1=Z .local
 free:∀y∈scope.names,y.2=.free->osc.names.lookup y.1=Z .cell\/osc.names.lookup y.1=Z .free
 caps:∀c∈cs,N[c.2]?=Z c.1/\scope.names.lookup c.1=Z .free
def kW:∀(a:(Str×Z1)%0)(lo:Nat)(b:(Str×O)%0),Yu lo a b=Yu lo a []++b
 |[],_,_=>rfl|(n,k)::r,lo,b=>by
  unfold Yu;split;·rw[kW r _ _,kW r _ [(n,lo)],XM];rfl
  ·exact kW r lo b
def BF:∀{a:(Str×Z1)%0}{lo:Nat}{n:Str}{c:O},(n,c)∈Yu lo a []->(n,ZT)∈a
 |[],_,_,_,h=>(nomatch h)|(m,k)::r,lo,n,c,h=>by
  unfold Yu at h;split at h
  · rename_i b;rw[kW]at h;rcases XD.mp h with q|q;·exact pi _ (BF q)
    · have e:n=m:=by simp at q;exact q.1
      have ek:k=.cell:=by simpa using b
      subst e ek;exact on
  ·exact pi _ (BF h)
def xx:∀{a:(Str×Z1)%0}{lo:Nat}{n:Str},(n,ZT)∈a->((Yu lo a []).lookup n).isSome=L
 |[],_,_,h=>(nomatch h)|(m,k)::r,lo,n,h=>by
  unfold Yu;rcases p_.mp h with e|q;·cases e;rw[if_pos #v[],kW,aai];cases b:(Yu _ r []).lookup m with|some _=>rfl|none=>simp
  · split;·rw[kW,aai];have:=xx (lo:=lo+1) q;cases b:(Yu _ r []).lookup n with|some _=>rfl|none=>rw[b]at this;cases this
    ·exact xx q
def Kp{g:(Str×O)%0}{a:Env}{Q:Env->ge->Prop}(k:ι.kind=.function)(j:Q (newEnv ι f.heap.objs.size e (Yu (f.heap.objs.size+1) ι.names g) d U .none (Z a) ab5) {f with heap:=pushCells (f.heap.push {cls:=.type "dict",data:=.dict #[]}) ι.names}):xy Ì D (adz ι e g [] d U .none (Z a)) Q ν f:=by simp![adz,aef,if_true];refine c_ (wpAny_alloc (c_ (wpAny_layCells _ (λh i b=>rfl) _ _ _ _ ?_)));rw[(Xw ..)];refine c_ ?_;exact i_ (i_ j)
def BG(ok:iQ a.env.scope ι À a.N)(d:N a δ Θ g f)(H:∀j∈η,wF a δ g j)(k':∀j∈η,j<f.heap.objs.size)(hC:f.heap.objs.size<=e)(n':I.Ns e λ_=>U)(D:∀j o,f.heap.get? j=Z o->I.get? j=Z o)(d':CellsOk I (e+1) (Yu (e+1) ι.names [])):N (av a (E++À.map (·.1)) ι e f g η) [] (nJ E.length À Θ) g {f with heap:=I,toks:=b}:=by
 have w:∀n c,(mI ι.names a.env []).lookup n=Z c->a.env.cells.lookup n=Z c:=λn c h=>by
  rcases pJ _ _ h with q|⟨q1,q2⟩;·simp at q
  ·obtain⟨c',e'⟩:=d.ok.has n (ok.free _ q1 rfl);rw[e']at q2;rw[e',q2]<;>rfl
 have lk:∀n c,(av a (E++À.map (·.1)) ι e f g η).env.cells.lookup n=Z c->(n,c)∈Yu _ ι.names []\/((n,ZT)∉ι.names/\(mI ι.names a.env []).lookup n=Z c):=λn c h=>by have e':(Yu _ ι.names _).lookup n=Z c:=h;rw[kW,aai]at e';cases P:(Yu _ ι.names []).lookup n with|some c'=>rw[P]at e';cases e';exact .inl (mem_of_lookup P)|none=>rw[P]at e';refine .inr ⟨λA=>?_,e'⟩;have:=xx (lo:=e+1) A;rw[P]at this;cases this
 have i':=λn c A h=>by show(Yu (e+1) ι.names (mI ι.names a.env [])).lookup n=Z c;rw[kW,aai];cases P:(Yu _ ι.names []).lookup n with|some c'=>exact absurd (BF (mem_of_lookup P)) A|none=>exact h
 have big:=λn c A=>Q_ (Nat.lt_succ_of_le hC) (d'.empty n c A).2;have h':∀n c,(mI ι.names a.env []).lookup n=Z c->c<f.heap.objs.size:=λn c h=>by obtain⟨v,o,ho,_⟩:=d.cell n c (w n c h);exact uk ho
 have inj:∀y z c,(av a _ ι e f g η).env.cells.lookup y=Z c->(av a _ ι e f g η).env.cells.lookup z=Z c->y=z:=λy z c e1 e2=>by
  rcases lk y c e1 with p|⟨_,p⟩<;>rcases lk z c e2 with q|⟨_,q⟩;·exact name_of_addr d'.apart p q
  ·exact absurd (abZ (big y c p) (h' z c q)) (Yx _)
  ·exact absurd (abZ (big z c q) (h' y c p)) (Yx _)
  ·exact d.ok.inj y z c (w y c p) (w z c q)
 refine⟨⟨d.ok.mod,ok.kind,d.ok.glob,d.ok.blt,hC,inj,λy hy=>?_,λy c o' h=>?_,d.ok.hd,d.ok.frames,.inl rfl,λj Q=>⟨λz=>?_,λy c h=>?_⟩,d.bs,Xx d.ok.bsz d.sz,λj o h Q=>?_,λj Q z=>?_,d.stack,d.stkFree⟩,rfl,d.bare,Un.kept D,⟨_,n',λi y v h1 h2 h3=>?_⟩,λy c h=>?_,d.hok.fresh hC,λy c h=>?_,λp hp=>absurd (show p∈([])from hp) ∅,d.hok.kept D,by simp[nJ,av]⟩
 · have A:(y,ZT)∈ι.names\/(y,Y6)∈ι.names:=by
    rcases hy with hy|hy
    · rcases mD hy with q|⟨_,q⟩;·exact .inl q
      ·exact .inr q
    · rcases mD hy with q|⟨q,_⟩;·exact .inr q
      ·cases q
   by_cases b':(y,ZT)∈ι.names;·obtain⟨c,g'⟩:=ZV.mp (xx b');refine⟨c,?_⟩;show(Yu _ ι.names _).lookup y=Z c;rw[kW,aai,g'];rfl
   ·obtain⟨c,g'⟩:=ZV.mp (qN ι.names [] (A.resolve_left b'));exact⟨c,i' y c b' g'⟩
 · rcases lk y c h with p|⟨p,_⟩;·exact aaJ (big y c p)
   ·exact absurd (ij (by simpa[av]using o')) p
 ·have:=k' j Q;rw[z]at this;exact absurd (Q_ this hC) (Yx _)
 · rcases lk y c h with p|⟨_,p⟩;·exactλz=>absurd (abZ (big y c p) (z▸k' j Q)) (Yx _)
   ·exact(H j Q).2.2.2.2.1 y c (w y c p)
 · rcases(H j Q).2.2.2.1 with z|z;·exact d.ok.noex j o h z
   ·exact absurd (Q_ (uk h) (Xx d.ok.bsz z)) (Yx _)
 · rcases p_.mp (d.stkSub j z)with q|q;·exact(H j Q).2.1 q
   ·exact(H j Q).2.2.1 q
 ·obtain⟨k,rfl,h4⟩:=nK h2;have s:(E++À.map _)[E.length+k]?=Z y:=h1;rw[G_ ∅]at s;simp![aa6]at s;rw[P_]at s;cases hc:À[k]? with|none=>rw[hc]at s;simp at s|some c=>
    rw[hc]at s;have ey:c.1=y:=by simpa using s
    subst ey;rw[P_,hc]at h4;simp![Zp,aap]at h4;have p':Θ[c.2]?=Z (Z v):=by cases q:Θ[c.2]? with|none=>rw[q]at h4;simp at h4|some o=>rw[q]at h4;simp at h4;rw[h4]
    obtain⟨hN,hf⟩:=ok.caps c (N_ hc);have hv:=ok.free _ (ij hf) rfl;obtain⟨mm,_,P⟩:=d.loc;obtain⟨u,r,l⟩:=P c.2 c.1 v hN p' (.inr hv);refine⟨u,r,.inr ⟨mE hf,?_⟩⟩;rcases l with⟨l,_⟩|⟨_,m,ha,o,ho,hd⟩
    · have l':a.env.scope.names.lookup c.1=Z _:=l;rcases hv with z|z;·rw[l']at z;cases z
      ·rw[l']at z;cases z
    ·obtain⟨a',m'⟩:=ZV.mp (qN ι.names [] (ij hf));have e2:=w _ _ m';rw[ha]at e2;cases e2;exact⟨m,i' _ _ (λA=>by have z:=ok.one _ A rfl;rw[hf]at z;cases z) m',o,D _ _ ho,hd⟩
 · rcases lk y c h with p|⟨_,p⟩;·exact⟨U,(d'.empty y c p).1⟩
   ·obtain⟨v,o,ho,hd⟩:=d.cell y c (w y c p);exact⟨v,o,D _ _ ho,hd⟩
 · rcases lk y c h with p|⟨_,p⟩;·exact d.hok.fresh (aaJ (big y c p))
   ·exact d.freeC y c (w y c p)
inductive O6(Y:C)(D:O)(fp:O%0)(tn:Nat->O_->Prop)(n:Nat)(Iv:Nat->V%0->L2.St->Hp->Prop)(m:Nat)(s':ge):Prop|mk(i:Nat)(σ':L2.St)(H':Hp)(vs:V%0)(its:B%0)(a:m=n-i)(b:i<=n)(I:N Y [] σ' H' s')(v:Iv i vs σ' H')(t:tn i s'.heap)(f:∀b∈fp,H' b=U)(d:H' D=U)(l:LAt s'.heap D its)(r:Ö vs its):O6 Y D fp tn n Iv m s'
def qg{n':s_}{scope:YJ}(cs:(Str×Nat)%0)(ok:iQ a.env.scope scope cs a.N)(hc:a.calm=L){s2:ge}{it:O}{fp:O%0}{tn:Nat->O_->Prop}{J:It}{H2:Hp}(I2:N a δ Θ H2 s2)(T:DQ a.prog a.w a.K h J fp it tn)(p':tn 0 s2.heap)(R:∀b∈fp,wF a δ H2 b)(n:Nat)(Iv:Nat->V%0->L2.St->Hp->Prop)(U':∀i Q Θ H,Iv i Q Θ H->Q.length<=100000)(h0:Iv 0 [] (nJ E.length cs Θ) H2)(a0:∀Q A P,Iv n Q A P->J.stop n P)(b3:∀i Q A P,i<n->Iv i Q A P->J.go i P)(x':∀d i Q A P x H7,i<n->Iv i Q A P->J.yld i P x H7->∀(Y:C),Y=av a (E++cs.map (·.1)) scope d s2 H2 fp->∀δ s7 u,N Y δ A H7 s7->ß x u->xy (B_ a.prog a.w) a.A (ķ h Y.env u) (λ_ s8=>xy (B_ a.prog a.w) a.A (afq s L λc r=>if r=L then do let ok<-isTrue c Y.env (eval c Y.env);pure (YN ok)else pure (YN r)) (λok s9=>if ok=L then xy (B_ a.prog a.w) a.A (eval v Y.env) (λw h'=>∃yv d' g',N Y δ d' g' h'/\ß yv w/\Iv (i+1) (Q++[yv]) d' g') (λ_ _=>False) s9 else NP Y δ (Iv (i+1) Q) s9) (λ_ _=>False) s8) (λ_ _=>False) s7){RR:B->O->aeL->ge->Prop}(b5:∀(D d:O)(s6:ge)(P:Hp)(d':L2.St)(Q:V%0)(m6:Str->B%1),N a δ Θ (å P D (.lst Q)) s6->P D=U->Iv n Q d' P->s6.heap.Ns d m6->P d=U->d≠D->s2.heap.objs.size<=d->RR (.ref D) d (.ok .next) s6):xy (B_ a.prog a.w) a.A (newList []) (λE' Q'=>xy (B_ a.prog a.w) a.A (adz scope a.env.globals (mI scope.names a.env []) [] a.env.qual U .none (Z a.env)) (λo' O'=>ŭ (B_ a.prog a.w) a.A (.compStart (.ListComp v [⟨h,n',s,0⟩] scope k) 0 (.ref it) E' {o' with scope:=relabel scope a.env}) (RR E' o'.locals) O') a.xe Q') a.xe s2:=by
 have i':∀b∈fp,b<s2.heap.objs.size:=λb m=>by obtain⟨o,ho,_⟩:=T.obj _ _ p' b m;exact uk ho
 refine Xz (Kp ok.kind ?_);dsimp!;generalize t':s2.heap.push {cls:=.type "list",dict:=U,data:=.seq ([]:B%0).toArray}=P2;obtain⟨D,hD⟩:∃D,s2.heap.objs.size=D:=⟨_,rfl⟩;have hC:P2.objs.size=D+1:=by rw[<-t',Xw,hD]
 rw[hC,hD];obtain⟨a',b'⟩:∃j,j=pushCells (P2.push {cls:=.type "dict",data:=.dict #[]}) scope.names:=⟨_,rfl⟩;rw[<-b'];have kp:∀b o,P2.get? b=Z o->a'.get? b=Z o:=λb o e=>by rw[b'];exact pushCells_keeps _ _ b o (l_ _ e)
 have r':∀b o,s2.heap.get? b=Z o->a'.get? b=Z o:=λb o e=>kp b o (t'▸l_ _ e);have a1:LAt a' D []:=⟨0,kp _ _ (by rw[<-t',<-hD];exact rl _ rfl)⟩;have b1:a'.Ns (D+1) λ_=>U:=by rw[b',<-hC];exact(Heap.Ns.new P2 (.type "dict")).keeps (pushCells_keeps _ _)
 have b4:CellsOk a' (D+1+1) (Yu (D+1+1) scope.names []):=by have q:=cellsFrom_ok scope.names (P2.push {cls:=.type "dict",data:=.dict #[]}) (D+1+1) [] ⟨λ_ _ hm=>(nomatch hm),abm⟩ (by rw[Xw,hC];exact o_ _);rw[Xw,hC,<-b']at q;exact q
 have I4:N (av a (E++cs.map (·.1)) scope (D+1) s2 H2 fp) [] (nJ E.length cs Θ) H2 {s2 with heap:=a'}:=BG (b:=s2.toks) ok I2 R i' (by rw[hD];exact aaz D) b1 r' b4;have HD:H2 D=U:=I2.hok.fresh (abi hD);have v':∀b∈fp,b≠D:=λb m=>Jf (hD▸i' b m);obtain⟨Y,hY⟩:∃Y,Y=av a (E++cs.map (·.1)) scope (D+1) s2 H2 fp:=⟨_,rfl⟩;have yE:compEnvC scope (Yu (D+1+1) scope.names (mI scope.names a.env [])) (D+1) a.env=Y.env:=by rw[hY];rfl
 have y1:Y.prog=a.prog:=by rw[hY];rfl
 have y2:Y.w=a.w:=by rw[hY];rfl
 have y3:Y.K=a.K:=by rw[hY];rfl
 have y4:Y.calm=a.calm:=by rw[hY];rfl
 have y5:Y.env.locals=D+1:=by rw[hY];rfl
 have y6:Y.pn=[]:=by rw[hY];rfl
 have y7:Y.ex=fp:=by rw[hY];rfl
 have y8:Y.fs=L2.frs a.stack:=by rw[hY];rfl
 have y9:Y.A=a.A:=by rw[hY];rfl
 have y0:Y.s₀=s2:=by rw[hY];rfl
 rw[<-hY]at I4;have yB:∀{d' H' s'},N Y [] d' H' s'->Un (L2.frs a.stack) fp H2 H' s2.heap s'.heap:=λI=>by rw[hY]at I;exact I.base
 have m':∀s4:ge,s4={s2 with heap:=a'}->ŭ (B_ a.prog a.w) a.A (.compLoop (.ListComp v [⟨h,n',s,0⟩] scope k) 0 (.ref it) (.ref D) (compEnvC scope (Yu (D+1+1) scope.names (mI scope.names a.env [])) (D+1) a.env)) (RR (.ref D) (D+1)) s4:=by
  rintro s4 rfl;rw[yE];refine tf (λg s'=>O6 Y D fp tn n Iv g s') ?_ n ⟨0,nJ E.length cs Θ,H2,[],[],by simp,XG _,I4,h0,T.keep _ _ _ p' λb m o e=>r' b o e,λb m=>(R b m).1,HD,a1,.nil⟩;rintro k0 s5⟨i,A,P,Q,e',rfl,c4,I5,v0,t5,C',D5,l5,v5⟩;have nC:∀b∈fp,b≠Y.env.locals:=λb m=>by rw[y5];exact NR (hD▸i' b m)
  have DL:D≠Y.env.locals:=by rw[y5];exact VS
  have J':D∈Y.ex\/Y.s₀.heap.objs.size<=D:=.inr (by rw[y0];exact abi hD);have k':∀y c,Y.env.cells.lookup y=Z c->c≠D:=λy c e z=>by obtain⟨f,o,ho,hd⟩:=I5.cell y c e;obtain⟨n,q⟩:=l5;subst z;rw[q]at ho;cases ho;cases hd
  have c2:D∉Y.fs:=λz=>by
   rw[y8]at z;rcases p_.mp (I2.stkSub D z)with q|q;·have z2:=I2.lt;rw[hD]at z2;exact Jf z2 q.symm
   ·exact I2.nofs (abi hD) q
  have Dp:wF Y [] P D:=⟨D5,DL,c2,J',k',λp hp=>absurd (show p∈([]:(O×Obj)%0)by rw[y6]at hp;exact hp) ∅⟩;have c1:∀b∈[D],∃o,s5.heap.get? b=Z o/\∀f,o.data≠.cell f:=λb m=>by cases S_.mp m;obtain⟨n,q⟩:=l5;exact⟨_,q,λf z=>by cases z⟩
  have I':N Y (gc [D] s5.heap) A P s5:=I5.pinned (fp:=[D]) (λb m=>by cases S_.mp m;exact Dp) c1;have a8:∀b∈fp,∀p∈Y.pn++gc [D] s5.heap,p.1≠b:=λb m p hp z=>by rw[y6]at hp;exact v' b m (z.symm.trans (S_.mp (nv hp).1))
  have u':∀{H'},(∀b∈fp,H' b=U)->∀b∈fp,wF Y (gc [D] s5.heap) H' b:=λq b m=>⟨q b m,nC b m,I4.ok.exfs b (by rw[y7];exact m),.inl (by rw[y7];exact m),(I4.ok.exf b (by rw[y7];exact m)).2,a8 b m⟩;have T':=U' _ _ _ _ v0;have c3:Q.length=e'.length:=v5.length;by_cases l':i<n
  · have A':=T.item Y y1 y2 y3 (y4.trans hc) i (gc [D] s5.heap) s5 A P;rw[y9]at A';refine í (A' _ I' (u' C') t5 (b3 i Q A P l' v0)) λr s6⟨u,hr,h6⟩=>?_;subst hr;refine í h6 λ_ s7⟨xv,H7,I7,r7,a4,t7,b8⟩=>?_;have b9:=I7.pinned (fp:=fp) (u' b8) (T.obj _ _ t7);have D':∀{c':L2.St}{H8:Hp}{s8:ge},N Y (gc [D] s5.heap++gc fp s7.heap) c' H8 s8->tn (i+1) s8.heap/\(∀b∈fp,H8 b=U)/\H8 D=U/\LAt s8.heap D e':=λ{c' H8 s8}I8=>by obtain⟨n,q⟩:=l5;have qD:=I8.pin (D,_) (q_ _ (R_ _ (eP ∅ q)));refine⟨T.keep _ _ _ t7 λb m o e=>(I8.pin (b,o) (q_ _ (q_ _ (eP m e)))).1,λb m=>?_,qD.2.1,n,qD.1⟩;obtain⟨o,e,_⟩:=T.obj _ _ t7 b m;exact(I8.pin (b,o) (q_ _ (q_ _ (eP m e)))).2.1
    refine X8 (x' (D+1) i Q A P xv H7 l' v0 a4 Y hY _ s7 u b9 r7) (λ_ s8 h8=>X8 h8 (λg s9 h9=>?_) λ_ _ z=>X9 z) λ_ _ z=>X9 z;cases g with|true=>
     rw[if_pos rfl]at h9⊢;refine X8 h9 (λw h'⟨yv,c',g',w',R',a5⟩=>?_) λ_ _ z=>X9 z;obtain⟨a6,a2,N',b0⟩:=D' w';refine yu b0 () λb6 a9 y'=>?_;have a3:N Y (gc fp s7.heap) c' g' h':=w'.pins_of λp hp=>w'.pin p (q_ _ (q_ _ hp));have c0:N Y (gc fp s7.heap) c' g' {h' with heap:=b6}:=a3.turned (t':=h'.toks) y' N' DL J' k' λp hp z=>by rw[y6]at hp;exact v' p.1 (nv hp).1 z
     exact⟨n-(i+1),by lia,i+1,c',g',Q++[yv],e'++[w],rfl,l',c0.pins_of λp hp=>(nomatch hp),a5,T.keep _ _ _ a6 λb m o e=>y' b o (v' b m) e,a2,N',a9,v5.append (.cons R' .nil)⟩|false=>rw[if_neg H_]at h9⊢;obtain⟨c',H9,I9,v9⟩:=h9;obtain⟨t9,b7,D9,l9⟩:=D' I9;exact⟨n-(i+1),by lia,i+1,c',H9,Q,e',rfl,l',I9.pins_of λp hp=>(nomatch hp),v9,t9,b7,D9,l9,v5⟩
  · have b2:i=n:=by lia
    subst b2;have B':=T.done Y y1 y2 y3 (y4.trans hc) i (gc [D] s5.heap) s5 A P;rw[y9]at B';refine í (B' _ I' (u' C') t5 (a0 Q A P v0)) λr s6⟨hr,I6⟩=>?_;subst hr;have l6:LAt s6.heap D e':=by obtain⟨n,q⟩:=l5;exact⟨n,(I6.pin (D,_) (q_ _ (eP ∅ q))).1⟩
    obtain⟨m6,n6,_⟩:=I6.loc;have C6:P (D+1)=U:=y5▸I6.free;rw[y5]at n6;have a7:ð a.prog a.w (å P D (.lst Q)) s6.heap D (.lst Q):=by obtain⟨n,q⟩:=l6;exact⟨bC T',e',n,v5,q⟩
    have u6:=yB (I6.pins_of λp hp=>(nomatch hp));have nD:∀b o,s2.heap.get? b=Z o->b≠D:=λb o e=>by
     have m:b<D:=by rw[<-hD];exact uk e
     exact Jf m
    have u7:Un (L2.frs a.stack) fp H2 (å P D (.lst Q)) s2.heap s6.heap:=⟨u6.keep,u6.slot,λb o e n hx=>by rw[aq (nD b o e)];exact u6.free b o e n hx,u6.there,λb xs q=>by have q':=u6.tups b xs q;rw[aq (aA q' D5)];exact q',λb o u q=>by have q':=u6.frzs b o u q;rw[aq (aA q' D5)];exact q',λb ps q=>by obtain⟨S',q'⟩:=u6.tbls b ps q;exact⟨S',by rw[aq (aA q' D5)];exact q'⟩⟩;have z':=I6.hok;rw[y1,y2]at z';have I7:N a δ Θ (å P D (.lst Q)) s6:=I2.call' (s':=s6) (ch:=fp) (by have:=I6.os;rw[y0]at this;exact this) u7 (č.add z' D5 C6 (λb u _ q=>q) a7) I6.bare λb m=>⟨(R b m).2.2.2.1,(R b m).2.1,(R b m).2.2.2.2.1,(R b m).2.2.2.2.2⟩;exact b5 D (D+1) s6 P A Q m6 I7 D5 v0 n6 C6 (YH VS) (by rw[hD];exact aaz D)
 exact codeAny_compStart_list (m' _ rfl) (T.self _ 0 _ _ _ (T.keep _ _ _ p' λb m o e=>r' b o e) (m' _ rfl))
def Fk{b:W->Ev->Ev%1}{e:W%0}(h:oQ b Í z ε (m::u)=Z e):∃a k,b m ε=Z a/\(match Í with|none=>(L%3:Rs Bool%1)|some t=>t a)=k%3/\((k=L/\∃y d,z a=y%3/\oQ b Í z ε u=Z d/\e=y::d)\/(k=h_/\oQ b Í z ε u=Z e)):=by
 unfold oQ at h;split at h;·cases h
 · rename_i a i;split at h
   · rename_i f;refine⟨a,L,i,f,.inl ⟨rfl,?_⟩⟩;split at h
     · rename_i y j;split at h;·rename_i d g;cases h;exact⟨y,d,j,g,rfl⟩
       ·cases h
     ·cases h
   ·rename_i f;exact⟨a,h_,i,f,.inr ⟨rfl,h⟩⟩
   ·cases h
def Fm(h:uX a s Í){p:(O×Obj)%0}{d:ge}{e:L2.St}{H:Hp}{g:Ev}{k:Bool}(I:N a p e H d)(E:â a.K H e g)(n:(match Í with|none=>(L%3:Rs Bool%1)|some t=>t g)=k%3){Q:Bool->ge->Prop}(o:∀m q,Õ H q->N a p e q m->Q k m):xy (B_ a.prog a.w) a.A (afq s L λc r=>if r=L then do let ok<-isTrue c a.env (eval c a.env);pure (YN ok)else pure (YN r)) Q a.xe d:=by cases Í with|none=>cases((h));cases n;exact wpAny_tests_nil (o d H (.refl H) I)|some t=>obtain⟨c,rfl,j⟩:=h;exact wpAny_tests_one (X8 (j.h _ d e H (λb f=>b=k/\Õ H f) I ⟨_,E,by rw[show t g=_ from n];exactλf i=>⟨rfl,i⟩⟩) (λb u⟨f,w,v,i⟩=>v▸o u f i w) λ_ _ z=>z)
inductive IvC(K:d_)(cap:Ev)(b:W->Ev->Ev%1)(tst:ñ%1)(fe:Û)(ds ys:W%0)(H2:Hp)(i:Nat)(vs:V%0)(σ:L2.St)(H:Hp):Prop|mk(es zs:W%0)(E:â K H σ cap)(r:S K H es vs)(l:es.length<=i)(g:i<=ds.length)(e:Õ H2 H)(z:oQ b tst fe cap (ds.drop i)=Z zs)(y:es++zs=ys):IvC K cap b tst fe ds ys H2 i vs σ H
def BH{b:W->Ev->Ev%1}{ys:W%0}{js:Nat%0}(l':FG a h b)(i':FE a v z)(h':uX a s Í)(Q:∀d b',b d ε=Z b'->fgt js b'=ε){H2 H5 H7:Hp}{i:Nat}{vs:V%0}{A:L2.St}{x:V}{d:W}{f:B}{f':(O×Obj)%0}{s7:ge}(d':i<u.length)(e:IvC a.K ε b Í z u ys H2 i vs A H5)(e':Õ H5 H7)(hd:u[i]?=Z d)(rd:Ü a.K H7 d x)(I7:N a f' A H7 s7)(r7:ß x f):xy (B_ a.prog a.w) a.A (ķ h a.env f) (λ_ s8=>xy (B_ a.prog a.w) a.A (afq s L λc r=>if r=L then do let ok<-isTrue c a.env (eval c a.env);pure (YN ok)else pure (YN r)) (λok s9=>if ok=L then xy (B_ a.prog a.w) a.A (eval v a.env) (λw c'=>∃yv a' g,N a f' a' g c'/\ß yv w/\IvC a.K ε b Í z u ys H2 (i+1) (vs++[yv]) a' g) a.xe s9 else NP a f' (IvC a.K ε b Í z u ys H2 (i+1) vs) s9) a.xe s8) a.xe s7:=by
 obtain⟨es,zs,E5,r5,q',_,e5,hz,ez⟩:=e;rw[gf hd]at hz;obtain⟨D,k,hb,ht,m'⟩:=Fk hz;refine í (l'.h _ s7 A H7 x f d ε D I7 r7 rd (E5.mono e') hb) λ_ s8⟨j,H8,I8,o',E8⟩=>?_;have m:=e'.trans o';have n:∀{p:Hp},Õ H8 p->â a.K p j ε:=λ{p}o=>by have q:=â.fgt js (E8.mono o);rw[Q d D hb]at q;exact q
 refine Fm h' I8 E8 ht λs9 p o I9=>?_;rcases m' with⟨rfl,y,k',n',H,rfl⟩|⟨rfl,H⟩;·refine í (i'.h f' s9 j p (λe g=>Õ p g/\Ü a.K g y e) I9 ⟨D,E8.mono o,by rw[n'];exactλe g P E=>⟨P,E⟩⟩) λw c'⟨yv,g,p',g',P,E⟩=>?_;have I:=o.trans P;exact⟨yv,j,g,p',g',es++[y],k',n I,(S.mono (m.trans I) _ _ r5).append ⟨yv,[],rfl,E,rfl⟩,by rw[X2,adt];lia,d',e5.trans (m.trans I),H,by rw[XM];exact ez⟩
 ·exact⟨j,p,I9,es,zs,n o,S.mono (m.trans o) _ _ r5,by lia,d',e5.trans (m.trans o),H,ez⟩
def xz{q:s_}{b:W->Ev->Ev%1}{a':(B->Sem Unit)%1}(g':YJ)(m P:Str%0)(js:Nat%0)(y:(Str×Nat)%0)(i':a.env.scope=g')(hN:a.N=m)(ok:iQ g' ι y m)(o':Zn ι a.env=pure (mI ι.names a.env []))(hc:a.calm=L)(c':∀A d e',b d (lC P.length y A)=Z e'->fgt js e'=lC P.length y A)(hi:Ň a h q μ)(n':∀f g H fp,FG (av a (P++y.map (·.1)) ι f g H fp) h b)(l':∀f g H fp,(∃f' σ,N a f' σ H g)->FE (av a (P++y.map (·.1)) ι f g H fp) v z)(k':∀f g H fp,(∃f' σ,N a f' σ H g)->uX (av a (P++y.map (·.1)) ι f g H fp) s Í)(hs:∀x,V_ q a.env x=pure x){f':(O×Obj)%0}{g:ge}{σ:L2.St}{H:Hp}{A:Ev}{Q:B->ge->Prop}{QL:W%0->Prop}(I:N a f' σ H g)(E:â a.K H σ A)(o:match bB P.length y μ b Í z A with|none=>False|some (.exc c)=>XW a c H|some (.ok d)=>∃n,d=.lst n/\QL n)(hk:∀n D f s6 p vs m6,QL n->N a f' σ (å p D (.lst vs)) s6->p D=U->Õ H p->S a.K p n vs->s6.heap.Ns f m6->wF a f' (å p D (.lst vs)) f->compPost (B_ a.prog a.w) a.A a.xe a' Q (.ref D) f (.ok .next) s6):xy (B_ a.prog a.w) a.A (comprehension (.ListComp v [⟨h,q,s,0⟩] ι k) ι a.env w (newList []) h_ (eval q a.env) a') Q a.xe g:=by
 subst i' hN;have key:ĺ a H (μ A) λJ H'=>∃ds n,Õ H H'/\WkG a.K J ds H'/\ds.length<=100000/\n.length<=100000/\oQ b Í z (lC P.length y A) ds=Z n/\QL n:=by match ho:bB P.length y μ b Í z A with
 |none=>rw[ho]at o;exact o.elim|some r=>
  rw[ho]at o;rcases Tj ho with⟨c,e1,e2⟩|⟨ds,n,e1,e2,l1,l2,e3⟩;·subst e2;rw[e1];exact o
  ·subst e3;rw[e1];obtain⟨s',ey,o⟩:=o;cases ey;exactλJ H' e wk=>⟨ds,n,e,wk,l1,l2,e2,o⟩
 refine acw (use:=a') rfl hs o' ok.kind ok.names (í (hi.h f' g σ H _ I ⟨A,E,key⟩) λj s1 h1=>í h1 λt' s2 h2=>?_);obtain⟨it,fp,tn,J,H2,e,I2,T,m',R,ds,n,h',wk,v',u',hm,hQ⟩:=h2;subst e;exact qg (E:=P) y ok hc I2 T m' R ds.length (IvC a.K (lC P.length y A) b Í z ds n H2) (λi vs σ H⟨es,_,_,r,l,l2,_,_,_⟩=>by rw[r.length];lia) ⟨[],n,Ao P.length y (E.mono h'),rfl,o_ _,XG _,.refl H2,hm,rfl⟩ (λvs d' p⟨_,_,_,_,_,_,e,_,_⟩=>wk.stop p e) (λi vs d' p b'⟨_,_,_,_,_,_,e,_,_⟩=>wk.go i p e b') (λf i vs d' p x H7 b' j hy Y hY f' s7 u I7 r7=>by
  have e5:Õ H2 p:=by obtain⟨_,_,_,_,_,_,e,_,_⟩:=j;exact e
  obtain⟨p',d,hd,rd⟩:=wk.yld i p x H7 e5 b' hy;subst hY;exact BH (n' f s2 H2 fp) (l' f s2 H2 fp ⟨_,_,I2⟩) (k' f s2 H2 fp ⟨_,_,I2⟩) (c' A) b' j p' hd rd I7 r7) (RR:=λq' f=>compPost (B_ a.prog a.w) a.A a.xe a' Q q' f) λD f s6 p r' vs m6 I6 D5⟨es,zs,_,r5,_,_,e5,hz,ez⟩n6 C6 CD hC=>by rw[Zv]at hz;cases hz;rw[Y1]at ez;subst ez;exact hk es D f s6 p vs m6 hQ I6 D5 (h'.trans e5) r5 n6 (I2.fpOk hC (by rw[aq CD];exact C6))
inductive tFr(X:C)(fc:Û)(σ:L2.St)(H:Hp)(Q:VK):Prop|mk(ρ:Ev)(E:â X.K H σ ρ)(o:match fc ρ with|none=>False|some (.exc c)=>XW X c H|some (.ok d)=>∃ys,d=.lst ys/\∀H5 p vs,Õ H H5->H5 p=U->S X.K H5 ys vs->Q (.ref p) (å H5 p (.lst vs))):tFr X fc σ H Q
def xA{i:s_}{b:W->Ev->Ev%1}(n:YJ)(g m:Str%0)(js:Nat%0)(j:(Str×Nat)%0)(u:a.env.scope=n)(hN:a.N=g)(ok:iQ n ι j g)(c':Zn ι a.env=pure (mI ι.names a.env []))(hc:a.calm=L)(p:∀ρ d r,b d (lC m.length j ρ)=Z r->fgt js r=lC m.length j ρ)(hi:Ň a h i μ)(b':∀f e H q,FG (av a (m++j.map (·.1)) ι f e H q) h b)(y:∀f e H q,(∃P A,N a P A H e)->FE (av a (m++j.map (·.1)) ι f e H q) v z)(w:∀f e H q,(∃P A,N a P A H e)->uX (av a (m++j.map (·.1)) ι f e H q) s Í)(hs:∀x,V_ i a.env x=pure x:=by intro _;lk):PE a (.ListComp v [⟨h,i,s,0⟩] ι k) (tFr a (bB m.length j μ b Í z)):=λP e A H Q I⟨ρ,E,o⟩=>by exact xz n g m js j u hN ok c' hc p hi b' y w hs I E o λys D f s6 H5 vs m6 hQ I6 D5 e5 r5 n6⟨q0,q1,_,q3,q4,q5⟩=>⟨m6,n6,λh7 a'=>⟨.ref D,_,I6.turned (a'.extBut) q0 q1 q3 q4 q5,rfl,hQ _ _ _ e5 D5 r5⟩⟩
def TZ(b:PE a h (tFr a z))(m:∀e d,z e=d%3->∃g,d=.lst g):FE a h z:=⟨λn s j H Q I⟨e,E,o⟩=>b n s j H Q I ⟨e,E,by match f:z e with|none=>rw[f]at o;exact o.elim|some (.exc c)=>rw[f]at o;exact o|some (.ok d)=>rw[f]at o;obtain⟨g,rfl⟩:=m e d f;exact⟨g,rfl,λu p k q i r=>o _ _ (q.trans (aG i _)) ⟨p,k,rfl,ao,S.mono (aG i _) _ _ r⟩⟩⟩⟩
def Fp{m:s_}{b:W->Ev->Ev%1}(p:YJ)(i o:Str%0)(js:Nat%0)(n:(Str×Nat)%0)(w:a.env.scope=p)(hN:a.N=i)(ok:iQ p ι n i)(Q:Zn ι a.env=pure (mI ι.names a.env []))(hc:a.calm=L)(q:∀E d u,b d (lC o.length n E)=Z u->fgt js u=lC o.length n E)(hi:Ň a h m μ)(P:∀g f H r,FG (av a (o++n.map (·.1)) ι g f H r) h b)(A:∀g f H r,(∃I D,N a I D H f)->FE (av a (o++n.map (·.1)) ι g f H r) v z)(y:∀g f H r,(∃I D,N a I D H f)->uX (av a (o++n.map (·.1)) ι g f H r) s Í)(hs:∀x,V_ m a.env x=pure x:=by intro _;lk):FE a (.ListComp v [⟨h,m,s,0⟩] ι k) (bB o.length n μ b Í z):=TZ (xA p i o js n w hN ok Q hc q hi P A y hs) λE d j=>by
 rcases Tj j with⟨c,_,e⟩|⟨_,ys,_,_,_,_,e⟩;·cases e
 ·cases e;exact⟨ys,rfl⟩
def xB{g:s_}{b:W->Ev->Ev%1}(n:YJ)(N m:Str%0)(D:Nat%0)(j:(Str×Nat)%0)(q:a.env.scope=n)(hN:a.N=N)(E:iQ n ι j N)(y:Zn ι a.env=pure (mI ι.names a.env []))(Q:a.calm=L)(o:∀A d p,b d (lC m.length j A)=Z p->fgt D p=lC m.length j A)(P:Ň a h g μ)(w:∀f e H i,FG (av a (m++j.map (·.1)) ι f e H i) h b)(u:∀f e H i,FE (av a (m++j.map (·.1)) ι f e H i) v z)(r:∀f e H i,uX (av a (m++j.map (·.1)) ι f e H i) s Í)(I:∀x,V_ g a.env x=pure x:=by intro _;lk):FE a (.ListComp v [⟨h,g,s,0⟩] ι k) (bB m.length j μ b Í z):=Fp n N m D j q hN E y Q o P w (λf e H i _=>u f e H i) (λf e H i _=>r f e H i) I
def Fq{g:s_}{b:W->Ev->Ev%1}(n:YJ)(N m:Str%0)(D:Nat%0)(j:(Str×Nat)%0)(q:a.env.scope=n)(hN:a.N=N)(E:iQ n ι j N)(y:Zn ι a.env=pure (mI ι.names a.env []))(Q:a.calm=L)(o:∀A d p,b d (lC m.length j A)=Z p->fgt D p=lC m.length j A)(P:Ň a h g μ)(w:∀f e H i,FG (av a (m++j.map (·.1)) ι f e H i) h b)(u:∀f e H i,FE (av a (m++j.map (·.1)) ι f e H i) v z)(r:∀f e H i,uX (av a (m++j.map (·.1)) ι f e H i) s Í)(I:∀x,V_ g a.env x=pure x:=by intro _;lk):PE a (.ListComp v [⟨h,g,s,0⟩] ι k) (tFr a (bB m.length j μ b Í z)):=xA n N m D j q hN E y Q o P w (λf e H i _=>u f e H i) (λf e H i _=>r f e H i) I
def Ft{p:s_}{b:W->Ev->Ev%1}(i:Nat)(l':a.N.Nodup)(m':a.N[i]?=Z d)(h':ŋ a.env.scope d)(n':a.fn d=L\/a.env.scope.names.lookup d=Z .local)(y:YJ)(N u:Str%0)(js:Nat%0)(r:(Str×Nat)%0)(b':a.env.scope=y)(hN:a.N=N)(ok:iQ y ι r N)(o':Zn ι a.env=pure (mI ι.names a.env []))(hc:a.calm=L)(A:∀ρ m P,b m (lC u.length r ρ)=Z P->fgt js P=lC u.length r ρ)(hi:Ň a h p μ)(i':∀g f H q,FG (av a (u++r.map (·.1)) ι g f H q) h b)(d':∀g f H q,FE (av a (u++r.map (·.1)) ι g f H q) v z)(c':∀g f H q,uX (av a (u++r.map (·.1)) ι g f H q) s Í)(k':Yb (.ListComp v [⟨h,p,s,0⟩] ι k) (Z (.Name d w)) Λ.line a.env=pure L:=by lk)(hs:∀x,V_ p a.env x=pure x:=by intro _;lk):PS a (.Assign [.Name d w] (.ListComp v [⟨h,p,s,0⟩] ι k) Λ) (tC a i (bB u.length r μ b Í z)):=λf' f σ H D0 I⟨ρ,E,o⟩=>by
 rw[exec_Assign_Name_used _ _ _ _ k'];refine c_ (ad5 (c_ ?_));refine c_ (X8 (xz y N u js r b' hN ok o' hc A hi i' (λg f H q _=>d' g f H q) (λg f H q _=>c' g f H q) hs I E o λys D g s6 H5 vs m6 hQ I6 D5 e5 r5 n6 FC=>?_) (λ_ s' hq=>i_ (i_ hq)) λ_ _ e=>e);obtain⟨oC,es,ep,Q,a',rC⟩:=id n6;have p':=I6.pinned (λb hb=>by cases S_.mp hb;exact FC) λb hb=>by cases S_.mp hb;exact⟨oC,Q,λn j=>by rw[a']at j;cases j⟩
 refine í (gZ l' m' h' n' _ s6 σ _ (.ref D) _ (λe' H'=>e'=σ.set i _/\H'=å H5 D _) p' rfl ⟨rfl,rfl⟩) λ_ s8⟨q',H8,I8,e1,e2⟩=>?_;subst e1 e2;obtain⟨q0,q1,q2,q3,q4,q5⟩:=FC;exact⟨m6,⟨oC,es,ep,((I8.pin _ (q_ _ (q_ _ (eP ∅ Q)))).1),a',rC⟩,λh9 g'=>⟨_,_,I8.unpinned.turned (g'.extBut) q0 q1 q3 q4 q5,hQ H5 D vs e5 D5 r5⟩⟩
abbrev bW:=(Str×Nat×Str%0×(Þ))%0
def iq{a:Q}{T:(Str×Q)%0}(h:((r,Ò)::T).lookup d=Z a):(d=r/\a=Ò)\/T.lookup d=Z a:=by
 rw[XV]at h;split at h;·rename_i b;exact .inl ⟨abx b,by lia⟩
 ·exact .inr h
structure HA(P:m_)(w:v_)(K:d_)(mg:Str->B%1)(base:O_)(T:bW):Prop where h:∀x e,T.lookup x=Z e->Has P w K mg base x e.1 e.2.1 e.2.2
structure Ā(P:m_)(w:v_)(K:d_)(mg:Str->B%1)(base:O_)(T:bW):Prop where h:∀x e,T.lookup x=Z e->RW P w K mg base x e.1 e.2.1 e.2.2
def O7:HA p n q Ζ I []:=⟨λ_ _ h=>by cases h⟩
def Kq:Ā p n q Ζ I []:=⟨λ_ _ h=>by cases h⟩
def aw{T:bW}(h:Has p n q Ζ I d b E Â)(t:HA p n q Ζ I T):HA p n q Ζ I ((d,b,E,Â)::T):=⟨λx e a=>by
 rcases iq a with⟨rfl,rfl⟩|a;·exact h
 ·exact t.h x e a⟩
def br{T:bW}(h:RW p n q Ζ I d b E Â)(t:Ā p n q Ζ I T):Ā p n q Ζ I ((d,b,E,Â)::T):=⟨λx e a=>by
 rcases iq a with⟨rfl,rfl⟩|a;·exact h
 ·exact t.h x e a⟩
abbrev Kr:=(Str×W%1)%0
def cN(s:String):Str×W%1:=(b_ s,U)
def cI(s:String)(i:Int):Str×W%1:=(b_ s,Z (.int i))
def cS(s z:String):Str×W%1:=(b_ s,Z (.str (b_ z)))
def WV(a:Str->B%1)(x:Str):W%1->Prop|none=>a x=U|some (.int i)=>∃t,a x=Z (.int i t)|some (.str z)=>∃t,a x=Z (.str z t)|_=>False
structure MA(mg:Str->B%1)(C:Kr):Prop where h:∀x o,C.lookup x=Z o->WV mg x o
def MA.no{C:Kr}(h:MA Ζ C)(e:C.lookup d=Z U):Ζ d=U:=h.h d U e
def Ua(K:d_)(q:Str×W%1):Bool:=match q.2,X6 K E_ q.1 with|none,Z U=>L|some (.int i),Z (Z (.int j _))=>i==j|some (.str z),Z (Z (.str y _))=>z==y|_,_=>h_
def O8{K:d_}{f:Str->B%1}{h:O_}(X:K.In h)(G:h.Ns E_ f):∀(C:Kr),C.all (Ua K)=L->MA f C|[],_=>⟨λx o q=>by cases q⟩|(y,o)::C,e=>⟨λx g q=>by
 rw[Y0,n_]at e;rcases iq q with⟨rfl,rfl⟩|q
 · have b:=e.1;unfold Ua at b;dsimp only at b;split at b;·rename_i d;exact PySem.W.mg_none_of X G d
   ·rename_i i j t d;have a:=abx b;subst a;exact⟨t,aak X G d⟩
   ·rename_i z y t d;have a:=abx b;subst a;exact⟨t,aak X G d⟩
   ·cases b
 ·exact(O8 X G C e.2).h x g q⟩
def Fu{T:bW}(u:HA a.prog a.w a.K a.mg a.base T)(m:ã b a.A)(f:(T.lookup d).map (λq=>q.2.2)=Z Â)(r:FA a (h::s) μ)(e:((T.lookup d).all λq=>M' q.1 b&&Œ o q.2.1.length)=L:=by lk)(n:a.env.kindOf d=Z .globalImplicit:=by lk)(j:(d==("__debug__":Str))=h_:=by lk)(p:h%8:=by lk)(i:(Xv w (k_ s a.env)).any (·.1)=h_:=by lk):FE a (.Call (.Name d k) (h::s) [] w) (ae Â o μ):=by cases g:T.lookup d with|none=>rw[g]at f;cases f|some q=>rw[g]at f e;cases f;rw[Y9,n_]at e;exact Ec q.1 _ _ (u.h d q g) m (Ye e.1) n r (Yg e.2) j p i
def BI{T:bW}(v:Ā a.prog a.w a.K a.mg a.base T)(n:ã b a.A)(f:(T.lookup d).map (λq=>q.2.2)=Z Â)(j:a.ex=[])(u:FA a (h::s) μ)(e:((T.lookup d).all λq=>M' q.1 b&&Œ o q.2.1.length)=L:=by lk)(p:a.env.kindOf d=Z .globalImplicit:=by lk)(m:(d==("__debug__":Str))=h_:=by lk)(r:h%8:=by lk)(i:(Xv w (k_ s a.env)).any (·.1)=h_:=by lk):FE a (.Call (.Name d k) (h::s) [] w) (ay Â o μ):=by cases g:T.lookup d with|none=>rw[g]at f;cases f|some q=>rw[g]at f e;cases f;rw[Y9,n_]at e;exact Er q.1 _ _ (v.h d q g) n (Ye e.1) j p u (Yg e.2) m r i
def Ub{b:Kr}(i:MA a.mg b)(e:b.lookup d=Z (Z (.int y)))(f:a.env.kindOf d=Z .globalImplicit:=by lk)(g:(d==("__debug__":Str))=h_:=by lk):FE a (.Name d k) (fC (.int y)):=let⟨_,h⟩:=i.h d _ e;IY f h g
def Uc{b:Kr}(i:MA a.mg b)(e:b.lookup d=Z (Z (.str r)))(f:a.env.kindOf d=Z .globalImplicit:=by lk)(g:(d==("__debug__":Str))=h_:=by lk):FE a (.Name d k) (fC (.str r)):=let⟨_,h⟩:=i.h d _ e;IZ f h g
def Ě:Str%0->Bool|[]=>L|x::r=>!(r.contains x)&&Ě r
def iR:∀{l:Str%0},Ě l=L->l.Nodup|[],_=>adK|x::r,h=>by unfold Ě at h;rw[n_]at h;refine Ys.2 ⟨λb=>?_,iR h.2⟩;have a:=h.1;rw[List.contains_iff_mem.2 b]at a;cases a
def jy(a:YJ)(x:Str):Bool:=match a.names.lookup x with|some .local=>L|some .cell=>L|_=>h_
def fE(h:jy ι d=L):ŋ ι d:=by
 unfold jy at h;split at h;·exact .inl ‹_›
 ·exact .inr ‹_›
 ·cases h
def Fv(b a:YJ)(d:(Str×Nat)%0)(N:Str%0):Bool:=A_ (a.kind=.function)&&A_ (∀y∈a.names,y.2=.cell->a.names.lookup y.1=Z .cell)&&A_ (∀y∈a.names,y.2=.local->a.names.lookup y.1=Z .local)&&A_ (∀y∈a.names,y.2=.free->b.names.lookup y.1=Z .cell\/b.names.lookup y.1=Z .free)&&A_ (∀c∈d,N[c.2]?=Z c.1/\a.names.lookup c.1=Z .free)
def uf{a:YJ}(h:Fv ι a À E=L):iQ ι a À E:=by unfold Fv at h;simp![n_,decide_eq_true_eq]at h;exact⟨h.1.1.1.1,h.1.1.1.2,h.1.1.2,h.1.2,h.2⟩
def lkc{b:Env}:∀{a:(Str×Z1)%0}{x:Str},a.lookup x=Z .cell->(a.map λ(n,k)=>if(k==Y6&&b.scope.kind==.function&&b.kindOf n==Z .cell)then(n,ZT)else(n,k)).lookup x=Z .cell|[],_,h=>by simp at h|(n,k)::r,x,h=>by rw[XV]at h;rw[F_];cases d:x==n with|true=>rw[d]at h;cases h;simp[XV,d]|false=>
 rw[d]at h;have e:=lkc (b:=b) h;dsimp!;split;·rw[XV,d];exact e
 ·rw[XV,d];exact e
def fgL(h:jy ι d=L):ŋ (av a E ι e f g η).env.scope d/\((av a E ι e f g η).fn d=L\/(av a E ι e f g η).env.scope.names.lookup d=Z .local):=by
 rcases fE h with h|h;·exact⟨.inl (adA h),.inr (adA h)⟩
 ·exact⟨.inr (lkc h),.inl (by show(ι.names.lookup d==Z _)=L;rw[h];rfl)⟩
def fgA(b:O)(s:ge)(H:Hp)(h:O%0)(e:Ě E=L)(g:E[0]?=Z d)(f:jy ι d=L):FG (av a E ι b s H h) (.Name d k) (gN 0):=JE 0 (iR e) g (fgL f).1 (fgL f).2
def Ud(q:Ň a (.Name d w) v μ)(i:∀e b H f,FE (av a (d::À.map (·.1)) ι e b H f) h z)(g:∀e b H f,uX (av a (d::À.map (·.1)) ι e b H f) s Í)(j:Fv a.env.scope ι À a.N=L:=by lk)(n:Zn ι a.env=pure (mI ι.names a.env []):=by lk)(r:a.calm=L:=by lk)(m:Ě (d::À.map (·.1))=L:=by lk)(p:jy ι d=L:=by lk)(o:∀d,V_ v a.env d=pure d:=by intro _;lk):FE a (.ListComp h [⟨.Name d w,v,s,0⟩] ι k) (cu À μ Í z):=(Kj (e:=À) (b:=μ) (a:=Í) (d:=z))▸xB a.env.scope a.N [d] [0] À rfl rfl (uf j) n r (JF _) q (λe b H f=>fgA e b H f m rfl p) i g o
def O9{g:Pos}(I:Ň a (.Name d w) v μ)(m:∀f e H i,FE (av a (d::À.map (·.1)) ι f e H i) h z)(j:∀f e H i,uX (av a (d::À.map (·.1)) ι f e H i) s Í)(Q:Ě a.N=L)(u:a.N[b]?=Z r)(n:jy a.env.scope r=L)(y:a.fn r=L)(p:Fv a.env.scope ι À a.N=L)(A:Zn ι a.env=pure (mI ι.names a.env []))(P:a.calm=L)(q:Ě (d::À.map (·.1))=L)(E:jy ι d=L)(o:Yb (.ListComp h [⟨.Name d w,v,s,0⟩] ι k) (Z (.Name r Λ)) g.line a.env=pure L)(D:∀d,V_ v a.env d=pure d):PS a (.Assign [.Name r Λ] (.ListComp h [⟨.Name d w,v,s,0⟩] ι k) g) (tC a b (bB 1 À μ (gN 0) Í z)):=Ft b (iR Q) u (fE n) (.inl y) a.env.scope a.N [d] [0] À rfl rfl (uf p) A P (JF _) I (λf e H i=>fgA f e H i q rfl E) m j o D
def Ue{g:Pos}(I:Ň a (.Name d w) v μ)(j:∀f e H m,FE (av a (d::À.map (·.1)) ι f e H m) h z)(i:∀f e H m,uX (av a (d::À.map (·.1)) ι f e H m) s Í)(o:Yb (.ListComp h [⟨.Name d w,v,s,0⟩] ι k) (Z (.Name r Λ)) g.line a.env=pure L)(Q:Ě a.N=L:=by lk)(u:a.N[b]?=Z r:=by lk)(n:jy a.env.scope r=L:=by lk)(y:a.fn r=L:=by lk)(p:Fv a.env.scope ι À a.N=L:=by lk)(A:Zn ι a.env=pure (mI ι.names a.env []):=by lk)(P:a.calm=L:=by lk)(q:Ě (d::À.map (·.1))=L:=by lk)(E:jy ι d=L:=by lk)(D:∀d,V_ v a.env d=pure d:=by intro _;lk):FS a (.Assign [.Name r Λ] (.ListComp h [⟨.Name d w,v,s,0⟩] ι k) g) (cO b (bB 1 À μ (gN 0) Í z)):=Kk (O9 I j i Q u n y p A P q E o D) Bg
def WW(e:O)(s:ge)(H:Hp)(f:O%0)(n:a.calm=L)(h:Ě E=L)(m:E[0]?=Z d)(j:E[1]?=Z r)(i:jy ι d=L)(g:jy ι r=L)(u:(XH [.Name d k,.Name r w] (av a E ι e s H f).env).map (·.2)=ķ (.Name d k) (av a E ι e s H f).env::(XH [.Name r w] (av a E ι e s H f).env).map (·.2))(q:(XH [.Name r w] (av a E ι e s H f).env).map (·.2)=ķ (.Name r w) (av a E ι e s H f).env::(XH [] (av a E ι e s H f).env).map (·.2))(p:(XH [.Name d k,.Name r w] (av a E ι e s H f).env).length=2)(o:(XH [.Name d k,.Name r w] (av a E ι e s H f).env).findIdx? (·.1)=U):FG (av a E ι e s H f) (.Tuple [.Name d k,.Name r w] b Λ) (gP 0 1):=An 0 1 n (iR h) m (fgL i).1 (fgL i).2 j (fgL g).1 (fgL g).2 u q p o
def Uf{q:Pos}(D:Ň a (.Tuple [.Name d w,.Name r Λ] b q) v μ)(j:∀f e H g,FE (av a (d::r::À.map (·.1)) ι f e H g) h z)(i:∀f e H g,uX (av a (d::r::À.map (·.1)) ι f e H g) s Í)(m:Fv a.env.scope ι À a.N=L:=by lk)(p:Zn ι a.env=pure (mI ι.names a.env []):=by lk)(u:a.calm=L:=by lk)(n:Ě (d::r::À.map (·.1))=L:=by lk)(A:jy ι d=L:=by lk)(o:jy ι r=L:=by lk)(y:∀d,V_ v a.env d=pure d:=by intro _;lk):FE a (.ListComp h [⟨.Tuple [.Name d w,.Name r Λ] b q,v,s,0⟩] ι k) (bB 2 À μ (gP 0 1) Í z):=xB a.env.scope a.N [d,r] _ À rfl rfl (uf m) p u (Tk _) D (λf e H g=>WW f e H g u n rfl rfl A o rfl rfl rfl rfl) j i y
def Fw:∀b s H d,uX (av a E ι b s H d) [] U:=λ_ _ _ _=>rfl
def Fx(d:∀b s H e,FT (av a E ι b s H e) h Ξ):∀b s H e,uX (av a E ι b s H e) [h] (Z Ξ):=λb s H e=>⟨_,rfl,d b s H e⟩
def Pa(e:FE a h z)(d:FE a v Ñ)(b:∀o i,aeS v h_ o i=operate [o,i] (ac1 o i):=by intro _ _;lk):FE a (.Subscript h v k) (R Ø z Ñ):=Ta e d b
def Ks(j:FE a h z)(m:Ě a.N=L:=by lk)(g:a.N[b]?=Z d:=by lk)(e:jy a.env.scope d=L:=by lk)(i:a.fn d=L:=by lk)(f:Yb h (Z (.Name d w)) k.line a.env=pure h_:=by lk):FS a (.Assign [.Name d w] h k) (cO b z):=NJ b (iR m) g (fE e) j f (.inl i)
def Kt(n:FE a h z)(f:a.ex=[]:=by lk)(e:Œ b o=h_:=by lk)(p:Ě a.N=L:=by lk)(j:a.N[o]?=Z d:=by lk)(g:jy a.env.scope d=L:=by lk)(m:a.fn d=L:=by lk)(i:Yb h (Z (.Name d w)) k.line a.env=pure h_:=by lk):Ů a b (.Assign [.Name d w] h k) (iP o z):=Ox f o (abh e) (iR p) j (fE g) n i (.inl m)
def Fy{e:kP}(j:FA a s μ)(h:ų a b Υ e)(n:Ě a.N=L:=by lk)(i:a.N[b]?=Z d:=by lk)(f:jy a.env.scope d=L:=by lk)(m:a.fn d=L:=by lk)(g:Yb (.List s Λ) (Z (.Name d w)) k.line a.env=pure h_:=by lk):Ĩ a (.Assign [.Name d w] (.List s Λ) k::Υ) (EH b μ e):=JV (iR n) i (fE f) j h g (.inl m)
def Ku{e:Nat%0}(i:aaG (B_ a.prog a.w) a.A a.env a.xe)(m:FI a (.Name d w) h μ)(p:Ĩ a Υ Ψ)(o:a.calm=L:=by lk)(q:Ě a.N=L:=by lk)(f:a.N[b]?=Z d:=by lk)(j:jy a.env.scope d=L:=by lk)(n:a.fn d=L:=by lk)(g:∀d,V_ h a.env d=pure d:=by intro _;lk):FS a (.For (.Name d w) h Υ [] k) (NN b e μ Ψ):=NO b e i o m (gZ (iR q) f (fE j) (.inl n)) p g
def Kw{g:Nat%0}{i:kP}(n:aaG (B_ a.prog a.w) a.A a.env a.xe)(q:FI a (.Name d w) h μ)(u:ų a b Υ i)(f:a.ex=[]:=by lk)(e:Œ b o=h_:=by lk)(s:a.calm=L:=by lk)(v:Ě a.N=L:=by lk)(j:a.N[o]?=Z d:=by lk)(p:jy a.env.scope d=L:=by lk)(r:a.fn d=L:=by lk)(m:∀d,V_ h a.env d=pure d:=by intro _;lk):Ů a b (.For (.Name d w) h Υ [] k) (DD o g μ i):=OB f o g (abh e) n s q (gZ (iR v) j (fE p) (.inl r)) u m
def Fz{g:Pos}{i:Nat%0}(q:aaG (B_ a.prog a.w) a.A a.env a.xe)(u:Ň a (.Tuple [.Name d Λ,.Name r w] Δ g) h μ)(y:Ĩ a Υ Ψ)(j:a.calm=L:=by lk)(z:Ě a.N=L:=by lk)(n:a.N[b]?=Z d:=by lk)(s:jy a.env.scope d=L:=by lk)(v:a.fn d=L:=by lk)(m:a.N[o]?=Z r:=by lk)(e:jy a.env.scope r=L:=by lk)(f:a.fn r=L:=by lk)(H:(XH [.Name d Λ,.Name r w] a.env).map (·.2)=ķ (.Name d Λ) a.env::(XH [.Name r w] a.env).map (·.2):=by lk)(E:(XH [.Name r w] a.env).map (·.2)=ķ (.Name r w) a.env::(XH [] a.env).map (·.2):=by lk)(D:(XH [.Name d Λ,.Name r w] a.env).length=2:=by lk)(A:(XH [.Name d Λ,.Name r w] a.env).findIdx? (·.1)=U:=by lk)(p:∀d,V_ h a.env d=pure d:=by intro _;lk):FS a (.For (.Tuple [.Name d Λ,.Name r w] Δ g) h Υ [] k) (Bc (gP b o) i μ Ψ):=Kg i q j u (An b o j (iR z) n (fE s) (.inl v) m (fE e) (.inl f) H E D A) y p
def FB{e:Nat%0}(h:ū a s (MN e))(m:Ě a.N=L:=by lk)(i:a.N[b]?=Z d:=by lk)(f:jy a.env.scope d=L:=by lk)(j:a.fn d=L:=by lk)(g:(XH (.Name d k::s) a.env).map (·.2)=ķ (.Name d k) a.env::(XH s a.env).map (·.2):=by lk):ū a (.Name d k::s) (MN (b::e)):=JH b (iR m) i (fE f) (.inl j) h g
def lQ(i:a.N[b]?=Z d)(f:jy a.env.scope d=L)(g:(d==("__debug__":Str))=h_)(e:(d==("__classdict__":Str))=h_):PE a (.Name d k) (zv b):=zw i ((fE f).elim .inl λh=>.inr (.inl h)) g e
def Kx{j:Pos}(q:FE a h z)(o:PE a (.Name d w) (zv b))(n:a.ex=[]:=by lk)(g:X_ (.Name d w) "append" a.env (eval (.Name d w) a.env)=eval (.Name d w) a.env:=by lk)(i:((Xv Λ (k_ [h] a.env)).all (λd=>!d.1)&&(Y_ Λ (Yq [] a.env)).all (λd=>d.1.isSome)&&A_ ([h].length+([]:Zc%0).length+(if([]:Zc%0).isEmpty then 0 else 1)<30))=L:=by lk)(f:(j.endLine==Λ.line)=L:=by lk)(p:k_ [h] a.env=(h_,eval h a.env)::k_ [] a.env:=by lk)(e:(Xv Λ (k_ [] a.env)).any (·.1)=h_:=by lk)(m:Yb (.Call (.Attribute (.Name d w) "append" j) [h] [] Λ) U k.line a.env=pure h_:=by lk):Ů a b (.Expr (.Call (.Attribute (.Name d w) "append" j) [h] [] Λ) k) (EF z):=OA n o q g i f p e m
structure SmL(X:C)(o:s_)(name:Str)(e:s_)(es:s_%0)(apos cpos:Pos):Prop where
 base:X_ o name X.env (eval o X.env)=eval o X.env
 few:((Xv cpos (k_ (e::es) X.env)).all (λx=>!x.1)&&(Y_ cpos (Yq [] X.env)).all (λx=>x.1.isSome)&&A_ ((e::es).length+([]:Zc%0).length+(if([]:Zc%0).isEmpty then 0 else 1)<30))=L
 line:(apos.endLine==cpos.line)=L
 s:k_ (e::es) X.env=(h_,eval e X.env)::k_ es X.env
 plain:(Xv cpos (k_ es X.env)).any (·.1)=h_
def ug{f:String}{r:V->V%0->Hp->VK->Prop}{g:Str->Þ}(e:Slot "str" d f)(j:aeF (.builtin f)=pure (.type "method_descriptor"))(p:ś a f r)(q:∀i n m H Q,S a.K H n m->õ a H (g i n) Q->r (.str i) m H Q)(o:FE a h z)(u:FA a (v::s) μ)(b:SmL a h d v s k w):FE a (.Call (.Attribute h d k) (v::s) [] w) (fM g z μ):=Jt e j p q o u b.base b.few b.line b.s b.plain
section
open PySem.W
structure CA(K:d_)(mg:Str->B%1)(cls:Nat->O)(CJ:O)(S:Nat%0)(m:Nat):Prop where at_:∀c∈S,mg (Į c)=Z (.ref (cls c))j:mg "JarError"=Z (.ref CJ)xk:∀c C,c<m->nsIn K E_ (Į c)=Z (Z (.ref C))->excIn K C ů "ValueError.__new__"=L/\mroIn K C (.ref CJ)=Z L
def CA.c{K:d_}{b:Str->B%1}{a:Nat->O}{f:O}{S:Nat%0}{m c:Nat}{x:Str}(h:CA K b a f S m)(e:c∈S)(d:Į c=x):b x=Z (.ref (a c)):=by subst d;exact h.at_ c e
def nsB(K:d_)(x:Str)(a:O):Bool:=match nsIn K E_ x with|some (Z (.ref b))=>Œ a b|_=>h_
def HU(h:nsB q d e=L):nsIn q E_ d=Z (Z (.ref e)):=by
 unfold nsB at h;split at h;·rename_i b a;rw[a,Yg h]
 ·cases h
def caB(K:d_)(S:Nat%0)(a:O%0)(b:O)(m:Nat):Bool:=S.all (λc=>nsB K (Į c) (a.getD c 0))&&nsB K "JarError" b&&TM K S a b&&(y_ m).all λc=>S.contains c||(match nsIn K E_ (Į c)with|some U=>L|_=>h_)
def Ug{S:Nat%0}(X:q.In I)(G:I.Ns E_ Ζ)(a:caB q S η e b=L):ē q S (λc=>η.getD c 0) e/\CA q Ζ (λc=>η.getD c 0) e S b:=by
 unfold caB at a;rw[n_,n_,n_]at a;obtain⟨⟨⟨o,n⟩,m⟩,k⟩:=a;have j:=λc g=>HU (XQ.1 o c g);have h:=EK j m;refine⟨h,λc g=>mg_of X G (j c g),mg_of X G (HU n),λc C g d=>?_⟩;have f:=XQ.1 k c (X5.2 g);rw[ae6]at f;rcases f with f|f
 · have i:c∈S:=by simpa using f
   rw[h.same i d];exact⟨(h.at_ c i).2.1,(h.at_ c i).2.2.2.1⟩
 ·rw[d]at f;cases f
end
noncomputable abbrev nsM(K:d_)(x:Str):(B%1)%1:=X6 K E_ x
structure Af(K:d_)(x:Str)(st:Yd)(f:O):Prop where
 a:nsM K x=Z (Z (.ref f))F:∃fd,Ń K x x st f fd
 k:Yv K (.ref f)=L
def fnB(N P:Str%0)(a:YJ):Bool:=A_ (a.kind=.function)&&!a.isCoroutine&&!a.isGenerator&&Ě N&&A_ (N.take P.length=P)&&P.all (jy a)&&A_ (∀y∈a.names,y.2≠.free)
def Ky{P:Str%0}(h:fnB E P ι=L):iL E P ι:=by unfold fnB at h;simp![n_,decide_eq_true_eq,aar]at h;exact⟨h.1.1.1.1.1.1,h.1.1.1.1.1.2,h.1.1.1.1.2,iR h.1.1.1.2,h.1.1.2,λx a=>fE (XQ.1 h.1.2 x a),h.2⟩
def Sa(x:Str)(b:Yd)(f:Str%0):Prop:=∀(kV d g:B)(i:O%1)(e h:B)(a:B%0),a.length=f.length->aep (Zb x x (iO b) (bS b) (au b) .none kV d g i e h) ⟨a,[]⟩=pure (f.zip a)
def aO{h:O_}(u:q.In h)(v:h.Ns E_ Ζ)(N g:Str%0)(i:á)(A:Af q d Γ e)(j:Sa d Γ g)(o:∀(f:B)(A:x_)(a:Env%0)(s:ge)(H:Hp)(E:XK),ã b (A.deeper (ĸ d (au Γ) s.heap.objs.size e f))->Ĩ (qK Ĳ p n q Ζ I N d (au Γ) e f A a s H E).nox (bS Γ) i)(r:Â=bL N.length i:=by lk)(m:fnB N g (au Γ)=L:=by lk):Has p n q Ζ I d (b+1) g Â:=let⟨_,k⟩:=A.F;⟨_,_,NQ N g i r rfl k (Ky m) o,aak u v A.a,A.k,k.binds j⟩
def bT{h:O_}(u:q.In h)(v:h.Ns E_ Ζ)(N g:Str%0)(i:á)(A:Af q d Γ e)(j:Sa d Γ g)(o:∀(f:B)(A:x_)(a:Env%0)(s:ge)(H:Hp)(E:XK),ã b (A.deeper (ĸ d (au Γ) s.heap.objs.size e f))->Ĩ (qK (Ļ p n) p n q Ζ I N d (au Γ) e f A a s H E) (bS Γ) i)(r:Â=gJ N.length i:=by lk)(m:fnB N g (au Γ)=L:=by lk):RW p n q Ζ I d (b+1) g Â:=let⟨_,k⟩:=A.F;⟨_,_,Hz N g i r rfl k (Ky m) o,aak u v A.a,A.k,k.binds j⟩
def Kz:Yz (b_ "list")=Z (.type "list"):=by decide+kernel
def bdL(x:Str)(a:Yd)(n:Nat)(f b e:B)(i:O%1)(d h:B)(g:Nat->B):Sem ((Str×B)%0):=aep (Zb x x (iO a) (bS a) (au a) .none f b e i d h) ⟨(y_ n).map g,[]⟩
def bdR(a:Str%0)(n:Nat)(_ _ _:B)(_:O%1)(_ _:B)(g:Nat->B):Sem ((Str×B)%0):=pure (a.zip ((y_ n).map g))
def KB(a:B%0):a=(y_ a.length).map λi=>a.getD i .none:=by refine acW ∅ λi b d=>?_;simp[b]
def aD(h:bdL d Γ E.length=bdR E E.length:=by lk):Sa d Γ E:=λkV a f k b j e g=>by have q:=congrFun (congrFun (congrFun (congrFun (congrFun (congrFun (congrFun h kV) a) f) k) b) j) λi=>e.getD i .none;unfold bdL bdR at q;rw[<-g,<-KB e]at q;exact q
end FD
namespace TS
open L2 FD
def Uh(p q:B)(e l:Bool):Prop:=∀(a:m_)(w:v_)(A:x_)(E:B->ge->Prop)(s:ge),(∀Q:Bool->ge->Prop,Q e s->xy (B_ a w) A (eqBool p q) Q E s)/\(∀Q:B->ge->Prop,Q (.bool l) s->xy (B_ a w) A (richCompare .Gt p q) Q E s)
inductive qh:(B×B)%0->(Bool×Bool)%0->Prop|nil:qh [] []|cons{p q:B}{e l:Bool}{ps:(B×B)%0}{rs:(Bool×Bool)%0}:Uh p q e l->qh ps rs->qh ((p,q)::ps) ((e,l)::rs)
def HV:Int%0->Int%0->Bool|x::b,y::a=>if x=y then HV b a else A_ (y<x)|_,_=>h_
def qi:∀{e f:Int%0}{d b:B%0},e.length=f.length->Ö (e.map V.int) d->Ö (f.map V.int) b->∃g,qh (d.zip b) g/\(dR g).getD h_=HV e f
 |[],[],d,b,_,v,n=>by cases v;exact⟨[],.nil,rfl⟩|k::e,j::f,d,b,r,v,n=>by cases v with|cons o v2=>cases n with|cons m i=>obtain⟨g,q,i2⟩:=qi (by simpa using r) v2 i;obtain⟨t,rfl⟩:=o;obtain⟨p,rfl⟩:=m;refine⟨_,.cons (λa w A E s=>⟨(xl s.heap A h_ k j t p a w E s rfl).1,λQ h=>(PyProof.Rows.gt_int h)⟩) q,?_⟩;rw[gm,i2];simp[HV]
 |[],_::_,_,_,h,_,_=>by simp at h|_::_,[],_,_,h,_,_=>by simp at h
section
open PySem.SeqAt
open PySem.AutoSeq1(wpAny_loadPart')
open PySem.MeetsSeq PySem.MeetsSeq2 PySem.MeetsSeq3
def BJ(l b:O)(j f:Array B)(n n2:Nat)(dd I:O%1)(sl E:Array (B%1))(v:(Bool×Bool)%0)(hi:qh (j.toList.zip f.toList) v)(hz:j.size=f.size):Meets (Zd.«tuple.__gt__» ⟨[.ref l,.ref b],[]⟩) (λ_ a s=>s.heap.get? l=Z {cls:=.type "tuple",dict:=dd,data:=.seq j n,slots:=sl}/\s.heap.get? b=Z {cls:=.type "tuple",dict:=I,data:=.seq f n2,slots:=E}/\a (.ok (.ret (.bool ((dR v).getD h_)))) s):=.of_wp λm w A a s h=>by
 obtain⟨z,g,d,u,os⟩:=s;obtain⟨hl,hb,h⟩:=h;have R:=acE;wp_walk using abH hl,abH hb,aaD _ (λrest b p=>b.1=U/\p=⟨z,g,d,u,os⟩/\∃k,qh rest k/\a (.ok (.ret (.bool ((dR k).getD h_)))) ⟨z,g,d,u,os⟩) _;case turn=>rintro⟨y,x⟩rest b p⟨o,rfl,k,D,q⟩;cases D with|cons i r=>rename_i e lw P;rw[gm]at q;refine c_ ((i m w _ _ _).1 _ ?_);cases e with|true=>wp_walk;exact⟨rfl,rfl,_,r,by simpa using q⟩|false=>have H:=λQ h=>(i m w A.in1 (λe p=>a (.error e) p) ⟨z,g,d,u,os⟩).2 Q h;wp_walk using H;exact⟨_,rfl,by simpa using q⟩
 case fin=>rintro⟨b1,b2⟩p⟨o,rfl,k,D,q⟩;simp only at o;subst o;cases D;wp_walk;exact⟨_,rfl,by simpa[abo,hz,dR]using q⟩
 case h=>exact⟨rfl,rfl,v,hi,h⟩
end
end TS
namespace FD
open L2 TS
def gtT:W->W->Rs W%1|.tup e,.tup d=>(match w8 e,w8 d with|some a,Z b=>if a.length=b.length then .bl (HV a b)%3 else U|_,_=>U)|_,_=>U
def V2:R2:=λx y H Q=>∃a b d e,x=.ref a/\y=.ref b/\H a=Z (.tup (d.map V.int))/\H b=Z (.tup (e.map V.int))/\d.length=e.length/\Q (.bl (HV d e)) H
def nV{K:d_}{H:Hp}:∀{d:W%0}{b:Int%0}{a:V%0},w8 d=Z b->S K H d a->a=b.map V.int|[],b,a,h,r=>by cases h;exact((r))|.int x::d,b,a,h,r=>by obtain⟨v,e,rfl,g,f⟩:∃v e,a=v::e/\Ü K H _ v/\S K H d e:=r;cases((g));obtain⟨j,i,rfl⟩:=YQ.mp ((h));rw[nV i f];rfl|.non::_,_,_,h,_=>by cases h|.bl _::_,_,_,h,_=>by cases h|.str _::_,_,_,h,_=>by cases h|.tup _::_,_,_,h,_=>by cases h|.lst _::_,_,_,h,_=>by cases h|.scr _::_,_,_,h,_=>by cases h|.exn _::_,_,_,h,_=>by cases h|.obj _ _::_,_,_,h,_=>by cases h
def Ui(hu:a.A.units+64<cLine):ă a (XZ .Gt) V2:=by
 intro f' s σ H x y v u Q I rx P h;obtain⟨d,b,ns,ms,rfl,rfl,ha,hb,hl,q⟩:=h;cases rx;cases P;obtain⟨f,p,p1,_⟩:=I.tuple (û.of ha);obtain⟨e,o,p2,_⟩:=I.tuple (û.of hb);obtain⟨rs,i1,i2⟩:=qi hl p o;obtain⟨⟨a',dd,A,E⟩,r,z,n,w⟩:=id p1;obtain⟨⟨D,m,data2,k⟩,g,j,n2,i⟩:=id p2;simp only at z w j i;subst z w j i;have hz:f.toArray.size=e.toArray.size:=by have e1:=p.length;have e2:=o.length;simp at e1 e2⊢;lia
 rw[<-i2]at q;exact ac0 (op:=.Gt) ⟨_,r,rfl⟩ ⟨_,g,rfl⟩ PySem.F.slot_tuple_gt PySem.F.entry_tuple_gt (PySem.F.args_tuple_gt_2 _ _) (BJ d b f.toArray e.toArray n n2 dd m E k rs i1 hz) ⟨r,g,(⟨(λx=>nomatch x),.bl _,H,I,rfl,q⟩)⟩ ()
def Uj:Ĝ a V2 gtT:=by
 intro s q x y H Q h g o;cases s<;>cases q<;>try exact((o)).elim
 simp![gtT]at o;split at o
 · rename_i j k p n;split at o;·rename_i m;obtain⟨d,v,rfl,f,r⟩:=h.tupE;obtain⟨b,u,rfl,e,i⟩:=g.tupE;rw[nV p r]at f;rw[nV n i]at e;exact⟨d,b,j,k,rfl,rfl,f,e,m,o _ H (.refl H) rfl⟩
   ·exact o.elim
 ·exact o.elim
def ix(k:Int):Int%0->Nat|[]=>0|m::r=>if m=k then 0 else ix k r+1
def er(k:Int):Int%0->Int%0|[]=>[]|m::r=>if m=k then r else m::er k r
structure S2(X:C)(i k:Nat)(a b:O)(H:Hp)(σ:L2.St)(Hf:Hp)(ρ:Ev):Prop where
 off:∀c,c≠a->c≠b->Hf c=H c
 na:H a=U
 nb:H b=U
 ne:a≠b
 ia:σ[i]?=Z (Z (.ref a))kb:σ[k]?=Z (Z (.ref b))len:σ.length=ρ.length
 low:∀j d,j≠i->j≠k->ρ[j]?=Z (Z d)->∃v,σ[j]?=Z (Z v)/\Ü X.K H d v
 fst:∃ds xs,ρ[i]?=Z (Z (.lst ds))/\Hf a=Z (.lst xs)/\S X.K H ds xs
 snd:∃es ys,ρ[k]?=Z (Z (.lst es))/\Hf b=Z (.lst ys)/\S X.K H es ys
abbrev FnP:=Ev->Ev%1
end FD
namespace L2
def yG[DecidableEq Q](a:(Q×V)%0)(k:Q):V%1:=(a.find? λb=>A_ (b.1=k)).map (·.2)
def yH[DecidableEq Q](a:(Q×V)%0)(k:Q)(v:V):(Q×V)%0:=if(a.any λb=>A_ (b.1=k))=L then a.map (λb=>if b.1=k then(b.1,v)else b)else a++[(k,v)]
def mV[DecidableEq Q]{p:Q×V}{r:(Q×V)%0}{k:Q}(e:p.1=k):yG (p::r) k=Z p.2:=by simp[yG,e]
def mW[DecidableEq Q]{p:Q×V}{r:(Q×V)%0}{k:Q}(e:¬p.1=k):yG (p::r) k=yG r k:=by simp[yG,e]
def xD{b:Type}[DecidableEq b](k:b):∀a:(b×V)%0,(a.any λd=>A_ (d.1=k))=(yG a k).isSome
 |[]=>rfl|p::r=>by
  rw[Ze];by_cases e:p.1=k;·simp![mV e,decide_eq_true e,Bool.true_or,aef]
  ·rw[mW e,decide_eq_false e];exact xD k r
def nW[DecidableEq Q](a:(Q×V)%0)(k:Q)(v:V):(yH a k v).length<=a.length+1:=by
 unfold yH;split;·rw[T_];omega
 ·rw[X2,Xu,ae3];omega
def đ.isSome_eq{o:V%1}{u:B%1}(r:đ o u):o.isSome=u.isSome:=by cases o with
 |none=>cases u with|none=>rfl|some _=>exact((r)).elim
 |some _=>cases u with|none=>exact((r)).elim|some _=>rfl
def đ.getD{o:V%1}{u:B%1}(r:đ o u)(a:ß υ ω):ß (o.getD υ) (u.getD ω):=by cases o with
 |none=>cases u with|none=>exact a|some _=>exact((r)).elim
 |some _=>cases u with|none=>exact((r)).elim|some _=>exact r
def KV.val[DecidableEq Q]{a:(Q×V)%0}{g:(Q×B)%0}(r:KV a g)(k:Q):đ (yG a k) (aej g k):=by induction r with|nil=>exact ZP|@cons p q n d h t j=>
 obtain⟨i,m⟩:=h;by_cases e:p.1=k
 · have f:=i.symm.trans e;have b:aej (q::d) k=Z q.2:=by simp[aej,f]
   rw[mV e,b];exact m
 · have f:¬q.1=k:=λz=>e (i.trans z);have b:aej (q::d) k=aej d k:=by simp[aej,f]
   rw[mW e,b];exact j
def KV.any[DecidableEq Q]{a:(Q×V)%0}{d:(Q×B)%0}(r:KV a d)(k:Q):(a.any λb=>A_ (b.1=k))=d.any λb=>A_ (b.1=k):=by induction r with|nil=>rfl|cons h t e=>rw[Ze,Ze,e,h.1]
def KV.repl[DecidableEq Q]{b:(Q×V)%0}{f:(Q×B)%0}(r:KV b f)(k:Q){y:V}{u:B}(g:ß y u):KV (b.map λa=>if a.1=k then(a.1,y)else a) (f.map λa=>if a.1=k then(a.1,u)else a):=by induction r with|nil=>exact .nil|@cons p q n m h t i=>
 rw[F_,F_];refine .cons ?_ i;obtain⟨d,j⟩:=h;by_cases e:p.1=k;·rw[if_pos e,if_pos (d.symm.trans e)];exact⟨d,g⟩
 ·rw[if_neg e,if_neg (λz=>e (d.trans z))];exact⟨d,j⟩
def KV.put[DecidableEq Q]{a:(Q×V)%0}{b:(Q×B)%0}(r:KV a b)(k:Q){y:V}{u:B}(d:ß y u):KV (yH a k y) (stored b k u):=by
 unfold yH stored;rw[r.any k];by_cases e:(b.any λf=>A_ (f.1=k))=L;·rw[if_pos e,if_pos e];exact r.repl k d
 ·rw[if_neg e,if_neg e];exact Paired.snoc r ⟨rfl,d⟩
def KV.length[DecidableEq Q]{a:(Q×V)%0}{b:(Q×B)%0}(r:KV a b):a.length=b.length:=acA r
def KC{k:þ}(r:ß (kV k) ω):(eI p n).is k ω=L:=by cases k with|inl i=>obtain⟨t,e⟩:=((r));subst e;exact u0 p n i t|inr x=>obtain⟨t,e⟩:=((r));subst e;exact u5 p n x t
def uh{P:m_}{w:v_}:∀{a:þ%0}{b:B%0},Ö (a.map kV) b->ItemsAre (eI P w) a b|[],_,r=>by cases r;exact .nil|k::a,_,r=>by cases r with|cons h t=>exact .cons (KC h) (uh t)
abbrev KT(H:Hp):(þ%0×V)%0->(þ%0×O×B)%0->Prop:=afk λp q=>p.1=q.1/\H q.2.1=Z (.tup (p.1.map kV))/\ß p.2 q.2.2
def KT.val{a:(þ%0×V)%0}{i:(þ%0×O×B)%0}(r:KT g a i)(k:þ%0):đ (yG a k) ((afg i k).map (·.2)):=by induction r with|nil=>exact ZP|@cons p q o d h t m=>
 obtain⟨j,_,n⟩:=h;by_cases e:p.1=k
 · have f:=j.symm.trans e;have b:afg (q::d) k=Z q.2:=by simp[afg,f]
   rw[mV e,b];exact n
 · have f:¬q.1=k:=λz=>e (j.trans z);have b:afg (q::d) k=afg d k:=by simp[afg,f]
   rw[mW e,b];exact m
def KT.repl{a:(þ%0×V)%0}{f:(þ%0×O×B)%0}(r:KT g a f)(k:þ%0){y:V}{u:B}(j:ß y u):KT g (a.map λd=>if d.1=k then(d.1,y)else d) (f.map (putAt k u)):=by induction r with|nil=>exact .nil|@cons p q s o h t m=>
 rw[F_];refine .cons ?_ m;obtain⟨b,i,n⟩:=h;unfold putAt;by_cases e:p.1=k;·rw[if_pos e,if_pos (b.symm.trans e)];exact⟨b,i,j⟩
 ·rw[if_neg e,if_neg (λz=>e (b.trans z))];exact⟨b,i,n⟩
def KT.put{a:(þ%0×V)%0}{d:(þ%0×O×B)%0}(r:KT g a d)(k:þ%0){b:O}{y:V}{u:B}(i:g b=Z (.tup (k.map kV)))(f:ß y u):KT g (yH a k y) (storedH d k b u):=by
 have e:(a.any λh=>A_ (h.1=k))=(afg d k).isSome:=by rw[xD,(r.val k).isSome_eq,Option.isSome_map]
 unfold yH storedH;rw[e];by_cases q:(afg d k).isSome=L;·rw[if_pos q,if_pos q];exact r.repl k f
 ·rw[if_neg q,if_neg q];exact Paired.snoc r ⟨rfl,i,f⟩
def KT.keeps{a:(þ%0×V)%0}{e:(þ%0×O×B)%0}(r:KT g a e)(f:∀b d,g b=Z (.tup d)->ξ b=Z (.tup d)):KT ξ a e:=Paired.mapP r λ_ _ z=>⟨z.1,f _ _ z.2.1,z.2.2⟩
def Pb(b:č p n g I)(a:Rd g e Î):ð p n g I e Î:=a.ok b
def KG{b:(þ×V)%0}(f:č p n g I)(a:Rd g e (.dK b)):b.length<=sizeLine/\(e==ZQ)=h_/\∃d,KV b d/\I.DictOf (eI p n) e d:=(Pb f a)
def Uk{b:(þ×V)%0}(f:č p n g I)(a:g e=Z (.dK b)):b.length<=sizeLine/\(e==ZQ)=h_/\∃d,KV b d/\I.DictOf (eI p n) e d:=KG f (.inl a)
def fR{f:þ%0}(h:č p n g I)(b:g e=Z (.tup (f.map kV))):(adO (eI p n)).is I f e:=by obtain⟨_,d,r,o,k,j,a,i⟩:=((h e _ b));exact⟨o,d.toArray,a,k,j,i,by simpa using uh r⟩
def KH{f:(þ%0×V)%0}(i:č p n g I)(a:Rd g e (.dT f)):f.length<=sizeLine/\(e==ZQ)=h_/\∃h,KT g f h/\I.DictOfH (adO (eI p n)) e h:=by
 obtain⟨z,y,h,r,o,D,E,A,w,v,u,s⟩:=((Pb i a));refine⟨z,y,h,r,o,D,E,A,w,v,u,λx d=>?_,s⟩;have all:∀{l:_%0}{m:_%0},KT g l m->∀x∈m,(adO (eI p n)).is I x.1 x.2.1:=by intro l m q;induction q with|nil=>intro x d;exact nomatch d|@cons b q P H j t k=>
  intro x d;rcases p_.mp d with a|d;·subst a;exact fR i (by rw[<-j.1];exact j.2.1)
  ·exact k x d
 exact all r x d
def Pc{b:(þ%0×V)%0}(f:č p n g I)(a:g e=Z (.dT b)):b.length<=sizeLine/\(e==ZQ)=h_/\∃d,KT g b d/\I.DictOfH (adO (eI p n)) e d:=KH f (.inl a)
def ż(H:Hp)(a:O)(y:V)(r:V%1):Prop:=(∃d k,Rd H a (.dK d)/\y=kV k/\r=yG d k)\/∃d k b,Rd H a (.dT d)/\y=.ref b/\H b=Z (.tup (k.map kV))/\r=yG d k
def ź(H:Hp)(a:O)(y v:V)(e:Hp):Prop:=(∃d k,H a=Z (.dK d)/\y=kV k/\d.length<sizeLine/\e=å H a (.dK (yH d k v)))\/∃d k b,H a=Z (.dT d)/\y=.ref b/\H b=Z (.tup (k.map kV))/\d.length<sizeLine/\e=å H a (.dT (yH d k v))
def ż.t{b:(þ%0×V)%0}{k:þ%0}(a:g e=Z (.dT b))(d:g A=Z (.tup (k.map kV))):ż g e (.ref A) (yG b k):=.inr ⟨b,k,A,.inl a,rfl,d,rfl⟩
def ź.t{b:(þ%0×V)%0}{k:þ%0}(a:g e=Z (.dT b))(f:g A=Z (.tup (k.map kV)))(d:b.length<sizeLine):ź g e (.ref A) υ (å g e (.dT (yH b k υ))):=.inr ⟨b,k,A,a,rfl,f,d,rfl⟩
def N.big(I:N a δ Τ g f):ZQ<f.heap.objs.size:=by exact abZ #v[] ((I.mod.glob.keeps I.bk).lt)
def BK(h:N a δ Τ g f)(j:Mut (g e))(k:YO e f.heap I)(m:∃q,I.get? e=Z q)(i:ð a.prog a.w (å g e Î) I e Î):N a δ Τ (å g e Î) {f with heap:=I,toks:=b}:=h.write j (.inl rfl) (λd q n z=>(k.2 d n).trans z) m i
def Pd{a:(þ×V)%0}{b:(þ×B)%0}(z:a.length<=sizeLine)(f:(e==ZQ)=h_)(d:KV a b)(h:I.DictOf (eI p n) e b):ð p n g I e (.dK a):=⟨z,f,b,d,h⟩
def BL{v:V}{r:B}{Q:Unit->ge->Prop}(hu:D.units+1<cLine)(I:N a δ Τ g f)(i:ź g e υ v ξ)(E:ß υ ω)(H:ß v r)(h:∀A,N a δ Τ ξ A->Q Unit.unit A):xy (B_ a.prog a.w) D (setItem (.ref e) ω r) Q ν f:=by
 rcases i with⟨n,k,d,u,l,w⟩|⟨n,k,b,d,u,eb,l,w⟩
 · subst u w;obtain⟨z,s,vs,j,y⟩:=Uk I.hok d;have hz:vs.length<=sizeLine:=by rw[<-j.length];exact z
   refine wpAny_setItem_pairs (KC E) y λh' m p=>h _ ?_;exact BK I (by rw[d];exact ZP) p (let⟨q,_,_,o,_⟩:=m;⟨q,o⟩) (Pd (by have:=nW n k v;omega) s (j.put k H) m)
 · subst u w;cases((E));obtain⟨z,s,xs,j,y⟩:=Pc I.hok d;have hz:xs.length<=sizeLine:=by rw[<-acA j];exact z
   refine wpAny_setItem_heap (tupleKind_room_in1 hu) (fR I.hok eb) y λh' m p=>h _ ?_;obtain⟨q,es,ep,o,h2,h3,h4,_,h5⟩:=m;refine BK I (by rw[d];exact ZP) p ⟨q,o⟩ ⟨(by have:=nW n k v;omega),s,_,(j.put k eb H).keeps λc ys P=>?_,q,es,ep,o,h2,h3,h4,h5⟩;rw[aq (So P d (λz=>nomatch z))];exact P
def Ul(g e f:TE):TS:=λD b H=>f b H λv j=>g b j λx i=>e b i λy h=>∃a d,x=.ref a/\ź h a y v d/\D.nx b d
def KI{f:s_}{m n:TE}(hu:a.A.units+1<cLine)(ho:PE a h Ρ)(hi:PE a v m)(hv:PE a f n)(hs:Yb f (Z (.Subscript h v w)) k.line a.env=pure h_):PS a (.Assign [.Subscript h v w] f k) (Ul Ρ m n):=by intro j s i H D I b;refine wpAny_Assign_Subscript (í (hv j s i H _ I b) λr p⟨e,H1,I1,A,Q⟩=>í (ho j p i H1 _ I1 Q) λu o⟨x,H2,I2,z,P⟩=>í (hi j o i H2 _ I2 P) λiv s3⟨y,H3,I3,q,d,H4,ex,g,E⟩=>?_) hs;subst ex;obtain rfl:u=U_ d:=z;exact BL hu I3 g q A λs4 I4=>⟨i,H4,I4,E⟩
def FF(h:O_)(a:ZQ<h.objs.size):ð p n g (h.push {cls:=.type "dict",data:=.dict #[]}) h.objs.size (.dT []):=⟨XG _,beq_eq_false_iff_ne.mpr (YH (D_ a)),[],.nil,_,#[],0,rl _ rfl,⟨rfl,rfl,rfl⟩,rfl,rfl,adK⟩
def Pe:TE:=λ_ H Q=>∀p,H p=U->Q (.ref p) (å H p (.dT []))
def FH:PE a (.Dict [] [] k) Pe:=λd s b H Q I h=>wpAny_Dict_empty ⟨.ref s.heap.objs.size,_,I.laid (λ_ _ q=>l_ _ q) (o_ _) (FF s.heap I.big),rfl,h _ (I.hok.fresh (o_ _))⟩
structure M2(X:C)(o:s_)(m:Str)(apos:Pos)(e f:s_)(cpos:Pos):Prop where
 base:X_ o m X.env (eval o X.env)=eval o X.env
 few:((Xv cpos (k_ [e,f] X.env)).all (λx=>!x.1)&&(Y_ cpos (Yq [] X.env)).all (λx=>x.1.isSome)&&A_ (([e,f]:s_%0).length+([]:Zc%0).length+(if([]:Zc%0).isEmpty then 0 else 1)<30))=L
 line:(apos.endLine==cpos.line)=L
 trees:Xv cpos (k_ [e,f] X.env)=[(h_,eval e X.env),(h_,eval f X.env)]
def IsD(H:Hp)(a:O):Prop:=(∃b,Rd H a (.dK b))\/∃b,Rd H a (.dT b)
def HW(I:N a δ Τ g f)(d:IsD g e):f.TypeIs (.ref e) "dict"/\(∀b,U_ e=.ref b->∃i,f.heap.get? b=Z i/\i.dict=U)/\(e==ZQ)=h_:=by
 rcases d with⟨o,h⟩|⟨o,h⟩;·obtain⟨_,k,r,_,j⟩:=KG I.hok h;refine⟨j.typeIs,λb q=>?_,k⟩;cases q;obtain⟨i,_,_,n,m,_⟩:=j;exact⟨i,n,m.2.1⟩
 ·obtain⟨_,k,p,_,j⟩:=KH I.hok h;refine⟨j.typeIs,λb q=>?_,k⟩;cases q;obtain⟨i,_,_,n,m,_⟩:=j;exact⟨i,n,m.2.1⟩
def Pf{d:V}{r:B}{o:V%1}(E:D.units+1<cLine)(I:N a δ Τ g f)(j:ż g e υ o)(w:ß υ ω)(y:ß d r)(h:∀u v,N a δ Τ g v->ß (o.getD d) u->Å u v):xy (B_ a.prog a.w) D (call (.builtin "dict.get") [.ref e,ω,r]) Å ν f:=by
 rcases j with⟨s,k,i,q,l⟩|⟨s,k,b,i,q,H,l⟩;·subst q;obtain⟨z,p,P,m,n⟩:=KG I.hok i;refine call_meetsIn abr n.typeIs ac8 (acQ _ _ _) (meets_dict_get_default _ e (KC w) p r) ⟨_,n.mapOf,h _ _ (I.tok _) ?_⟩;rw[l];exact(m.val k).getD y
 ·subst q;cases((w));obtain⟨z,p,A,m,n⟩:=KH I.hok i;refine call_meetsIn abr n.typeIs ac8 (acQ _ _ _) (meetsH_dict_get_default _ e b p r) ⟨tupleKind_room_in1 E,k,A,fR I.hok H,n,h _ _ (I.tok _) ?_⟩;rw[l];exact(m.val k).getD y
def Pg(h f g:TE):TE:=λb H Q=>h b H λx e=>∃a,x=.ref a/\IsD e a/\f b e λy i=>g b i λz d=>∃o,ż d a y o/\Q (o.getD z) d
def FJ{f:s_}{o p:TE}(hu:a.A.units+1<cLine)(ho:PE a h Ρ)(he:PE a v o)(hf:PE a f p)(m:M2 a h "get" k v f w):PE a (.Call (.Attribute h "get" k) [v,f] [] w) (Pg Ρ o p):=by intro j s i H Q I b;refine wpAny_Call_method m.base m.few m.line acP abr PySem.F.type_dict_get (í (ho j s i H _ I b) λu E⟨x,H1,q,rx,e,ex,d,q1⟩=>?_);subst ex;obtain rfl:u=U_ e:=rx;obtain⟨A,r,_⟩:=HW q d;refine⟨A,r,?_⟩;rw[m.trees];exact aad rfl (abF (ZA (í (he j E i H1 _ q q1) λiv D⟨y,H2,I2,ry,q2⟩=>ZA (í (hf j D i H2 _ I2 q2) λfv s3⟨z,H3,I3,P,ov,g,q3⟩=>aao (Pf hu I3 g ry P λw' s4 I4 n=>⟨_,H3,I4,n,q3⟩)))))
end L2
namespace FD
open L2
abbrev Kv:=(Str%0×W)%0
def NoD(u:HO):Prop:=∀a,u≠.dT a
mutual
theorem Ü.off{K:d_}{H j:Hp}(k:∀b u,NoD u->H b=Z u->j b=Z u):∀(d:W)(v:V),Ü K H d v->Ü K j d v|.non,_,h=>h|.bl _,_,h=>h|.int _,_,h=>h|.str _,_,h=>h|.tup e,v,h=>by obtain⟨a,g,r,h,q⟩:=h.tupE;exact⟨a,g,r,k _ _ (λ_ z=>by cases z) h,S.off k e g q⟩|.lst e,v,h=>by obtain⟨a,g,r,h,q⟩:=h.lstE;exact⟨a,g,r,k _ _ (λ_ z=>by cases z) h,S.off k e g q⟩|.scr m,v,h=>by obtain⟨a,r,h⟩:∃a,v=.ref a/\SqF K H a (m.map V.int):=h;exact⟨a,r,h.imp (λ⟨o,h⟩=>⟨o,k _ _ (λ_ z=>by cases z) h⟩) id⟩|.exn c,v,h=>by obtain⟨a,o,u,C,r,h,q⟩:∃a o u C,v=.ref a/\H a=Z (.frz o u)/\o.cls=.ref C/\X6 K E_ (Į c)=Z (Z (.ref C)):=h;exact⟨a,o,u,C,r,k _ _ (λ_ z=>by cases z) h,q⟩|.obj c e,v,h=>by obtain⟨a,C,p,f,r,h,n,q,l⟩:=h.objE;exact⟨a,C,p,f,r,k _ _ (λ_ z=>by cases z) h,n,S.off k e f q,l⟩theorem S.off{K:d_}{H j:Hp}(k:∀b u,NoD u->H b=Z u->j b=Z u):∀(e:W%0)(f:V%0),S K H e f->S K j e f|[],_,h=>h|d::e,f,h=>by obtain⟨v,i,r,h,q⟩:∃v i,f=v::i/\Ü K H d v/\S K H e i:=h;exact⟨v,i,r,Ü.off k d v h,S.off k e i q⟩end
def kS(k:Str%0):þ%0:=k.map acY
def BM{j:Str%0}(h:kS E=kS j):E=j:=(List.map_inj_right λa b h=>Sum.inr.inj h).mp h
def HX(a:Kv)(k:Str%0)(d:W):Kv:=if(a.any λp=>A_ (p.1=k))=L then a.map (λp=>if p.1=k then(p.1,d)else p)else a++[(k,d)]
def BN(a:Kv)(k:Str%0):W%1:=(a.find? λp=>A_ (p.1=k)).map (·.2)
inductive KD(K:d_)(H:Hp):Kv->(þ%0×V)%0->Prop|nil:KD K H [] []|cons{k:Str%0}{d:W}{v:V}{kv:Kv}{kvs:(þ%0×V)%0}:Ü K H d v->KD K H kv kvs->KD K H ((k,d)::kv) ((kS k,v)::kvs)
def KD.mono{K:d_}{H e:Hp}(f:∀d v,Ü K H d v->Ü K e d v):∀{b:Kv}{a:(þ%0×V)%0},KD K H b a->KD K e b a|_,_,.nil=>.nil|_,_,.cons r t=>.cons (f _ _ r) (KD.mono f t)
def KD.length{K:d_}{H:Hp}:∀{b:Kv}{a:(þ%0×V)%0},KD K H b a->b.length=a.length|_,_,.nil=>rfl|_,_,.cons r t=>by rw[Xu,Xu,KD.length t]
def KD.any{K:d_}{H:Hp}(k:Str%0):∀{b:Kv}{a:(þ%0×V)%0},KD K H b a->(a.any λp=>A_ (p.1=kS k))=b.any λp=>A_ (p.1=k)|_,_,.nil=>rfl|_,_,.cons (k:=j) r t=>by rw[Ze,KD.any k t];congr 1;rw[Yt];simp![decide_eq_true_eq];exact⟨BM,λh=>by rw[h]⟩
def KD.map{K:d_}{H:Hp}{k:Str%0}{d:W}{v:V}(b:Ü K H d v):∀{e:Kv}{a:(þ%0×V)%0},KD K H e a->KD K H (e.map λp=>if p.1=k then(p.1,d)else p) (a.map λp=>if p.1=kS k then(p.1,v)else p)
 |_,_,.nil=>.nil|_,_,.cons (k:=j) r t=>by
  rw[F_,F_];by_cases h:j=k;·subst h;simp![if_true];exact .cons b (KD.map b t)
  ·have f:¬kS j=kS k:=λz=>h (BM z);simp![h,f];exact .cons r (KD.map b t)
def KD.snoc{K:d_}{H:Hp}{k:Str%0}{d:W}{v:V}(b:Ü K H d v):∀{e:Kv}{a:(þ%0×V)%0},KD K H e a->KD K H (e++[(k,d)]) (a++[(kS k,v)])|_,_,.nil=>.cons b .nil|_,_,.cons r t=>.cons r (KD.snoc b t)
def KD.put(b:Ü q g m υ){d:Kv}{a:(þ%0×V)%0}(t:KD q g d a):KD q g (HX d E m) (yH a (kS E) υ):=by
 unfold HX yH;rw[t.any E];split;·exact KD.map b t
 ·exact KD.snoc b t
def KD.val{K:d_}{H:Hp}(k:Str%0):∀{b:Kv}{a:(þ%0×V)%0},KD K H b a->(match BN b k with|some d=>∃v,yG a (kS k)=Z v/\Ü K H d v|none=>yG a (kS k)=U)
 |_,_,.nil=>rfl|_,_,.cons (k:=j) (d:=d) (v:=v) (kv:=b) (kvs:=a) r t=>by
  by_cases h:j=k
  · subst h;have e:BN ((j,d)::b) j=Z d:=by simp[BN]
    rw[e];exact⟨v,(mV rfl),r⟩
  · have e:BN ((j,d)::b) k=BN b k:=by simp[BN,h]
    rw[e,(mW λz=>h (BM z))];exact KD.val k t
def ť(a:O)(H d:Hp):Prop:=∀b u,b≠a->H b=Z u->d b=Z u
structure T1(X:C)(i:Nat)(a:O)(H:Hp)(σ:L2.St)(ρ:Ev)(kv:Kv):Prop where
 ia:σ[i]?=Z (Z (.ref a))no:∀d,ρ[i]?≠Z (Z d)env:â X.K H σ ρ
 dct:∃kvs,H a=Z (.dT kvs)/\KD X.K H kv kvs
def T1.mono{h:Kv}(T:T1 a b e g Θ ε h)(d:Õ g ξ):T1 a b e ξ Θ ε h:=by obtain⟨f,j,i⟩:=T.dct;exact⟨T.ia,T.no,T.env.mono d,f,d _ _ j,i.mono (Ü.mono d)⟩
def T1.set{i:Nat}{b:Kv}(T:T1 a i e g Θ ε b){j:Nat}(f:j≠i){d:W}{v:V}(r:Ü a.K g d v):T1 a i e g (Θ.set j (Z v)) (ε.set j (Z d)) b:=⟨by rw[z_ f];exact T.ia,λh=>by rw[z_ f];exact T.no h,T.env.set r,T.dct⟩
def T1.put{i:Kv}(T:T1 a b e g Θ ε i){k:Str%0}{d:W}{v:V}{h:(þ%0×V)%0}(A:g e=Z (.dT h))(y:KD a.K g i h)(r:Ü a.K g d v):T1 a b e (å g e (.dT (yH h (kS k) v))) Θ ε (HX i k d):=by
 have m:∀f u,NoD u->g f=Z u->å g e (.dT (yH h (kS k) v)) f=Z u:=λf u s q=>by rw[aq (λz=>by rw[z,A]at q;cases q;exact s _ rfl)];exact q
 refine⟨T.ia,T.no,⟨T.env.len,λj D w=>?_⟩,_,ao,(y.put r).mono (Ü.off m)⟩;obtain⟨n,p,o⟩:=T.env.at' j D w;exact⟨n,p,Ü.off m _ _ o⟩
def Um:W->(Str%0)%1|.tup a=>cw a|_=>U
def BO(h:Um m=Z E)(r:Ü q g m υ):∃b,υ=.ref b/\g b=Z (.tup ((kS E).map kV)):=by
 cases m<;>try(cases h)
 obtain⟨a,f,rfl,s,p⟩:=r.tupE;refine⟨a,rfl,?_⟩;have e:∀{d:W%0}{E:Str%0}{f:V%0},cw d=Z E->S q g d f->f=(kS E).map kV:=by intro d;induction d with|nil=>intro E f h r;cases h;exact((r))|cons m d o=>
  intro E f h r;obtain⟨υ,i,rfl,k,n⟩:∃υ i,f=υ::i/\Ü q g m υ/\S q g d i:=r;cases m<;>try(cases h)
  rename_i z;cases j:cw d with|none=>simp[cw,j]at h|some u=>simp[cw,j]at h;subst h;cases((k));rw[o j n];rfl
 rw[s,e h p]
abbrev ŗ:=Ev->Kv->W%1
def tV(X:C)(i:Nat)(g:ŗ):TE:=λh H Q=>∃a e f,T1 X i a H h e f/\∃d,g e f=Z d/\∀v b,Õ H b->Ü X.K b d v->Q v b
structure FV(X:C)(i:Nat)(e:s_)(g:ŗ):Prop where h:PE X e (tV X i g)
def vE(f:Û):ŗ:=λa _=>match f a with|some (.ok d)=>Z d|_=>U
def KL(e f:Û):ŗ:=λa b=>match e a,f a with|some (.ok k),d%3=>(match Um k with|some k=>Z ((BN b k).getD d)|none=>U)|_,_=>U
def qj(F:Þ)(g:ŗ)(f:Û):ŗ:=λa b=>match g a b,f a with|some x,y%3=>(match F [x,y]with|some (.ok d)=>Z d|_=>U)|_,_=>U
abbrev ŏ:=Ev->Kv->(Ev×Kv)%1
def tDc(X:C)(i:Nat)(f:ŏ):TS:=λD k H=>∃a h j,T1 X i a H k h j/\∃d e,f h j=Z (d,e)/\∀b g,ť a H g->T1 X i a g b d e->D.nx b g
structure FDs(X:C)(i:Nat)(st:Yd%0)(f:ŏ):Prop where h:Ł X st (tDc X i f)
structure FK(X:C)(i:Nat)(st:Yd)(f:ŏ):Prop where h:PS X st (tDc X i f)
def KM(e:Û)(g:ŗ):ŏ:=λa b=>match g a b,e a with|some d,k%3=>(match Um k with|some k=>if b.length<100000 then Z (a,HX b k d)else U|none=>U)|_,_=>U
def ui(j:Nat)(a:ŏ):W%0->ŏ|[],b,e=>Z (b,e)|d::h,b,e=>match a (b.set j (Z d)) e with|some (f,g)=>ui j a h f g|none=>U
def KN(j:Nat)(b:Û)(a:ŏ):ŏ:=λd e=>match b d with|some (.ok (.tup f))=>ui j a f d e|_=>U
def ť.refl(a:O)(H:Hp):ť a H H:=λ_ _ _ h=>h
def ť.trans{a:Hp}(p:ť e g ξ)(q:ť e ξ a):ť e g a:=λb u n h=>q b u n (p b u n h)
def ť.of(a:Õ g ξ):ť e g ξ:=λb u _ h=>a b u h
def Uo(k:FE a h z):FV a b h (vE z):=⟨λm s i H Q I⟨f,j,n,T,d,g,q⟩=>k.h m s i H Q I ⟨j,T.env,by
 unfold vE at g;split at g;·rename_i o e;cases g;rw[e];exact q
 ·cases g⟩⟩
def Ph(hu:a.A.units+1<cLine)(hx:PE a (.Name d k) (zv b))(hk:FE a h z)(hd:FE a v Ñ)(m:M2 a (.Name d k) "get" w h v Λ):FV a b (.Call (.Attribute (.Name d k) "get" w) [h,v] [] Λ) (KL z Ñ):=⟨λf' s D H Q I⟨f,u,kv,T,g,j,q⟩=>by
 refine FJ hu hx hk.h hd.h m f' s D H Q I ⟨_,T.ia,f,rfl,?_⟩;obtain⟨r,h1,h2⟩:=T.dct;refine⟨.inr ⟨r,.inl h1⟩,u,T.env,?_⟩;unfold KL at j;split at j
 · rename_i k0 d0 e1 e2;split at j;·rename_i e ek;cases j;rw[e1];intro vk H1 p E;refine⟨u,(T.mono p).env,?_⟩;rw[e2];intro vd H2 o rd;obtain⟨i,rfl,hb⟩:=BO ek (Ü.mono o _ _ E);obtain⟨A,g1,g2⟩:=(T.mono (p.trans o)).dct;refine⟨_,ż.t g1 hb,q _ H2 (p.trans o) ?_⟩;have n:=g2.val e;cases y:BN kv e with|none=>rw[y]at n;rw[n];exact rd|some d1=>rw[y]at n;obtain⟨v1,e3,P⟩:=n;rw[e3];exact P
   ·cases j
 ·cases j⟩
def Pi{g:ŗ}(hu:a.A.units+1<cLine)(hx:PE a (.Name d w) (zv b))(hk:FE a h z)(hv:FV a b v g)(hs:Yb v (Z (.Subscript (.Name d w) h Λ)) k.line a.env=pure h_:=by lk):FK a b (.Assign [.Subscript (.Name d w) h Λ] v k) (KM z g):=⟨λf' s E H D I⟨e,P,kv,T,a',b',o,q⟩=>by
 unfold KM at o;split at o
 · rename_i i k0 e1 e2;split at o
   · rename_i n ek;split at o
     · cases o;refine KI hu hx hk.h hv.h hs f' s E H D I ⟨e,P,kv,T,i,e1,λm H1 A r1=>⟨_,T.ia,P,(T.mono A).env,?_⟩⟩;rw[e2];intro vk H2 y rk;obtain⟨j,rfl,hb⟩:=BO ek rk;have T2:=T.mono (A.trans y);obtain⟨p,g1,Q⟩:=T2.dct;have r:p.length<sizeLine:=by have:=Q.length;have h2:=bC (b:=p.length+1) ();lia
       refine⟨e,_,rfl,ź.t g1 hb r,q E _ (λj u hn f=>?_) (T2.put g1 Q (Ü.mono y _ _ r1))⟩;rw[aq hn];exact y _ _ (A _ _ f)
     ·cases o
   ·cases o
 ·cases o⟩
def KO{f:ŏ}(h:FK a b Γ f):FDs a b [Γ] f:=⟨qG h.h⟩
def û.offD{K:d_}{a b:O}{H f:Hp}{e:V%0}{d:(þ%0×V)%0}(k:ť a H f)(g:H a=Z (.dT d))(h:H b=Z (.tup e)):f b=Z (.tup e):=k b _ (λz=>by lia) h
def Pj{fb:ŏ}(j:Nat)(l':j≠b)(hp:aaG (B_ a.prog a.w) a.A a.env a.xe)(hc:a.calm=L)(hi:FE a h z)(hg:PG a (.Name d w) (qH j))(hb:FDs a b Υ fb)(hs:∀x,V_ h a.env x=pure x:=by intro _;lk):FK a b (.For (.Name d w) h Υ [] k) (KN j z fb):=⟨λf' s σ H D I⟨e,ρ,kv,T,q',r',hf,q⟩=>by
 refine sx hp hc (He hi.h) hg hb.h hs f' s σ H D I ⟨ρ,T.env,?_⟩;unfold KN at hf;split at hf
 · rename_i y hd;rw[hd];intro v H1 s1 r1;obtain⟨i,A,rfl,h1,h2⟩:=r1.tupE;refine⟨i,rfl,⟨A,û.of h1⟩,?_⟩;have n':y.length=A.length:=by have:=h2.length;lia
   refine⟨λn m E H'=>m=y.length-n/\n<=y.length/\ť e H1 H'/\H' i=Z _/\S a.K H' y A/\∃P p,T1 a b e H' E P p/\ui j fb (y.drop n) P p=Z _,⟨y.length,by simp,XG _,ť.refl e H1,h1,h2,ρ,kv,(T.mono s1),by simpa using hf⟩,?_⟩;rintro n m E H'⟨rfl,hn,b',r,d',P,p,Tn,o⟩;by_cases e':n<y.length
   · have hx:A[n]?=Z _:=r_ ();have g':=r_ e';refine .inr ⟨⟨A,_,û.of r,hx⟩,_,λp' H2 f=>⟨_,by lia,rfl,e',f⟩,λx H2 yl=>?_⟩;obtain⟨rfl,i'⟩:=yl;have ex:=i' A (û.of r);rw[hx]at ex;cases ex;rw[gf g']at o;unfold ui at o;split at o
     · rename_i a' c' m';refine⟨e,_,p,Tn.set l' (FD.reps_at d' n _ _ g' hx),a',c',m',λo' H3 Q T3=>⟨b'.trans Q,?_,?_,a',c',T3,o⟩⟩;·obtain⟨h',g1,_⟩:=Tn.dct;exact û.offD (K:=a.K) Q g1 r
       ·obtain⟨h',g1,_⟩:=Tn.dct;exact S.off (λc u hn g=>Q c u (λf=>by rw[f,g1]at g;cases g;exact hn _ rfl) g) _ _ d'
     ·cases o
   · have k':n=y.length:=by lia
     subst k';rw[Zv]at o;cases o;exact .inl ⟨⟨A,û.of r,by lia⟩,q E H' ((ť.of s1).trans b') Tn⟩
 ·cases hf⟩
def FL{g1:ŗ}(e:Nat)(P:Str%0)(F:Þ)(i:Has a.prog a.w a.K a.mg a.base d e P F)(hr:ã o a.A)(hk:e<=o)(hg:Gl a d)(h1:FV a b h g1)(h2:FE a v z)(hn:P.length=2:=by lk)(y:(d==("__debug__":Str))=h_:=by lk)(he:k_ [h,v] a.env=(h_,eval h a.env)::k_ [v] a.env:=by lk)(u:k_ [v] a.env=(h_,eval v a.env)::k_ [] a.env:=by lk)(p:(Xv w (k_ [v] a.env)).any (·.1)=h_:=by lk):FV a b (.Call (.Name d k) [h,v] [] w) (qj F g1 z):=by
 obtain⟨f,fd,G,hm,r,hb⟩:=i;refine⟨λf' s σ H Q I⟨j,A,kv,T,m,n,q⟩=>?_⟩;unfold qj at n;split at n
 · rename_i d1 d2 q1 q2;split at n;·rename_i d' hF;cases n;refine nF (G.mono hk) hr hg hm r hb .nil Nr (jp h1.h (jp h2.h sE u) he) y he p f' s σ H Q I ⟨j,A,kv,T,d1,q1,λv1 H1 E r1=>⟨A,(T.mono E).env,?_⟩⟩;rw[q2];intro v2 H2 D r2;refine⟨[d1,d2],⟨v1,[v2],rfl,Ü.mono D _ _ r1,v2,[],rfl,r2,rfl⟩,hn.symm,?_⟩;rw[hF];exactλg H' s3 r3=>q g H' ((E.trans D).trans s3) r3
   ·cases n
 ·cases n
def BP(i:Nat)(f g:ŏ)(a:Ev->Kv->Fl%1):á:=λj=>match f (j.set i U) []with|some (d,h)=>(match g d h with|some (b,e)=>a b e|none=>U)|none=>U
def tR(X:C)(i:Nat)(r:Ev->Kv->Fl%1):TS:=λD f H=>∃a d e b,T1 X i a H f d e/\Õ b H/\b a=U/\ÿ X b (r d e) D
structure FR(X:C)(i:Nat)(sts:Yd%0)(r:Ev->Kv->Fl%1):Prop where h:Ł X sts (tR X i r)
def FM{s2:Yd}{f1 R:ŏ}{r:Ev->Kv->Fl%1}(hN:a.N.Nodup)(hi:a.N[b]?=Z d)(hx:ŋ a.env.scope d)(h1:FK a b Γ f1)(h2:FK a b s2 R)(hr:FR a b Υ r)(hs:Yb (.Dict [] [] Λ) (Z (.Name d w)) k.line a.env=pure h_:=by lk)(hf:a.fn d=L\/a.env.scope.names.lookup d=Z .local:=by first|exact .inl rfl|exact .inr rfl|assumption):Ĩ a (.Assign [.Name d w] (.Dict [] [] Λ) k::Γ::s2::Υ) (BP b f1 R r):=⟨λf' s σ H D I⟨y,E,o⟩=>by
 refine gM (pB hN hi hx FH hs hf) (gM h1.h (gM h2.h hr.h)) f' s σ H D I λp hp=>?_;have s0:Õ H (å H p (.dT [])):=aG hp _;have T0:T1 a b p (å H p (.dT [])) (σ.set b (Z (.ref p))) (y.set b U) []:=by
  have E1:=(E.mono s0).fgt1 b;refine⟨K_ (by rw[I.len];exact(u_.mp hi).1),λf=>?_,⟨by rw[XR];exact E1.len,λj f g=>?_⟩,[],ao,.nil⟩
  · by_cases A:b<y.length;·rw[K_ A];exactλz=>by cases z
    ·rw[X1 (by rw[XR];lia)];exactλz=>by cases z
  · have a':b≠j:=λz=>by
     subst z;by_cases A:b<y.length;·rw[K_ A]at g;cases g
     ·rw[X1 (by rw[XR];lia)]at g;cases g
    obtain⟨v,q1,q2⟩:=E1.at' j f g;exact⟨v,by rw[z_ a'];exact q1,q2⟩
 unfold BP at o;split at o
 · rename_i i n e1;split at o
   · rename_i h m e2;refine⟨p,_,[],T0,i,n,e1,λe' H1 Q c'=>⟨p,i,n,c',h,m,e2,λd' H2 P b'=>⟨p,h,m,H,b',λe u hb=>?_,hp,o⟩⟩⟩;have q:e≠p:=λz=>by lia
     exact P e u q (Q e u q (s0 e u hb))
   ·exact o.elim
 ·exact o.elim⟩
open TS
def BQ{h:Array DictEntry}(a:f.heap.IsValuesView e A)(d:f.heap.get? A=Z Ä)(g:Ä.data=.dict h b)(i:Å (.ref f.heap.objs.size) {f with heap:=f.heap.push {cls:=.type "dict_valueiterator",data:=.fields #[.ref A,.int 0 0,.int h.size 0,.int b 0]}}):xy (B_ p n) D (aeG (.ref e)) Å ν f:=by obtain⟨m,k,o,j⟩:=id a;refine acl a.typeIs abE (XN abE a.typeIs PySem.F.entry_dict_values_iter ?_ (PySem.F.args_dict_values_iter_1 _));refine c_ (i_ (c_ ?_));refine c_ (YF k j (x:=.ref A) rfl (i_ (c_ ?_)));refine c_ (acn d g (c_ (adf d g ?_)));simp![show aaj "dict_valueiterator"=h_ by decide,YB,if_false];refine Xz (i_ ⟨_,rfl,_,_,⟨_,rl _ rfl,rfl⟩,Yr.lookup,?_⟩);simpa[Zm]using i
def BR{g:Array DictEntry}{Q:B%1->ge->Prop}(a:f.heap.IsValIter A e o g.size b)(h:f.heap.get? e=Z Ä)(i:Ä.data=.dict g b)(r:(g[o]?).map (·.val)=Z ω)(v:∀m,m.IsValIter A e (o+1) g.size b->YO A f.heap m->Q (Z ω) {f with heap:=m}):xy (B_ p n) D (K' (.ref A)) Q ν f:=by
 obtain⟨w,k,u,j⟩:=id a;refine c_ (YZ (XO a.typeIs Yr (XN Yr a.typeIs aaH (c_ (i_ (c_ (c_ ?_)))) (aax _))));first|refine c_ (Zf a.typeIs (i_ (c_ (aat k j ?_))))|refine c_ _
 have q:aaj "dict_valueiterator"=h_:=rfl;show xy _ _ (if(U_ e==.none)=L then _ else _) _ _ f;refine c_ (i_ (c_ (acn h i ?_)));rw[if_neg ∅];refine c_ (i_ (c_ (adf h i ?_)));rw[if_neg ∅];refine i_ ?_;obtain⟨y,s,rfl⟩:=YQ.mp r;simp![if_false,Zl,s];refine c_ ?_;first|refine c_ (Zf a.typeIs (i_ (c_ (abq a.typeIs ?_))))|refine c_ _
 show xy _ _ (setField _ 1 (Zm ((o)+1))>>=_) _ _ f;refine c_ (ab2 k j ∅ ?_);have d:(f.heap.update A (Obj.mapFields (·.setIfInBounds 1 (Zm ((o)+1))))).IsValIter A e (o+1) g.size b:=⟨_,YG _ k (ads (aaV j _)),(aeu ..).trans u,by rw[aaV j];simp[Zm]⟩;refine c_ (XY (c_ (abq d.typeIs (c_ (abq d.typeIs ?_)))));exact i_ (i_ ⟨_,rfl,i_ (v _ d (YT ..))⟩)
def FN{h:Array DictEntry}{Q:B%1->ge->Prop}(r:D.handled=U)(a:f.heap.IsValIter A e o h.size b)(d:f.heap.get? e=Z Ä)(g:Ä.data=.dict h b)(q:h.size<=o)(s:∀k,adD A f.heap k->Q U {f with heap:=k}):xy (B_ p n) D (K' (.ref A)) Q ν f:=by
 obtain⟨u,i,v,j⟩:=id a;refine c_ (YZ (XO a.typeIs Yr (XN Yr a.typeIs aaH (c_ (i_ (c_ (c_ ?_)))) (aax _))));first|refine c_ (Zf a.typeIs (i_ (c_ (aat i j ?_))))|refine c_ _
 have m:aaj "dict_valueiterator"=h_:=rfl;show xy _ _ (if(U_ e==.none)=L then _ else _) _ _ f;refine c_ (i_ (c_ (acn d g ?_)));rw[if_neg ∅];refine c_ (i_ (c_ (adf d g ?_)));rw[if_neg ∅];refine i_ ?_;simp![if_false,show¬((o:Int)<0)from by lia,Zl,Array.getElem?_eq_none q];refine c_ ?_;first|refine c_ (Zf a.typeIs (i_ ?_))|refine c_ _
 show xy _ _ (setField _ 0 _>>=_) _ _ f;refine c_ (ab2 i j ∅ ?_);refine c_ ?_;refine c_ (Xz (c_ (Zs (a:=M_) (rfl) (Xz ?_ (by size_fits)))) (by size_fits));refine c_ (acv ?_);rw[(r)];refine c_ (i_ (adx ?_));exact c_ (aaC ⟨_,rl _ rfl,rfl⟩ ab4 (i_ (s _ (((YT ..).extBut.push _).push _))))
def BS(H:D.handled=U)(I d:O)(r:d≠I)(k:Array DictEntry)(z:Nat):Walks p n D I [I,d] [I] k.size (λi v=>(k[i]?).map (·.val)=Z v) (λi h=>h.IsValIter I d i k.size z/\∃o,h.get? d=Z o/\o.data=.dict k z)where
 sub:=λb j=>by simp at j;simp[j]
 frame:=λ_ _ _⟨st,o,g,f⟩y=>⟨st.at (y I ∅),o,y d ∅ o g,f⟩;item:=λi s Q E A⟨st,o,g,f⟩m=>by
  have w:(k[i]?).map (·.val)=Z k[i].val:=by simp[A]
  exact BR st g f w λq a b=>(m _ q s.toks w ⟨a,o,b.extBut d o r g,f⟩ λP o j e=>b.extBut P o (λh=>j (by simp[h])) e)
 done:=λs Q E⟨st,o,g,f⟩m=>FN H st g f (o_ _) λq u=>m q s.toks λb o j e=>u b o (λh=>j (by simp[h])) e;self:=λ_ _ _ _⟨st,_⟩m=>wpAny_pyIter_valiter st m
def FP(r d:O)(b:Array DictEntry)(k:Nat):PySem.W.KdlSrc p n "dict_values" r d b.size (λi v=>(b[i]?).map (·.val)=Z v) (λh=>h.IsValuesView r d/\∃o,h.get? d=Z o/\o.data=.dict b k)where
 type:=λ_ f=>f.1.typeIs;there:=λ_⟨⟨_,u,_⟩,_,a,_⟩=>⟨uk u,uk a⟩;keep:=λ_ _⟨⟨o,q,x⟩,g,a,y⟩j=>⟨⟨o,j r (.inl rfl) o q,x⟩,g,j d (.inr rfl) g a,y⟩;notList:=by decide
 notTuple:=by decide
 hint:=λ_ _ _ _ f e=>PySem.W.kdl_hint_values f.1.typeIs e;iter:=λ_ _ s⟨m,o,a,y⟩=>⟨_,_,(λ_ _ e=>BQ m a y e),BS s _ d (D_ (uk a)) b k,⟨⟨_,rl _ rfl,rfl,rfl⟩,o,l_ _ a,y⟩⟩
def uj{k:Array DictEntry}{R:B%0->ge->Prop}(v:D.handled=U)(o:f.heap.IsValuesView A e)(s:f.heap.get? e=Z Ä)(w:Ä.data=.dict k b)(u:k.size<=sizeLine)(r:A+1=f.heap.objs.size)(h:∀i m,(∀a Ä,f.heap.get? a=Z Ä->i.get? a=Z Ä)->f.heap.objs.size<=i.objs.size->R (k.toList.map (·.val)) {f with heap:=i,toks:=m}):xy (B_ p n) D (collect (.ref A)) R ν f:=by
 refine PySem.W.kdu_collect (FP A e k b) v ⟨o,Ä,s,w⟩ u λi m g up it=>?_;have d:g.toList=k.toList.map (·.val):=by
  apply abl;intro j;have E:=it.1;by_cases q:j<g.size;·have:=it.2 j g[j] (by simp[q]);simp![ZD,P_];rw[this];simp[q]
  ·rw[X1 (by simp;lia),X1 (by simp;lia)]
 rw[d];refine h i m up ?_;obtain⟨z,y,_⟩:=o;exact r▸Nat.succ_le_of_lt (uk (up _ _ y))
def BU(a:f.TypeIs (.ref e) "dict")(b:(e==ZQ)=h_)(h:Å (.ref f.heap.objs.size) {f with heap:=f.heap.push {cls:=.type "dict_values",data:=.fields #[.ref e]}}):xy (B_ p n) D (call (.builtin "dict.values") [.ref e]) Å ν f:=by refine XN acC a PySem.F.entry_dict_values (c_ ?_) (PySem.F.args_dict_values_1 _);refine c_ (wpAny_notOrdered_dict a ?_);refine i_ ?_;unfold Builtin.Dict.showsAll;rw[if_neg (by rw[b];exact nofun)];exact c_ (i_ (c_ (Xz (i_ ⟨_,rfl,h⟩))))
structure M0(X:C)(o:s_)(m:Str)(apos cpos:Pos):Prop where
 base:X_ o m X.env (eval o X.env)=eval o X.env
 few:((Xv cpos (k_ [] X.env)).all (λx=>!x.1)&&(Y_ cpos (Yq [] X.env)).all (λx=>x.1.isSome)&&A_ (([]:s_%0).length+([]:Zc%0).length+(if([]:Zc%0).isEmpty then 0 else 1)<30))=L
 line:(apos.endLine==cpos.line)=L
 trees:Xv cpos (k_ [] X.env)=[]
def qk(F:Þ):ŗ:=λ_ a=>match xu F (a.map (·.2))with|some (.ok d)=>Z d|_=>U
def KD.reps{K:d_}{H:Hp}:∀{b:Kv}{a:(þ%0×V)%0},KD K H b a->S K H (b.map (·.2)) (a.map (·.2))|_,_,.nil=>rfl|_,_,.cons r t=>⟨_,_,rfl,r,KD.reps t⟩
def KP{a:(þ%0×V)%0}{b:(þ%0×O×B)%0}(r:KT g a b):Ö (a.map (·.2)) (b.map (·.2.2)):=by induction r with|nil=>exact .nil|cons h _ d=>exact .cons h.2.2 d
def FQ{p p2 kp y:Pos}(f:Nat)(ps:Str%0)(F:Þ)(h:Has a.prog a.w a.K a.mg a.base r f ps F)(hr:ã o a.A)(hk:f+2<=o)(h1:ps.length=1)(hg:Gl a "sorted")(hm:a.mg "sorted"=U)(m':Gl a r)(hx:PE a (.Name d k) (zv b))(m:M0 a (.Name d k) "values" w Λ)(n':(r==("__debug__":Str))=h_:=by lk)(he:Xv y (k_ [.Call (.Attribute (.Name d k) "values" w) [] [] Λ] a.env)=(h_,eval (.Call (.Attribute (.Name d k) "values" w) [] [] Λ) a.env)::Xv y (k_ [] a.env):=by lk)(D:(Xv y (k_ [.Call (.Attribute (.Name d k) "values" w) [] [] Λ] a.env)).any (·.1)=h_:=by lk)(p':Xv y (k_ [] a.env)=[]:=by lk)(b':(Y_ y (Yq [⟨Z "key",.Name r p2,kp⟩] a.env)).all (·.1.isSome)=L:=by lk)(l':(Y_ y (Yq [⟨Z "key",.Name r p2,kp⟩] a.env)).any (·.1.isNone)=h_:=by lk)(r':(Y_ y (Yq [⟨Z "key",.Name r p2,kp⟩] a.env)).filterMap (·.1)=[b_ "key"]:=by lk):FV a b (.Call (.Name "sorted" p) [.Call (.Attribute (.Name d k) "values" w) [] [] Λ] [⟨Z "key",.Name r p2,kp⟩] y) (qk F):=⟨λf' s σ H Q I⟨e,ρ,kv,T,j,hd,q⟩=>by
 obtain⟨fa,fd,G,i',s',hb⟩:=h;refine YI (jf I hg hm (ω:=.builtin "sorted") (by decide+kernel) (callWith_kw ?_ he D b' l') #v[] #v[]);rw[he];refine ZA (wpAny_Call_method m.base m.few m.line acP acC PySem.F.type_dict_values (í (hx f' s σ H (λv H'=>v=.ref e/\H'=H) I ⟨_,T.ia,rfl,rfl⟩) λu s1⟨v,H1,I1,rx,e1,e2⟩=>?_));subst e1 e2;obtain rfl:u=U_ e:=rx;obtain⟨g',g1,g2⟩:=T.dct;obtain⟨t1,t2,t3⟩:=HW I1 (.inr ⟨g',.inl g1⟩);refine⟨t1,t2,?_⟩;refine aad rfl (adX (BU t1 t3 (aao ?_)));obtain⟨hz,_,xs,kt,i,es,ep,ho,hex,a',P,_⟩:=Pc I1.hok g1;have I2:=I1.kept (t':=s1.toks) (h':=s1.heap.push {cls:=.type "dict_values",data:=.fields #[.ref e]}) λn u q=>l_ _ q;refine kws_cons (lG I2 m' i' (kws_nil ?_) n');show xy _ _ (call _ _ [(b_ "key",.ref fa)]) _ _ _;unfold qk xu at hd;split at hd
 · rename_i d' A;cases hd;split at A
   · rename_i o' E;split at A
     · rename_i z;cases A;have q':es.size=xs.length:=by have:=congrArg abG P;simpa using this
       have h':es.toList.map (·.val)=xs.map (·.2.2):=by rw[P,XS];rfl
       refine Fj G (hr.mono hk) hb h1 I2 (λQ' hQ=>uj (hr.hd) ⟨_,rl _ rfl,rfl,rfl⟩ (l_ _ ho) a' ?_ ?_ hQ) (by rw[h'];exact KP kt) (KD.reps g2) E z.1 z.2.1 z.2.2 λg c' H' sm hL e'=>q _ _ sm ⟨g,c',rfl,hL,e'⟩
       ·have:=acA kt;lia
       ·rw[Xw]
     ·cases A
   ·cases A
 ·cases hd⟩
def Pk(j:Nat)(g:ŗ)(f:á):Ev->Kv->Fl%1:=λa b=>match g a b with|some d=>f (a.set j (Z d))|none=>U
def Pl{g:ŗ}(j:Nat){y:Str}{f:Pos}(hN:a.N.Nodup)(A:a.N[j]?=Z y)(u:ŋ a.env.scope y)(P:FV a b h g)(z:Ĩ a Υ Ψ)(w:Yb h (Z (.Name y f)) k.line a.env=pure h_:=by lk)(E:a.fn y=L\/a.env.scope.names.lookup y=Z .local:=by first|exact .inl rfl|exact .inr rfl|assumption):FR a b (.Assign [.Name y f] h k::Υ) (Pk j g Ψ):=⟨λf' s m H D I⟨e,n,q,H0,T,p,h0,o⟩=>by
 unfold Pk at o;split at o;·rename_i d Q;exact gM (pB hN A u P.h w E) z.h f' s m H D I ⟨e,n,q,T,d,Q,λv H' i r=>⟨_,(T.env.mono i).set r,ÿ.mono (p.trans i) o⟩⟩
 ·exact o.elim⟩
def BV{e:Yd}{g f:ŏ}{r:Ev->Kv->Fl%1}(q:FK a b Γ g)(p:FK a b e f)(j:FR a b Υ r)(o:Ě a.N=L:=by lk)(m:a.N[b]?=Z d:=by lk)(h:jy a.env.scope d=L:=by lk)(n:a.fn d=L:=by lk)(i:Yb (.Dict [] [] w) (Z (.Name d k)) Λ.line a.env=pure h_:=by lk):Ĩ a (.Assign [.Name d k] (.Dict [] [] w) Λ::Γ::e::Υ) (BP b g f r):=FM (iR o) m (fE h) q p j i (.inl n)
def KQ{f:ŏ}(j:aaG (B_ a.prog a.w) a.A a.env a.xe)(n:FE a h z)(r:FDs a b Υ f)(e:Œ o b=h_:=by lk)(q:a.calm=L:=by lk)(s:Ě a.N=L:=by lk)(g:a.N[o]?=Z d:=by lk)(m:jy a.env.scope d=L:=by lk)(p:a.fn d=L:=by lk)(i:∀x,V_ h a.env x=pure x:=by intro _;lk):FK a b (.For (.Name d k) h Υ [] w) (KN o z f):=Pj o (abh e) j q n (gZ (iR s) g (fE m) (.inl p)) r i
def KR{g:ŗ}(p:a.A.units+64<cLine)(m:FE a v z)(i:FV a b h g)(o:a.N[b]?=Z d:=by lk)(f:jy a.env.scope d=L:=by lk)(n:(d==("__debug__":Str))=h_:=by lk)(e:(d==("__classdict__":Str))=h_:=by lk)(j:Yb h (Z (.Subscript (.Name d k) v Λ)) w.line a.env=pure h_:=by lk):FK a b (.Assign [.Subscript (.Name d k) v Λ] h w) (KM z g):=Pi () (lQ o f n e) m i j
def KS(o:a.A.units+64<cLine)(i:FE a h z)(j:FE a v Ñ)(n:a.N[b]?=Z d:=by lk)(g:jy a.env.scope d=L:=by lk)(e:(d==("__debug__":Str))=h_:=by lk)(f:(d==("__classdict__":Str))=h_:=by lk)(m:M2 a (.Name d k) "get" w h v Λ:=by exact⟨by lk,by lk,by lk,by lk⟩):FV a b (.Call (.Attribute (.Name d k) "get" w) [h,v] [] Λ) (KL z Ñ):=Ph () (lQ n g e f) i j m
def BW{T:bW}{n:ŗ}(u:HA a.prog a.w a.K a.mg a.base T)(p:ã o a.A)(f:(T.lookup d).map (λq=>q.2.2)=Z Â)(A:FV a b h n)(y:FE a v z)(e:((T.lookup d).all λq=>M' q.1 o&&Œ q.2.1.length 2)=L:=by lk)(r:a.env.kindOf d=Z .globalImplicit:=by lk)(m:(d==("__debug__":Str))=h_:=by lk)(s:k_ [h,v] a.env=(h_,eval h a.env)::k_ [v] a.env:=by lk)(j:k_ [v] a.env=(h_,eval v a.env)::k_ [] a.env:=by lk)(i:(Xv k (k_ [v] a.env)).any (·.1)=h_:=by lk):FV a b (.Call (.Name d w) [h,v] [] k) (qj Â n z):=by cases g:T.lookup d with|none=>rw[g]at f;cases f|some q=>rw[g]at f e;cases f;rw[Y9,n_]at e;exact FL q.1 _ _ (u.h d q g) p (Ye e.1) r A y (Yg e.2) m s j i
def BX{T:bW}{e:Kr}{f p j n:Pos}(hT:HA a.prog a.w a.K a.mg a.base T)(hM:MA a.mg e)(I:ã o a.A)(u:(T.lookup r).map (λq=>q.2.2)=Z Â)(s:((T.lookup r).all λq=>M' (q.1+2) o&&Œ q.2.1.length 1)=L:=by lk)(Q:a.env.kindOf (b_ "sorted")=Z .globalImplicit:=by lk)(P:e.lookup (b_ "sorted")=Z U:=by lk)(A:a.env.kindOf r=Z .globalImplicit:=by lk)(hN:a.N[b]?=Z d:=by lk)(H:jy a.env.scope d=L:=by lk)(hd:(d==("__debug__":Str))=h_:=by lk)(E:(d==("__classdict__":Str))=h_:=by lk)(m:M0 a (.Name d k) "values" Λ f:=by exact⟨by lk,by lk,by lk,by lk⟩)(D:(r==("__debug__":Str))=h_:=by lk)(he:Xv w (k_ [.Call (.Attribute (.Name d k) "values" Λ) [] [] f] a.env)=(h_,eval (.Call (.Attribute (.Name d k) "values" Λ) [] [] f) a.env)::Xv w (k_ [] a.env):=by lk)(g:(Xv w (k_ [.Call (.Attribute (.Name d k) "values" Λ) [] [] f] a.env)).any (·.1)=h_:=by lk)(h:Xv w (k_ [] a.env)=[]:=by lk)(i:(Y_ w (Yq [⟨Z "key",.Name r j,n⟩] a.env)).all (·.1.isSome)=L:=by lk)(z:(Y_ w (Yq [⟨Z "key",.Name r j,n⟩] a.env)).any (·.1.isNone)=h_:=by lk)(y:(Y_ w (Yq [⟨Z "key",.Name r j,n⟩] a.env)).filterMap (·.1)=[b_ "key"]:=by lk):FV a b (.Call (.Name "sorted" p) [.Call (.Attribute (.Name d k) "values" Λ) [] [] f] [⟨Z "key",.Name r j,n⟩] w) (qk Â):=by cases v:T.lookup r with|none=>rw[v]at u;cases u|some q=>rw[v]at u s;cases u;rw[Y9,n_]at s;exact FQ q.1 _ _ (hT.h r q v) I (Ye s.1) (Yg s.2) Q (hM.no P) A (lQ hN H hd E) m D he g h i z y
def KU{g:ŗ}(n:FV a b h g)(i:Ĩ a Υ Ψ)(p:Ě a.N=L:=by lk)(j:a.N[o]?=Z d:=by lk)(e:jy a.env.scope d=L:=by lk)(m:a.fn d=L:=by lk)(f:Yb h (Z (.Name d w)) k.line a.env=pure h_:=by lk):FR a b (.Assign [.Name d w] h k::Υ) (Pk o g Ψ):=Pl o (iR p) j (fE e) n i f (.inl m)
end FD
namespace TS
open FD
end TS
namespace FD
open L2 TS
def TBL(P:O)(q:Str)(H:Hp):Prop:=∃a t,H P=Z (.tbl a)/\a[0]?=Z (.str q t)
def spT(b:O)(q:Str)(K:d_)(F:Þ)(n:Nat):Sp:=λa H Q E=>TBL b q H/\ş K F n a H Q E
def bmB(K:d_):Bool:=match X6 K E_ "__builtins__"with|some (Z (.ref a))=>(match K.lookup a with|some ⟨.type "module",Z d,.plain,_⟩=>Œ d ab5&&!Œ a ab5&&!Œ a E_|_=>h_)|_=>h_
open PySem.W
def Uq:kK (Ļ a.prog a.w) a E0:=by intro k g H s m i I⟨e,f,n,j,os,b,un,d,F,h⟩;exact h.elim
structure CK(K:d_)(k:Nat)(C:O):Prop where
 n:X6 K E_ (Ų k)=Z (Z (.ref C))c:Ŷ K C
 a:∀f∈ė k,Ĕ K C f
def qZ{o:Type}:∀{a:Str%0}{d:o%0}{j:Nat}{f:Str}{v:o},a.Nodup->a[j]?=Z f->d[j]?=Z v->(a.zip d).lookup f=Z v
 |[],_,_,_,_,_,h,_=>by simp at h|n::a,[],j,f,v,_,_,h=>by simp at h|n::a,u::d,0,f,v,k,i,g=>by simp at i g;subst i g;simp[aaX,XV]|n::a,u::d,j+1,f,v,k,i,g=>by
  have b:a[j]?=Z f:=by simpa using i
  have m:(f==n)=h_:=beq_eq_false_iff_ne.mpr λe=>by subst e;exact(Ys.mp k).1 (N_ b)
  rw[aaX,XV,m];exact qZ (Ys.mp k).2 b (by simpa using g)
def kX{g:Type}:∀{a:Str%0}{d:g%0}{f:Str},f∉a->(a.zip d).lookup f=U|[],_,_,_=>by simp|n::a,[],_,_=>by simp|n::a,u::d,f,h=>by have b:(f==n)=h_:=beq_eq_false_iff_ne.mpr λe=>h (e▸on);rw[aaX,XV,b];exact kX λz=>h (pi _ z)
def BY:∀k,(ė k).Nodup:=by intro k;unfold ė;split<;>decide
def sr(k j:Nat):W->Rs W%1|.obj a b=>if a=k then(match b[j]? with|some d=>d%3|none=>U)else U|_=>U
def vF(c:CK q b e)(h:X6 q E_ (Ų b)=Z (Z (.ref A))):A=e:=by have:=c.n.symm.trans h;simp at this;exact this.symm
def Pm(c:CK a.K b e)(y:(ė b)[o]?=Z d)(I:FE a h z)(hb:X_ h d a.env (eval h a.env)=eval h a.env:=by lk):FE a (.Attribute h d k) (f1 (sr b o) z):=dI (Hi I.h hb) λσ H Q D E h=>⟨D,E,õ.bind h λf v p e1 r s=>by cases f with
 |obj m A=>
 have j:õ a p (if m=b then(match A[o]? with|some f=>f%3|none=>U)else U) Q:=s;by_cases w:m=b;·subst w;rw[if_pos rfl]at j;obtain⟨i,C',dx,vs,rfl,g,P,q,l⟩:=r.objE;cases n:A[o]? with|none=>rw[n]at j;exact j.elim|some f=>rw[n]at j;obtain⟨u,h1,h2⟩:=q.get' n;rw[vF c P]at g;exact⟨i,e,dx,_,u,rfl,g,c.c,c.a d (N_ y),qZ (BY m) y h1,j u p (.refl p) h2⟩
 ·rw[if_neg w]at j;exact j.elim|_=>exact s.elim⟩
def MC(X:C)(o:s_)(m:Str)(e:s_%0)(b a:Pos)(g:Sem Bool):Prop:=eval (.Call (.Attribute o m b) e [] a) X.env=(do
 let d<-eval o X.env
 acZ b.atName let(f,first)<-ű [d] (adQ d m g)callWith a f first (Xv a (k_ e X.env)) (Y_ a (Yq [] X.env)))
def isO(k:Nat):W->Bool|.obj a _=>a==k|_=>h_
def kY(k:Nat)(F:Þ)(n:Nat)(d:Û)(g:ê):Û:=λa=>à (d a) λx=>if isO k x=L then à (g a) λb=>(if b.length=n then F (x::b)else U)else U
structure Pn(P:m_)(w:v_)(K:d_)(mg:Str->B%1)(base:O_)(k:Nat)(C:O)(m:Str)(lv n:Nat)(F:Þ):Prop where
 c:CK K k C
 h:m∉ė k
 f:∃f fd ps,MK K C m f/\ö P w K mg base (Ļ P w) lv f fd ps (spE K F (n+1))/\ø K fd ps []
def Po(h:isO b m=L):∃a,m=.obj b a:=by cases m<;>simp[isO]at h;subst h;exact⟨_,rfl⟩
def Pp(h:Pn a.prog a.w a.K a.mg a.base b e d Δ o Â)(n:isO b m=L)(r:Ü a.K g m υ):∃f i fs,υ=.ref f/\g f=Z (.ins e i fs)/\fs.lookup d=U:=by obtain⟨s,rfl⟩:=Po n;obtain⟨f,u,i,p,rfl,j,k,q,l⟩:=r.objE;rw[vF h.c k]at j;exact⟨f,i,_,rfl,j,kX h.h⟩
def FU{y:Sem Bool}(i:Pn a.prog a.w a.K a.mg a.base b e d o 0 Â)(P:ã Δ a.A)(hk:o<=Δ)(u:a.ex=[])(ho:FE a h z)(I:MC a h d [] w k y):FE a (.Call (.Attribute h d w) [] [] k) (kY b Â 0 z dg):=by
 obtain⟨f,fd,ps,hm,G,hb⟩:=i.f;refine dI (wJ (n:=y) ho.h i.c.c hm (G.mono hk) P hb .nil (yx u) I) λσ H Q D E h=>⟨D,E,õ.bind h λg v s A r n=>?_⟩;by_cases p:isO b g=L
 ·rw[if_pos p]at n;obtain⟨j,dx,fs,rfl,hh,hl⟩:=Pp i p r;have m:õ a s (Â [g]) Q:=n;refine⟨j,dx,fs,rfl,hh,hl,?_⟩;show spE a.K Â 1 [.ref j] s Q (EX a);refine⟨[g],.cons r .nil,rfl,?_⟩;match q:Â [g]with|none=>rw[q]at m;exact m.elim|some (.ok g)=>rw[q]at m;exact m|some (.exc c)=>rw[q]at m;exactλe s hC A=>⟨c,e,rfl,hC,XW.mono m A⟩
 ·rw[if_neg p]at n;exact n.elim
inductive FlC where|nx(ρ:Ev)|rt(d o:W)|exc(c:Nat)
abbrev FnC:=Ev->FlC%1
def nox(r:FlC%1):FlC%1:=match r with|some (.exc _)=>U|r=>r
def xE{y:V}:∀{a:Str%0}{vs:V%0}{j:Nat}{f:Str},a.Nodup->a[j]?=Z f->j<=vs.length->vs.length<=a.length->pD f y (a.zip vs)=a.zip (if j<vs.length then vs.set j y else vs++[y])
 |[],_,_,_,_,h,_,_=>by simp at h|n::a,[],j,f,_,h,d,_=>by
  have:j=0:=by simpa using d
  subst this;simp at h;subst h;simp[pD]|n::a,u::vs,0,f,_,h,_,_=>by simp at h;subst h;simp[pD]|n::a,u::vs,j+1,f,i,h,d,o=>by
  have k:a[j]?=Z f:=by simpa using h
  have g:n≠f:=λe=>(Ys.mp i).1 (e▸N_ k);have m:=xE (y:=y) (vs:=vs) (Ys.mp i).2 k (by simpa using d) (by simpa using o);rw[aaX];show(if n=f then(n,y)::a.zip vs else(n,u)::pD f y (a.zip vs))=_;rw[if_neg g,m];by_cases b:j<vs.length;·rw[if_pos b,if_pos (by simpa using b)];simp
  ·rw[if_neg b,if_neg (by simpa using b)];simp
inductive RsC where|ok(d o:W)|exc(c:Nat)
abbrev Ur(o:s_)(a:Env):Sem Bool:=do return(<-importBound o a).getD L
abbrev MQ:=(Str×Nat×Nat×(Þ))%0
structure Ũ(P:m_)(w:v_)(K:d_)(mg:Str->B%1)(base:O_)(k:Nat)(C:O)(T:MQ):Prop where h:∀m e,T.lookup m=Z e->Pn P w K mg base k C m e.1 e.2.1 e.2.2
def KW:Ũ p n q Ζ I b e []:=⟨λ_ _ h=>by cases h⟩
def xF{T:MQ}(h:Pn p n q Ζ I b e d o Δ Â)(t:Ũ p n q Ζ I b e T):Ũ p n q Ζ I b e ((d,o,Δ,Â)::T):=⟨λx a z=>by
 rcases iq z with⟨rfl,rfl⟩|z;·exact h
 ·exact t.h x a z⟩
def KY(c:CK a.K b e)(f:FE a h z)(g:(ė b)[o]?=Z d:=by lk)(i:X_ h d a.env (eval h a.env)=eval h a.env:=by lk):FE a (.Attribute h d k) (f1 (sr b o) z):=Pm c g f i
def BZ{T:MQ}(s:Ũ a.prog a.w a.K a.mg a.base b e T)(p:ã o a.A)(i:(T.lookup d).map (λq=>q.2.2)=Z Â)(m:a.ex=[])(r:FE a h z)(g:((T.lookup d).all λq=>M' q.1 o&&Œ 0 q.2.1)=L:=by lk)(n:MC a h d [] w k (Ur h a.env):=by delta MC;lk):FE a (.Call (.Attribute h d w) [] [] k) (kY b Â 0 z dg):=by cases j:T.lookup d with|none=>rw[j]at i;cases i|some q=>rw[j]at i g;cases i;rw[Y9,n_]at g;have f:=s.h d q j;rw[<-Yg g.2]at f;exact FU f p (Ye g.1) m r n
structure Am(K:d_)(C:O)(q m:Str)(st:Yd)(f:O):Prop where
 t:MK K C m f
 F:∃fd,Ń K m q st f fd
def BdQ(x q:Str)(b:Yd)(f:Str%0):Prop:=∀(kV d g:B)(i:O%1)(e h:B)(a:B%0),a.length=f.length->aep (Zb x q (iO b) (bS b) (au b) .none kV d g i e h) ⟨a,[]⟩=pure (f.zip a)
def noB(k:Nat)(m:Str):Bool:=!(ė k).contains m
def Pq(h:noB b d=L):d∉ė b:=λz=>by simp[noB,z]at h
def B0(c:CK q b e)(N g:Str%0)(i:á)(a:Am q e r d Γ A)(j:BdQ d r Γ g)(w:∀(h:B)(a:x_)(f:Env%0)(s:ge)(H:Hp)(E:XK),ã o (a.deeper (ĸ r (au Γ) s.heap.objs.size A h))->Ĩ (qK (Ļ p n) p n q Ζ I N r (au Γ) A h a f s H E) (bS Γ) i)(y:Â=gJ N.length i:=by lk)(m:fnB N g (au Γ)=L:=by lk)(u:Δ+1=g.length:=by lk)(v:noB b d=L:=by lk):Pn p n q Ζ I b e d (o+1) Δ Â:=let⟨_,k⟩:=a.F;⟨c,Pq v,_,_,g,a.t,Hz N g i y u k (Ky m) w,k.binds j⟩
def V3:(B%1)%1->Bool|some U=>L|_=>h_
def ck_mk(n:X6 q E_ (Ų b)=Z (Z (.ref e)))(i:aaF q e Str.empty=L)(k:aba q e=L)(g:aco q e=L)(d:YC q (.ref e) "__setattr__"=Z (Z (.builtin "object.__setattr__")))(a:((ė b).all λf=>V3 (YC q (.ref e) f))=L):CK q b e:=⟨n,⟨i,k,g,d⟩,λf j=>by
 have h:=XQ.mp a f j;unfold V3 at h;split at h;·assumption
 ·cases h⟩
abbrev Uv:=Sum W Nat
inductive ò where|lst(ds:W%0)|obj(k:Nat)(fs:Uv%0)|box(t:Bool)(us:Uv%0)
def bx:ò->Bool|.box _ _=>L|_=>h_
def bxO(a:V%0):Bool->HO|true=>.tup a|false=>.lst a
abbrev Ý:=ò%0
abbrev î:=Option Uv%0
def Ą(K:d_)(H:Hp)(m:O%0):Uv->V->Prop|.inl d,v=>Ü K H d v|.inr n,v=>∃a,m[n]?=Z a/\v=.ref a
def ç(K:d_)(H:Hp)(m:O%0):Uv%0->V%0->Prop|[],a=>a=[]|d::e,a=>∃v b,a=v::b/\Ą K H m d v/\ç K H m e b
def ħ(K:d_)(H:Hp)(m:O%0)(e:Hp)(a:O):ò->Prop|.lst h=>∃b,e a=Z (.lst b)/\S K H h b|.obj k fs=>∃C g d,e a=Z (.ins C g ((ė k).zip d))/\X6 K E_ (Ų k)=Z (Z (.ref C))/\ç K H m fs d/\fs.length<=(ė k).length|.box t f=>∃b,H a=Z (bxO b t)/\ç K H m f b
structure SR(K:d_)(H:Hp)(m:O%0)(S:Ý)(Hf:Hp):Prop where
 len:m.length=S.length
 nd:m.Nodup
 fr:∀(n:Nat)(a:O)(c:ò),S[n]?=Z c->m[n]?=Z a->bx c=h_->H a=U
 up:Õ H Hf
 at':∀(n:Nat)(c:ò),S[n]?=Z c->∃a,m[n]?=Z a/\ħ K H m Hf a c
structure ú(K:d_)(H:Hp)(m:O%0)(σ:L2.St)(ρ:î):Prop where
 len:σ.length=ρ.length
 at':∀(i:Nat)(d:Uv),ρ[i]?=Z (Z d)->∃v,σ[i]?=Z (Z v)/\Ą K H m d v
def q8{m b:Q%0}(p:m<+:b){n:Nat}{a:Q}(h:m[n]?=Z a):b[n]?=Z a:=by obtain⟨t,rfl⟩:=p;rw[w_ (u_.mp h).1];exact h
def Ą.mono{b:O%0}(e:Õ g ξ)(p:η<+:b):∀{d:Uv}{v:V},Ą q g η d v->Ą q ξ b d v|.inl d,v,h=>Ü.mono e d v h|.inr n,v,⟨a,h,r⟩=>⟨a,q8 p h,r⟩
def ç.mono{K:d_}{H g:Hp}{m f:O%0}(e:Õ H g)(p:m<+:f):∀{b:Uv%0}{a:V%0},ç K H m b a->ç K g f b a|[],a,h=>h|d::b,a,⟨v,i,r,h,q⟩=>⟨v,i,r,h.mono e p,ç.mono e p q⟩
def ç.length{K:d_}{H:Hp}{m:O%0}:∀{b:Uv%0}{a:V%0},ç K H m b a->a.length=b.length|[],a,h=>by cases((h));rfl|d::b,a,⟨v,e,r,_,q⟩=>by subst r;show e.length+1=b.length+1;rw[ç.length q]
def ç.get{K:d_}{H:Hp}{m:O%0}:∀{b:Uv%0}{a:V%0}{i:Nat}{d:Uv},ç K H m b a->b[i]?=Z d->∃v,a[i]?=Z v/\Ą K H m d v|[],a,i,v,h,e=>by simp at e|d::b,a,i,p,⟨f,o,r,j,q⟩,e=>by subst r;cases i with|zero=>simp at e;subst e;exact⟨f,rfl,j⟩|succ i=>obtain⟨n,k,g⟩:=ç.get q (by simpa using e);exact⟨n,by simpa using k,g⟩
def ç.set{K:d_}{H:Hp}{m:O%0}:∀{b:Uv%0}{a:V%0}(i:Nat){d:Uv}{v:V},ç K H m b a->Ą K H m d v->ç K H m (b.set i d) (a.set i v)|[],a,i,d,v,h,_=>by cases((h));exact rfl|k::b,a,i,d,v,⟨f,g,r,j,q⟩,e=>by subst r;cases i with|zero=>exact⟨v,g,rfl,e,q⟩|succ i=>exact⟨f,_,rfl,j,ç.set i q e⟩
def ç.append{K:d_}{H:Hp}{m:O%0}:∀{f e:Uv%0}{a b:V%0},ç K H m f a->ç K H m e b->ç K H m (f++e) (a++b)|[],e,a,b,h,q=>by cases((h));exact q|d::f,e,a,b,⟨g,j,r,i,t⟩,q=>by subst r;exact⟨g,_,rfl,i,ç.append t q⟩
variable{θ:î}
def ú.mono{a:O%0}(E:ú q g η Θ θ)(e:Õ g ξ)(p:η<+:a):ú q ξ a Θ θ:=⟨E.len,λi d h=>let⟨v,f,b⟩:=E.at' i d h;⟨v,f,b.mono e p⟩⟩

def ú.set{i:Nat}(E:ú q g η Θ θ)(r:Ą q g η Ë υ):ú q g η (Θ.set i (Z υ)) (θ.set i (Z Ë)):=by
 refine⟨by rw[XR,XR];exact E.len,λj d h=>?_⟩;by_cases b:i=j
 · subst b;have a:i<θ.length:=by have:=(u_.mp h).1;simpa using this
   rw[K_ a]at h;cases h;exact⟨υ,K_ (by rw[E.len];exact a),r⟩
 ·rw[z_ b]at h⊢;exact E.at' j d h
def vw1(S:Ý):Uv->W%1|.inl d=>Z d|.inr n=>match S[n]? with|some (.lst a)=>Z (.lst a)|_=>U
def vwL(S:Ý):Uv%0->(W%0)%1|[]=>Z []|u::a=>match vw1 S u,vwL S a with|some d,Z b=>Z (d::b)|_,_=>U
def vw(S:Ý):Uv->W%1|.inl d=>Z d|.inr n=>match S[n]? with|some (.lst a)=>Z (.lst a)|some (.obj k fs)=>(vwL S fs).map (.obj k)|_=>U
def ċ(S:Ý)(a:î):Ev:=a.map λo=>o.bind (vw S)
variable{j:Ý}
def SR.lst(R:SR q g η j ξ)(h:j[b]?=Z (.lst u))(i:η[b]?=Z e):Ü q ξ (.lst u) (.ref e):=by obtain⟨a,d,f,m,k⟩:=R.at' b _ h;rw[i]at d;cases d;exact⟨e,f,rfl,m,S.mono R.up _ _ k⟩
def SR.vw1(R:SR q g η j ξ):∀{u:Uv}{v:V}{d:W},Ą q g η u v->vw1 j u=Z d->Ü q ξ d v|.inl d,v,m,h,e=>by cases e;exact Ü.mono R.up _ _ h|.inr n,v,m,⟨a,i,f⟩,e=>by subst f;unfold FD.vw1 at e;match b:j[n]? with|none=>simp[b]at e|some (.obj k fs)=>simp[b]at e|some (.box _ _)=>simp[b]at e|some (.lst o)=>simp[b]at e;subst e;exact R.lst b i
def SR.vwL{K:d_}{H k:Hp}{m:O%0}{a:Ý}(R:SR K H m a k):∀{f:Uv%0}{b:V%0}{i:W%0},ç K H m f b->vwL a f=Z i->S K k i b|[],b,i,h,e=>by cases e;exact h|u::f,b,i,⟨v,o,r,h,q⟩,e=>by subst r;unfold FD.vwL at e;match g:FD.vw1 a u,j:FD.vwL a f with|some d,Z n=>rw[g,j]at e;cases e;exact .cons (R.vw1 h g) (SR.vwL R q j)|none,_=>rw[g]at e;cases e|some _,U=>rw[g,j]at e;cases e
def B1{S:Ý}:∀{a:Uv%0}{b:W%0},vwL S a=Z b->b.length=a.length|[],b,e=>by cases e;rfl|u::a,b,e=>by unfold FD.vwL at e;match g:FD.vw1 S u,f:FD.vwL S a with|some d,Z h=>rw[g,f]at e;cases e;simp[B1 f]|none,_=>rw[g]at e;cases e|some _,U=>rw[g,f]at e;cases e
def SR.vw(R:SR q g η j ξ):∀{u:Uv}{v:V}{d:W},Ą q g η u v->vw j u=Z d->Ü q ξ d v|.inl d,v,E,h,e=>by cases e;exact Ü.mono R.up _ _ h|.inr n,v,E,⟨a,o,r⟩,e=>by subst r;unfold FD.vw at e;match f:j[n]? with|none=>simp[f]at e|some (.box _ _)=>simp[f]at e|some (.lst D)=>simp[f]at e;subst e;exact R.lst f o|some (.obj k fs)=>dsimp only at e;rw[f]at e;obtain⟨b,m,C,A,p,z,y,w,s⟩:=R.at' n _ f;rw[o]at m;cases m;match i:FD.vwL j fs with|none=>simp[i]at e|some D=>simp[i]at e;subst e;exact⟨a,C,A,p,rfl,z,y,R.vwL w i,by rw[B1 i];exact s⟩
def SR.envs(R:SR q g η j ξ)(E:ú q g η Θ θ):â q ξ Θ (ċ j θ):=by refine⟨by unfold ċ;rw[T_];exact E.len,λi d h=>?_⟩;unfold ċ at h;match a:θ[i]? with|none=>simp[a]at h|some U=>simp[a]at h|some (Z u)=>simp[a]at h;obtain⟨v,e,b⟩:=E.at' i u a;exact⟨v,e,R.vw b h⟩
def pl:W->Bool|.scr _=>L|d=>ĩ d
def SR.cell(R:SR q g η j ξ){a:O}(h:a∈η):(∃e,ξ a=Z (.lst e))\/(∃C i fs,ξ a=Z (.ins C i fs))\/∃e t,g a=Z (bxO e t):=by
 obtain⟨n,m⟩:=List.getElem?_of_mem h;have p:n<j.length:=by rw[<-R.len];exact(u_.mp m).1
 obtain⟨b,o,d⟩:=R.at' n _ (r_ p);rw[m]at o;cases o;match u:j[n],d with|.lst v,d=>obtain⟨e,f,_⟩:=d;exact .inl ⟨e,f⟩|.obj k fs,d=>obtain⟨C,i,r,f,_⟩:=d;exact .inr (.inl ⟨C,i,_,f⟩)|.box t s,d=>obtain⟨e,f,_⟩:=d;exact .inr (.inr ⟨_,_,f⟩)
def SR.grow{s:Hp}(R:SR q g η j ξ)(e:Õ ξ s):∃E,Õ g E/\SR q E η j s/\∀d v,pl d=L->Ü q s d v->Ü q E d v:=by
 have w:Õ g λb=>if b∈η/\(g b).isNone=L then U else s b:=λb u h=>by simp![h,Option.isNone_some,YB,and_false];exact e b u (R.up b u h)
 have keep:∀b o,(∀p,o≠.lst p)->(∀C A fs,o≠.ins C A fs)->s b=Z o->(λb=>if b∈η/\(g b).isNone=L then U else s b) b=Z o:=λb o m i h=>by
  have:¬(b∈η/\(g b).isNone=L):=λ⟨z,y⟩=>by
   rcases R.cell z with⟨p,f⟩|⟨C,A,fs,f⟩|⟨p,t,f⟩;·exact m p (X3 (h.symm.trans (e _ _ f)))
   ·exact i C A fs (X3 (h.symm.trans (e _ _ f)))
   ·rw[f]at y;cases y
  simp![this];exact h
 refine⟨_,w,⟨R.len,R.nd,λn a c m i D=>by simp[N_ i,R.fr n a c m i D],λb u h=>?_,λn c h=>?_⟩,λd v hp r=>?_⟩
 · by_cases P:b∈η/\(g b).isNone=L;·simp![P,if_true]at h;cases h
   ·simp![P]at h;exact h
 ·obtain⟨a,ha,f⟩:=R.at' n c h;refine⟨a,ha,?_⟩;match c,f with|.lst ds,⟨p,m,i⟩=>exact⟨p,e _ _ m,S.mono w _ _ i⟩|.obj k fs,⟨C,A,Q,m,i,D,h4⟩=>exact⟨C,A,Q,e _ _ m,i,D.mono w (C_ η),h4⟩|.box t us,⟨p,m,i⟩=>exact⟨p,w _ _ m,i.mono w (C_ η)⟩
 · by_cases I:∃H,d=.scr H;·obtain⟨H,rfl⟩:=I;obtain⟨a,rv,f⟩:∃a,v=.ref a/\SqF q s a _:=r;exact⟨a,rv,f.imp (λ⟨o,h⟩=>⟨o,keep a _ ∅ ∅ h⟩) id⟩
   · have hi:ĩ d=L:=by cases d<;>first|exact hp|exact absurd ⟨_,rfl⟩ I
     exact Ü.tups (λb ys h=>keep b _ ∅ ∅ h) d v hi r
inductive Ru(α:Type)where|ok(a:α)(S:Ý)|exc(c:Nat)(S:Ý)
abbrev ë:=Ý->î->Ru Uv%1
abbrev oW:=Ý->î->Ru Bool%1
abbrev gp:=Ý->î->Ru (Uv%0)%1
def XU(X:C)(c:Nat)(H:Hp)(m:O%0)(S:Ý):Prop:=∀g f d b a s e,Õ H d->m<+:b->SR X.K d b S a->N X g f a s->Nt X a c e s->X.xe e s
def OU(X:C)(H:Hp)(m:O%0)(r:Ru Q%1)(b:Q->Hp->O%0->Hp->Prop):Prop:=match r with|none=>False|some (.exc c S)=>XU X c H m S|some (.ok a S)=>∀e d f,Õ H e->m<+:d->SR X.K e d S f->b a e d f
def fq{b:Type}(o:Ru Q%1)(k:Q->Ý->Ru b%1):Ru b%1:=match o with|none=>U|some (.exc c S)=>Z (.exc c S)|some (.ok a S)=>k a S
inductive tU(X:C)(f:ë)(σ:L2.St)(Hf:Hp)(Q:VK):Prop|mk(H:Hp)(m:O%0)(S:Ý)(ρ:î)(R:SR X.K H m S Hf)(E:ú X.K H m σ ρ)(o:OU X H m (f S ρ) λu H' m' Hf'=>∀v,Ą X.K H' m' u v->Q v Hf'):tU X f σ Hf Q
inductive tUB(X:C)(f:oW)(σ:L2.St)(Hf:Hp)(Q:Bool->Hp->Prop):Prop|mk(H:Hp)(m:O%0)(S:Ý)(ρ:î)(R:SR X.K H m S Hf)(E:ú X.K H m σ ρ)(o:OU X H m (f S ρ) λb _ _ Hf'=>Q b Hf'):tUB X f σ Hf Q
inductive tUA(X:C)(f:gp)(σ:L2.St)(Hf:Hp)(Q:V%0->Hp->Prop):Prop|mk(H:Hp)(m:O%0)(S:Ý)(ρ:î)(R:SR X.K H m S Hf)(E:ú X.K H m σ ρ)(o:OU X H m (f S ρ) λus H' m' Hf'=>∀vs,ç X.K H' m' us vs->Q vs Hf'):tUA X f σ Hf Q
structure UE(X:C)(e:s_)(f:ë):Prop where h:PE X e (tU X f)
structure UT(X:C)(e:s_)(f:oW):Prop where h:PT X e (tUB X f)
structure UW(X:C)(e:s_)(f:oW):Prop where h:PW X e (tUB X f)
structure UA(X:C)(es:s_%0)(f:gp):Prop where h:PA X es (tUA X f)
def XU.mono{d:O%0}(h:XU a b g η j)(e:Õ g ξ)(p:η<+:d):XU a b ξ d j:=λm f q k o s x n i=>h m f q k o s x (e.trans n) (p.trans i)
def OU.mono{f:O%0}{r:Ru Q%1}{b:Q->Hp->O%0->Hp->Prop}(h:OU a g η r b)(e:Õ g ξ)(p:η<+:f):OU a ξ f r b:=by match r,h with|none,h=>exact h|some (.exc c S),h=>exact XU.mono h e p|some (.ok d S),h=>exactλn j m k i=>h n j m (e.trans k) (p.trans i)
def OU.bind{j:Type}{o:Ru Q%1}{k:Q->Ý->Ru j%1}{d:j->Hp->O%0->Hp->Prop}{P:Q->Hp->O%0->Hp->Prop}(h:OU a g η (fq o k) d)(q:∀b S i e f,Õ g i->η<+:e->SR a.K i e S f->OU a i e (k b S) d->P b i e f):OU a g η o P:=by match o,h with|none,h=>exact h|some (.exc c S),h=>exact h|some (.ok b S),h=>exactλr p f n m R=>q b S r p f n m R (OU.mono h n m)
def XU.xw(h:XU a b g η j)(R:SR a.K g η j ξ):XW a b ξ:=λf d n s e k I q=>by obtain⟨o,i,m,_⟩:=R.grow k;exact h f d o η n s e i (C_ η) m I q
def aI(f:Û):ë:=λS a=>match f (ċ S a)with|none=>U|some (.exc c)=>Z (.exc c S)|some (.ok d)=>if pl d=L then Z (.ok (.inl d) S)else U
def fT(f:ñ):oW:=λS a=>match f (ċ S a)with|none=>U|some (.exc c)=>Z (.exc c S)|some (.ok d)=>Z (.ok d S)
def KZ(g:FE a h z):UE a h (aI z):=⟨λi s f u Q I⟨H,m,S,y,R,E,o⟩=>by refine g.h i s f u Q I ⟨_,R.envs E,?_⟩;unfold aI at o;match e:z _ with
 |none=>rw[e]at o;exact o.elim|some (.exc c)=>rw[e]at o;exact XU.xw o R|some (.ok d)=>
 rw[e]at o;dsimp only at o;by_cases b:pl d=L;·rw[if_pos b]at o;intro v q k r;obtain⟨w,j,p,n⟩:=R.grow k;exact o w m q j (C_ m) p v (n d v b r)
 ·rw[if_neg b]at o;exact o.elim⟩
def K0(f:FT a h Ξ):UT a h (fT Ξ):=⟨λg s e p Q I⟨H,m,S,r,R,E,o⟩=>by refine f.h g s e p Q I ⟨_,R.envs E,?_⟩;unfold fT at o;match b:Ξ _ with|none=>rw[b]at o;exact o.elim|some (.exc c)=>rw[b]at o;exact XU.xw o R|some (.ok d)=>rw[b]at o;intro n j;obtain⟨q,i,k,_⟩:=R.grow j;exact o q m n i (C_ m) k⟩
def UW.ut{p:oW}(b:UW a h p):UT a h p:=⟨b.h _⟩
def c8(i:Nat):ë:=λS a=>match a[i]? with|some (Z u)=>Z (.ok u S)|_=>U
def Pr(i:Nat)(b:PE a h (zv i)):UE a h (c8 i):=⟨λn s f e Q I⟨H,m,S,g,R,E,o⟩=>by refine b n s f e Q I ?_;unfold c8 at o;match d:g[i]? with|none=>rw[d]at o;exact o.elim|some U=>rw[d]at o;exact o.elim|some (Z u)=>rw[d]at o;obtain⟨v,k,j⟩:=E.at' i u d;exact⟨v,k,o H m e (.refl H) (C_ m) R v j⟩⟩
def Us(k j:Nat)(S:Ý):Uv->Ru Uv%1
 |.inr n=>match S[n]? with|some (.obj a fs)=>if a=k then(match fs[j]? with|some u=>Z (.ok u S)|none=>U)else U|_=>U
 |_=>U
def K1(k j:Nat)(f:ë):ë:=λS a=>fq (f S a) λu b=>Us k j b u
variable{τ:ë}
def Ps(c:CK a.K b e)(hf:(ė b)[o]?=Z d)(ho:UE a h τ)(hb:X_ h d a.env (eval h a.env)=eval h a.env:=by lk):UE a (.Attribute h d k) (K1 b o τ):=⟨λf' s σ Hf Q I⟨H,m,S,ρ,R,E,f⟩=>Hi ho.h hb f' s σ Hf Q I ⟨H,m,S,ρ,R,E,OU.bind f λu S1 H1 D A e1 p1 R1 p v r=>by match u,r,p with
 |.inl i,_,p=>exact p.elim|.inr n,⟨g,ha,hv⟩,p=>subst hv;unfold Us at p;match q:S1[n]? with
 |none=>simp[q]at p;exact p.elim|some (.lst ds)=>simp[q]at p;exact p.elim|some (.box _ _)=>simp[q]at p;exact p.elim|some (.obj P fs)=>
 simp![q]at p;by_cases hk:P=b
 ·subst hk;rw[if_pos rfl]at p;obtain⟨j,y,C',dx,vs,h1,h2,h3,h4⟩:=R1.at' n _ q;rw[ha]at y;cases y;rw[vF c h2]at h1;match z:fs[o]? with|none=>rw[z]at p;exact p.elim|some u=>rw[z]at p;obtain⟨w,g1,g2⟩:=h3.get z;exact⟨g,e,dx,_,w,rfl,h1,c.c,c.a d (N_ hf),qZ (BY P) hf g1,p H1 D A (.refl H1) (C_ D) R1 w g2⟩
 ·rw[if_neg hk]at p;exact p.elim⟩⟩
def fu:gp:=λS _=>Z (.ok [] S)
def aJ(f:ë)(g:gp):gp:=λS a=>fq (f S a) λu d=>fq (g d a) λb S2=>Z (.ok (u::b) S2)
def Pu:UA a [] fu:=⟨λe f s d b Q I⟨H,m,S,g,R,E,o⟩=>sE e f s d b Q I (o H m b (.refl H) (C_ m) R [] rfl)⟩
variable{Χ:gp}
def K2(P:UE a h τ)(D:UA a s Χ)(A:h%8:=by lk):UA a (h::s) (aJ τ Χ):=⟨λn f' b i Hf Q I⟨H,m,S,e,R,E,o⟩=>jp P.h D.h A n f' b i Hf Q I ⟨H,m,S,e,R,E,OU.bind o λu S1 H1 z a' e1 q R1 y v r=>⟨H1,z,S1,e,R1,E.mono e1 q,OU.bind y λus S2 g f d e2 p R2 w j k=>w g f d (.refl g) (C_ f) R2 _ ⟨v,j,rfl,r.mono e2 p,k⟩⟩⟩⟩
def lS(g:W->W->Rs W%1)(f:ë)(h:Û):ë:=λS e=>fq (f S e) λu a=>match vw a u,h (ċ a e)with|some d,i%3=>(match g d i with|some (.ok (.bl b))=>Z (.ok (.inl (.bl b)) a)|_=>U)|some _,c%9=>Z (.exc c a)|_,_=>U
def opP{r:R2}{b:W->W->Rs W%1}(Q:Ĝ a r b)(R:SR a.K g η j ξ)(E:ú a.K g η Θ θ)(o:OU a g η (lS b τ z j θ) λu H' P s=>∀v,Ą a.K H' P u v->Ê v s):tOp r (tU a τ) (tF a z) Θ ξ Ê:=⟨g,η,j,θ,R,E,OU.bind o λu S1 H1 y a' e1 I i e v r=>by refine⟨_,i.envs (E.mono e1 I),?_⟩;match h:vw S1 u,m:z _ with|none,_=>simp[h]at e;exact e.elim|some d,U=>simp[h,m]at e;exact e.elim|some d,c%9=>simp![h,m]at e;exact XU.xw e i|some d,D%3=>simp![h,m]at e;intro v2 Hg A H;refine Q d D v v2 Hg _ (Ü.mono A _ _ (i.vw r h)) H ?_;match f:b d D with|some (.ok (.bl k))=>rw[f]at e;intro w q p n;obtain⟨H2,e2,R2,dn⟩:=i.grow (A.trans p);exact e H2 y q e2 (C_ y) R2 w ((n))|none=>rw[f]at e;exact e.elim|some (.exc _)=>rw[f]at e;exact e.elim|some (.ok .non)=>rw[f]at e;exact e.elim|some (.ok (.int _))=>rw[f]at e;exact e.elim|some (.ok (.str _))=>rw[f]at e;exact e.elim|some (.ok (.tup _))=>rw[f]at e;exact e.elim|some (.ok (.lst _))=>rw[f]at e;exact e.elim|some (.ok (.scr _))=>rw[f]at e;exact e.elim|some (.ok (.exn _))=>rw[f]at e;exact e.elim|some (.ok (.obj _ _))=>rw[f]at e;exact e.elim⟩
def B4{b:afn}{r:R2}{g:W->W->Rs W%1}(e:ă a (XZ b) r)(i:Ĝ a r g)(n:UE a h τ)(j:FE a v z)(f:W_ b v=h_):UE a (.Compare h [b] [v] k) (lS g τ z):=⟨λp s d q Q I⟨H,m,S,u,R,E,o⟩=>zL e n.h j.h f p s d q Q I (opP i R E o)⟩
def yI(g:W->W->Rs W%1)(f h:ë):ë:=λS a=>fq (f S a) λu j=>fq (h j a) λe S2=>match vw S2 u,vw S2 e with|some d,Z i=>(match g d i with|some (.ok (.bl b))=>Z (.ok (.inl (.bl b)) S2)|_=>U)|_,_=>U
def opU{b:ë}{r:R2}{m:W->W->Rs W%1}(hg:Ĝ a r m)(R:SR a.K g η j ξ)(E:ú a.K g η Θ θ)(o:OU a g η (yI m τ b j θ) λu H' m' y=>∀v,Ą a.K H' m' u v->Ê v y):tOp r (tU a τ) (tU a b) Θ ξ Ê:=⟨g,η,j,θ,R,E,OU.bind o λu S1 H1 m1 a' e1 P R1 Q v r=>⟨H1,m1,S1,θ,R1,E.mono e1 P,OU.bind Q λD S2 H2 z s e2 I R2 e v2 H=>by match h:vw S2 u,i:vw S2 D with|none,_=>simp[h]at e;exact e.elim|some d,U=>simp[h,i]at e;exact e.elim|some d,Z A=>simp![h,i]at e;refine hg d A v v2 s _ (R2.vw (r.mono e2 I) h) (R2.vw H i) ?_;match f:m d A with|some (.ok (.bl k))=>rw[f]at e;intro w q p n;obtain⟨H3,e3,R3,dn⟩:=R2.grow p;exact e H3 z q e3 (C_ z) R3 w ((n))|none=>rw[f]at e;exact e.elim|some (.exc _)=>rw[f]at e;exact e.elim|some (.ok .non)=>rw[f]at e;exact e.elim|some (.ok (.int _))=>rw[f]at e;exact e.elim|some (.ok (.str _))=>rw[f]at e;exact e.elim|some (.ok (.tup _))=>rw[f]at e;exact e.elim|some (.ok (.lst _))=>rw[f]at e;exact e.elim|some (.ok (.scr _))=>rw[f]at e;exact e.elim|some (.ok (.exn _))=>rw[f]at e;exact e.elim|some (.ok (.obj _ _))=>rw[f]at e;exact e.elim⟩⟩
def V4(S:Ý):Uv->Ru Bool%1|.inl (.bl b)=>Z (.ok b S)|_=>U
def uB(f:ë):oW:=λS a=>fq (f S a) λu b=>V4 b u
def B5{Q:Bool->Hp->O%0->Hp->Prop}(r:Ą a.K g η Ë υ)(R:SR a.K g η j ξ)(o:OU a g η (V4 j Ë) Q):∃k,υ=.bl k/\Q k g η ξ:=by match Ë,r,o with|.inr n,_,o=>exact o.elim|.inl d,r,o=>cases d with|bl b=>exact⟨b,r,o g η ξ (.refl g) (C_ η) R⟩|_=>exact o.elim
def Pv(g:UE a h τ)(f:∀ý,isTrue h a.env ý=(do let v<-ý;acZ h.pos;ű [v] (truthy v)):=by intro _;lk):UT a h (uB τ):=⟨λi s b k Q I⟨H,m,S,d,R,E,o⟩=>GZ g.h f i s b k Q I ⟨H,m,S,d,R,E,OU.bind o λu y z q n w p j e v r=>B5 r j e⟩⟩
def K3{g:ë}{d:afn}{r:R2}{e:W->W->Rs W%1}(j:ă a (XZ d) r)(p:Ĝ a r e)(w:UE a h τ)(q:UE a v g)(n:W_ d v=h_):UT a (.Compare h [d] [v] k) (uB (yI e τ g)):=⟨λy s f A Q I⟨H,m,S,P,R,E,o⟩=>zM j w.h q.h n y s f A Q I (opU p R E (OU.bind o λu S1 H1 m1 D e1 p1 z i b r=>B5 r z i))⟩
def uOr(p q:oW):oW:=λS a=>fq (p S a) λb d=>if b=L then Z (.ok L d)else q d a
def Pw{p:oW}(b:UT a h p):UW a (.BoolOp .Or [h] k) p:=⟨G0 b.h⟩
def Px{p q:oW}(z:UT a h p)(y:UW a (.BoolOp .Or (v::s) k) q):UW a (.BoolOp .Or (h::v::s) k) (uOr p q):=⟨λu A b r Hf Q I⟨H,m,S,i,R,E,o⟩=>M7 z.h y.h u A b r Hf Q I ⟨H,m,S,i,R,E,OU.bind o λd P f e g D w n j=>by cases d with|true=>exact j f e g (.refl f) (C_ e) n|false=>exact⟨f,e,P,i,n,E.mono D w,j⟩⟩⟩
def FX(i:η.Nodup)(h:η[b]?=Z e)(j:η[o]?=Z e):b=o:=by
 obtain⟨l,a⟩:=u_.mp h;obtain⟨f,g⟩:=u_.mp j;have d:=ZF.mp i;rcases acs b o with z|z|z;·exact(d b o l f z (a.trans g.symm)).elim
 ·exact z
 ·exact(d o b f l z (g.trans a.symm)).elim
def ħ.ne{b:O}{c:ò}(h:ħ q g η ξ e c)(f:e≠b):ħ q g η (å ξ b Î) e c:=by match c,h with|.lst o,⟨i,d,a⟩=>exact⟨i,by rw[aq f];exact d,a⟩|.obj k fs,⟨C,m,j,d,a⟩=>exact⟨C,m,j,by rw[aq f];exact d,a⟩|.box t n,h=>exact h
def ħ.pre{d:O%0}{c:ò}(h:ħ q g η ξ e c)(p:η<+:d):ħ q g d ξ e c:=by match c,h with|.lst r,h=>exact h|.obj k fs,⟨C,n,i,b,a,m,j⟩=>exact⟨C,n,i,b,a,m.mono (.refl g) p,j⟩|.box t o,⟨f,b,a⟩=>exact⟨f,b,a.mono (.refl g) p⟩
def SR.put{c:ò}(R:SR q g η j ξ)(w:g e=U)(k:η[b]?=Z e)(s:ħ q g η (å ξ e Î) e c):SR q g η (j.set b c) (å ξ e Î):=by
 refine⟨by rw[XR];exact R.len,R.nd,λi y n p m v=>?_,λa u h=>?_,λi n h=>?_⟩
 · by_cases f:b=i;·subst f;rw[k]at m;cases m;exact w
   ·rw[z_ f]at p;exact R.fr i y n p m v
 · have:a≠e:=λz=>by lia
   rw[aq this];exact R.up a u h
 · by_cases f:b=i
   · subst f;have r:b<j.length:=by rw[<-R.len];exact(u_.mp k).1
     rw[K_ r]at h;cases h;exact⟨e,k,s⟩
   ·rw[z_ f]at h;obtain⟨a,o,d⟩:=R.at' i n h;exact⟨a,o,d.ne λz=>f (FX R.nd k (z▸o))⟩
def SR.fresh(R:SR q g η j ξ)(b:ξ e=U):e∉η/\g e=U:=by
 refine⟨λz=>?_,?_⟩
 · rcases R.cell z with⟨d,a⟩|⟨C,f,fs,a⟩|⟨d,t,a⟩;·rw[b]at a;cases a
   ·rw[b]at a;cases a
   ·have:=R.up e _ a;rw[b]at this;cases this
 ·cases h:g e with|none=>rfl|some u=>have:=R.up e u h;rw[b]at this;cases this
def SR.push{c:ò}(R:SR q g η j ξ)(r:ξ e=U)(s:ħ q g (η++[e]) (å ξ e Î) e c):SR q g (η++[e]) (j++[c]) (å ξ e Î):=by
 obtain⟨o,w⟩:=R.fresh r;refine⟨by simp[R.len],?_,λn a m h i y=>?_,λb u h=>?_,λn m h=>?_⟩
 · rw[Zj];refine⟨R.nd,by simp,λa h b v=>?_⟩;have:b=e:=by simpa using v
   subst this;exactλz=>o (z▸h)
 · by_cases f:n<j.length;·rw[w_ f]at h;rw[w_ (by rw[R.len];exact f)]at i;exact R.fr n a m h i y
   ·have k:=(u_.mp i).1;simp[R.len]at k;rw[G_ (by rw[R.len];lia),show n-η.length=0 by rw[R.len];lia]at i;cases i;exact w
 · have:b≠e:=λz=>by lia
   rw[aq this];exact R.up b u h
 · by_cases f:n<j.length;·rw[w_ f]at h;obtain⟨a,p,d⟩:=R.at' n m h;refine⟨a,by rw[w_ (by rw[R.len];exact f)];exact p,(d.ne λ(z)=>o (by rw[<-z];exact N_ p)).pre (Za η [e])⟩
   · have k:n=j.length:=by have:=(u_.mp h).1;simp at this;lia
     subst k;rw[G_ (o_ _),aag]at h;cases h;exact⟨e,by rw[<-R.len,G_ (o_ _),aag];rfl,s⟩
def ins:Uv%0->(W%0)%1|[]=>Z []|.inl d::a=>(ins a).map (d::·)|.inr _::_=>U
def mX{K:d_}{H:Hp}{m:O%0}:∀{b:Uv%0}{a:V%0}{f:W%0},ins b=Z f->ç K H m b a->S K H f a|[],a,f,h,r=>by cases h;exact r|.inr _::_,_,_,h,_=>by cases h|.inl d::b,a,f,h,⟨v,n,e,j,i⟩=>by subst e;unfold ins at h;cases g:ins b with|none=>rw[g]at h;cases h|some k=>rw[g]at h;cases h;exact .cons j (mX g i)
def B6(f:gp):ë:=λS d=>fq (f S d) λe b=>match ins e with|some a=>if a.length<=100000 then Z (.ok (.inr b.length) (b++[.lst a]))else U|none=>U
def SR.newL(R:SR a.K g η j ξ)(f:S a.K g u ζ)(i:ξ e=U)(o:OU a g η (Z (.ok (.inr j.length) (j++[.lst u]))) λb k h d=>∀v,Ą a.K k h b v->Ê v d):Ê (.ref e) (å ξ e (.lst ζ)):=o g _ _ (.refl g) (Za η [e]) (R.push i ⟨ζ,ao,f⟩) _ ⟨e,by rw[<-R.len,G_ (o_ _),aag];rfl,rfl⟩
def Py(q:UA a s Χ):UE a (.List s k) (B6 Χ):=⟨λu b g y Q I⟨H,m,S,h,R,E,o⟩=>wI q.h u b g y Q I ⟨H,m,S,h,R,E,OU.bind o λi S1 H1 P z e1 D w d A j=>by match f:ins i with
 |none=>simp[f]at d;exact d.elim|some v=>
 simp![f]at d;by_cases e:v.length<=100000;·rw[if_pos e]at d;have r:=mX f j;exact⟨by rw[r.length];exact bC e,λp n=>w.newL r n d⟩
 ·rw[if_neg e]at d;exact d.elim⟩⟩
def yJ(d:ê):ë:=λS b=>match d (ċ S b)with|some (.ok [.lst a])=>if é a=L then Z (.ok (.inr S.length) (S++[.lst a]))else U|_=>U
def lT{f:_}{K:d_}{H:Hp}(j:∀d v,pl d=L->Ü K f d v->Ü K H d v):∀{a:W%0}{b:V%0},é a=L->S K f a b->S K H a b
 |[],b,_,r=>r|d::a,b,i,r=>by
  obtain⟨v,k,e,n,m⟩:∃v g,b=v::g/\Ü K f d v/\S K f a g:=r;have h:ĩ d=L/\é a=L:=by simpa[é]using i
  exact⟨v,k,e,j d v (by cases d<;>first|exact h.1|rfl) n,lT j h.2 m⟩
def K4(y:Gl a "list")(q:a.mg "list"=U)(A:FA a (h::s) μ)(z:h%8:=by lk)(g:(Xv k (k_ s a.env)).any (·.1)=h_:=by lk):UE a (.Call (.Name "list" w) (h::s) [] k) (yJ μ):=⟨λf' b j Hf Q I⟨H,m,S,ρ,R,E,o⟩=>jq mz y q (by decide+kernel) A.h #v[] #v[] z g f' b j Hf Q I ⟨_,R.envs E,by unfold yJ at o;match e:μ _ with
 |none=>rw[e]at o;exact o.elim|some (.exc c)=>rw[e]at o;exact o.elim|some (.ok a')=>
 rw[e]at o;split at o
 · rename_i ds i;cases i;by_cases f:é ds=L;·rw[if_pos f]at o;intro vs Hg eg p;obtain⟨v,rfl,r⟩:=dL p;obtain⟨d,n,rfl,P,D⟩:=r.lstE;refine⟨d,n,rfl,.inl (ā.of P),λl u=>?_⟩;obtain⟨H1,e2,R1,dn⟩:=R.grow eg;exact R1.newL (lT dn f D) u (o.mono e2 (C_ m))
   ·rw[if_neg f]at o;exact o.elim
 ·exact o.elim⟩⟩
def K5(f:ë)(h:gp):ë:=λS a=>fq (f S a) λu e=>match u with|.inr n=>(match e[n]? with|some (.lst _)=>fq (h e a) λg S2=>(match ins g,S2[n]? with|some [d],Z (.lst b)=>if b.length<100000 then Z (.ok (.inl .non) (S2.set n (.lst (b++[d]))))else U|_,_=>U)|_=>U)|_=>U
def Pz(ho:UE a v τ)(ha:UA a [h] Χ)(P:X_ v "append" a.env (eval v a.env)=eval v a.env:=by lk)(a':((Xv w (k_ [h] a.env)).all (λx=>!x.1)&&(Y_ w (Yq [] a.env)).all (λx=>x.1.isSome)&&A_ ([h].length+([]:Zc%0).length+(if([]:Zc%0).isEmpty then 0 else 1)<30))=L:=by lk)(D:(k.endLine==w.line)=L:=by lk)(hs:k_ [h] a.env=(h_,eval h a.env)::k_ [] a.env:=by lk)(y:(Xv w (k_ [] a.env)).any (·.1)=h_:=by lk):UE a (.Call (.Attribute v "append" k) [h] [] w) (K5 τ Χ):=⟨λf' s σ Hf Q I⟨H,m,S,ρ,R,E,v⟩=>zZ Zi aam acB sO ho.h ha.h P a' D hs y f' s σ Hf Q I ⟨H,m,S,ρ,R,E,OU.bind v λu S1 H1 m1 g' e1 p1 R1 o g r=>by match u,r,o with|.inl d,_,o=>exact o.elim|.inr n,⟨f,ha,hv⟩,o=>subst hv;dsimp only at o;match q:S1[n]? with|none=>rw[q]at o;exact o.elim|some (.obj i fs)=>rw[q]at o;exact o.elim|some (.box _ _)=>rw[q]at o;exact o.elim|some (.lst d')=>rw[q]at o;obtain⟨b,hb,b',q1,q2⟩:=R1.at' n _ q;rw[ha]at hb;cases hb;refine⟨.inl ⟨rfl,b',ā.of q1⟩,H1,m1,S1,ρ,R1,E.mono e1 p1,OU.bind o λus S2 H2 m2 e' e2 p2 R2 j vs rs=>?_⟩;match z:ins us,p:S2[n]? with
 |some [d],Z (.lst ds)=>
 rw[z,p]at j;dsimp only at j;by_cases hl:ds.length<100000
 · rw[if_pos hl]at j;obtain⟨b,hb,xs,q3,q4⟩:=R2.at' n _ p;have A:=q8 p2 ha;rw[A]at hb;cases hb;obtain⟨e,rfl,c'⟩:=dL (mX z rs);have hz:xs.length<sizeLine:=by have:=q4.length;have h2:=bC (b:=xs.length+1) ();lia
   exact⟨f,xs,e,rfl,rfl,q3,hz,j H2 m2 _ (.refl H2) (C_ m2) (R2.put (R2.fr n _ _ p A rfl) A ⟨_,ao,q4.append ⟨e,[],rfl,c',rfl⟩⟩) _ rfl⟩
 ·rw[if_neg hl]at j;exact j.elim|none,_=>simp[z]at j;exact j.elim|some [],_=>simp[z]at j;exact j.elim|some (_::_::_),_=>simp[z]at j;exact j.elim|some [d],U=>simp[z,p]at j;exact j.elim|some [d],Z (.obj _ _)=>simp[z,p]at j;exact j.elim|some [d],Z (.box _ _)=>simp[z,p]at j;exact j.elim⟩⟩
def V5(f:ë):ë:=λS e=>fq (f S e) λu b=>match u with|.inr n=>(match b[n]? with|some (.lst a)=>(match a[a.length-1]? with|some d=>Z (.ok (.inl d) (b.set n (.lst a.dropLast)))|none=>U)|_=>U)|_=>U
def PB(ho:UE a h τ)(o:X_ h "pop" a.env (eval h a.env)=eval h a.env:=by lk)(j:(k.endLine==w.line)=L:=by lk):UE a (.Call (.Attribute h "pop" k) [] [] w) (V5 τ):=⟨λf' s σ Hf Q I⟨H,m,S,ρ,R,E,h⟩=>Np Zi aed PySem.F.type_list_pop Nq ho.h o j f' s σ Hf Q I ⟨H,m,S,ρ,R,E,OU.bind h λu S1 H1 m1 a' e1 p1 A g v r=>by match u,r,g with|.inl d,_,g=>exact g.elim|.inr n,⟨e,z,hv⟩,g=>subst hv;dsimp only at g;match i:S1[n]? with|none=>rw[i]at g;exact g.elim|some (.obj f fs)=>rw[i]at g;exact g.elim|some (.box _ _)=>rw[i]at g;exact g.elim|some (.lst ds)=>rw[i]at g;dsimp only at g;obtain⟨b,hb,D,P,p⟩:=A.at' n _ i;rw[z]at hb;cases hb;match q:ds[ds.length-1]? with|none=>rw[q]at g;exact g.elim|some d=>rw[q]at g;obtain⟨y,h1,h2⟩:=p.get' q;rw[<-p.length]at h1;refine⟨.inl ⟨rfl,D,ā.of P⟩,e,D,y,rfl,rfl,P,h1,(g H1 m1 _ (.refl H1) (C_ m1) (A.put (A.fr n _ _ i z rfl) z ⟨_,ao,?_⟩) y h2)⟩;rw[adu,adu,p.length];exact p.take _⟩⟩
inductive ũ where|nx(ρ:î)(S:Ý)|rt(u:Uv)(S:Ý)|exc(c:Nat)(S:Ý)
abbrev cm:=Ý->î->ũ%1
def OV(X:C)(H:Hp)(m:O%0)(r:ũ%1)(D:oU):Prop:=match r with|none=>False|some (.exc c S)=>XU X c H m S|some (.rt u S)=>∀v b a d,Õ H b->m<+:a->SR X.K b a S d->Ą X.K b a u v->D.rt v d|some (.nx f S)=>∀e b a d,Õ H b->m<+:a->SR X.K b a S d->ú X.K b a e f->D.nx e d
inductive tVU(X:C)(f:cm)(D:oU)(σ:L2.St)(Hf:Hp):Prop|mk(H:Hp)(m:O%0)(S:Ý)(ρ:î)(R:SR X.K H m S Hf)(E:ú X.K H m σ ρ)(o:OV X H m (f S ρ) D):tVU X f D σ Hf
structure US(X:C)(st:Yd)(f:cm):Prop where h:PS X st (tVU X f)
structure Ŝ(X:C)(st:Yd%0)(f:cm):Prop where h:Ł X st (tVU X f)
def FY(o:Ru Q%1)(k:Q->Ý->ũ%1):ũ%1:=match o with|none=>U|some (.exc c S)=>Z (.exc c S)|some (.ok a S)=>k a S
def sqV(o:ũ%1)(k:Ý->î->ũ%1):ũ%1:=match o with|some (.nx a S)=>k S a|o=>o
def OV.mono{k:O%0}{D:oU}{r:ũ%1}(h:OV a g η r D)(e:Õ g ξ)(p:η<+:k):OV a ξ k r D:=by match r,h with|none,h=>exact h|some (.exc c S),h=>exact XU.mono h e p|some (.rt u S),h=>exactλv j d i f b=>h v j d i (e.trans f) (p.trans b)|some (.nx m S),h=>exactλv j d i f b=>h v j d i (e.trans f) (p.trans b)
def OU.bindV{D:oU}{o:Ru Q%1}{k:Q->Ý->ũ%1}{P:Q->Hp->O%0->Hp->Prop}(h:OV a g η (FY o k) D)(n:∀b S f d e,Õ g f->η<+:d->SR a.K f d S e->OV a f d (k b S) D->P b f d e):OU a g η o P:=by match o,h with|none,h=>exact h|some (.exc c S),h=>exact h|some (.ok b S),h=>exactλp m e j i R=>n b S p m e j i R (OV.mono h j i)
def DF:cm:=λS a=>Z (.nx a S)
def da(f g:cm):cm:=λS a=>sqV (f S a) g
def jV(i:Nat)(f:ë):cm:=λS a=>FY (f S a) λu b=>Z (.nx (a.set i (Z u)) b)
def eE(f:ë):cm:=λS a=>FY (f S a) λ_ b=>Z (.nx a b)
def lD(f:ë):cm:=λS a=>FY (f S a) λu b=>Z (.rt u b)
def ň(p:oW)(f g:cm):cm:=λS a=>FY (p S a) λb d=>if b=L then f d a else g d a
def Sb(f:á):cm:=λS a=>match f (ċ S a)with|some (.exc c)=>Z (.exc c S)|_=>U
def K6:Ŝ a [] DF:=⟨λe s b d D I⟨H,m,S,f,R,E,o⟩=>u8 e s b d D I (o b H m d (.refl H) (C_ m) R E)⟩
variable{È:cm}
def K7(b:US a Γ È):Ŝ a [Γ] È:=⟨qG b.h⟩
def FZ{G:cm}(k:US a Γ È)(j:Ŝ a Υ G):Ŝ a (Γ::Υ) (da È G):=⟨λn s g r D I⟨H,m,S,f,R,E,o⟩=>by refine gM k.h j.h n s g r D I ⟨H,m,S,f,R,E,?_⟩;unfold da sqV at o;match b:È S f with|none=>rw[b]at o;exact o.elim|some (.exc c d)=>rw[b]at o;exact o|some (.rt u d)=>rw[b]at o;exact o|some (.nx e d)=>rw[b]at o;exactλy v i z p h q w=>⟨v,i,d,e,q,w,OV.mono o p h⟩⟩
def PC(i:Nat){x:Str}(P:a.N.Nodup)(y:a.N[i]?=Z x)(p:ŋ a.env.scope x)(A:UE a h τ)(q:Yb h (Z (.Name x w)) k.line a.env=pure h_:=by lk)(z:a.fn x=L\/a.env.scope.names.lookup x=Z .local:=by first|exact .inl rfl|exact .inr rfl|assumption):US a (.Assign [.Name x w] h k) (jV i τ):=⟨λQ s f Hf D I⟨H,m,S,g,R,E,o⟩=>pB P y p A.h q z Q s f Hf D I ⟨H,m,S,g,R,E,OU.bindV o λu S1 e d b e1 j R1 n v r=>n _ e d b (.refl e) (C_ d) R1 ((E.mono e1 j).set r)⟩⟩
def K8(p:UE a h τ)(n:Yb h U k.line a.env=pure h_:=by lk):US a (.Expr h k) (eE τ):=⟨λq s f z D I⟨H,m,S,g,R,E,o⟩=>u9 p.h n q s f z D I ⟨H,m,S,g,R,E,OU.bindV o λu A e d b w i y j v r=>j _ e d b (.refl e) (C_ d) y (E.mono w i)⟩⟩
def PD(j:UE a h τ):US a (.Return (Z h) k) (lD τ):=⟨λn s f q D I⟨H,m,S,g,R,E,o⟩=>zC j.h n s f q D I ⟨H,m,S,g,R,E,OU.bindV o λu z e d b y w p i v r=>i v e d b (.refl e) (C_ d) p r⟩⟩
def Ut{j:Yd%0}{p:oW}{G:cm}(v:UT a h p)(y:Ŝ a Υ È)(w:Ŝ a j G):US a (.If h Υ j k) (ň p È G):=⟨λz s u A D I⟨H,m,S,d,R,E,o⟩=>DP v.h y.h w.h z s u A D I ⟨H,m,S,d,R,E,OU.bindV o λb n r g P i e q f=>by cases b with|true=>exact⟨r,g,n,d,q,E.mono i e,f⟩|false=>exact⟨r,g,n,d,q,E.mono i e,f⟩⟩⟩
def PF(f:FS a Γ Ψ):US a Γ (Sb Ψ):=⟨λg s e h D I⟨H,m,S,i,R,E,o⟩=>by refine f.h g s e h D I ⟨_,R.envs E,?_⟩;unfold Sb at o;match b:Ψ _ with|none=>rw[b]at o;exact o.elim|some (.rt d)=>rw[b]at o;exact o.elim|some (.nx _)=>rw[b]at o;exact o.elim|some (.exc c)=>rw[b]at o;exact XU.xw o R⟩
def F0(k j:Nat)(w:Uv)(a:Uv%0):(Uv%0)%1:=if j<a.length then Z (a.set j w)else if j=a.length/\a.length<(ė k).length then Z (a++[w])else U
def zk(k j:Nat)(o f:ë):cm:=λS a=>FY (f S a) λw e=>FY (o e a) λu S2=>match u with|.inr n=>(match S2[n]? with|some (.obj d fs)=>if d=k then(match F0 k j w fs with|some b=>Z (.nx a (S2.set n (.obj k b)))|none=>U)else U|_=>U)|_=>U
def PH{g:ë}(c:CK a.K b e)(b':(ė b)[o]?=Z d)(ho:UE a v g)(he:UE a h τ)(hs:Yb h (Z (.Attribute v d w)) k.line a.env=pure h_:=by lk):US a (.Assign [.Attribute v d w] h k) (zk b o g τ):=⟨λf' s σ Hf D I⟨H,m,S,ρ,R,E,v⟩=>Ni ho.h he.h hs f' s σ Hf D I ⟨H,m,S,ρ,R,E,OU.bindV v λf S1 H1 m1 h' e1 p1 R1 o1 y ry=>⟨H1,m1,S1,ρ,R1,E.mono e1 p1,OU.bindV o1 λu S2 H2 m2 g' e2 p2 R2 A j r=>by match u,r,A with
 |.inl p,_,A=>exact A.elim|.inr n,⟨i,ha,hv⟩,A=>subst hv;dsimp only at A;match Q:S2[n]? with
 |none=>rw[Q]at A;exact A.elim|some (.lst ds)=>rw[Q]at A;exact A.elim|some (.box _ _)=>rw[Q]at A;exact A.elim|some (.obj k' fs)=>
 rw[Q]at A;dsimp only at A;by_cases hk:k'=b
 · subst hk;rw[if_pos rfl]at A;obtain⟨q,c',C',dx,vs,h1,h2,h3,h4⟩:=R2.at' n _ Q;rw[ha]at c';cases c';rw[vF c h2]at h1;have lv:=h3.length;refine⟨i,e,dx,_,rfl,h1,c.c,c.a d (N_ b'),?_,?_⟩
   · have:(ė k').length<1000:=by unfold ė;split<;>decide
     rw[List.length_zip];lia
   ·match z:F0 k' o f fs with
     |none=>rw[z]at A;exact A.elim|some e'=>
     rw[z]at A;have a':=ry.mono e2 p2;refine A σ H2 m2 _ (.refl H2) (C_ m2) (R2.put (R2.fr n _ _ Q ha rfl) ha ⟨e,dx,if o<vs.length then vs.set o y else vs++[y],?_,by rw[<-vF c h2];exact h2,?_,?_⟩) ((E.mono e1 p1).mono e2 p2)
     · rw[ao];unfold F0 at z;have d':o<=vs.length:=by
        by_cases hj:o<fs.length;·lia
        · rw[if_neg hj]at z;by_cases P:o=fs.length/\fs.length<(ė k').length;·lia
          ·rw[if_neg P]at z;cases z
       rw[xE (BY k') b' d' ()]
     · unfold F0 at z;by_cases hj:o<fs.length;·rw[if_pos hj]at z;cases z;rw[if_pos ()];exact h3.set o a'
       · rw[if_neg hj]at z;by_cases P:o=fs.length/\fs.length<(ė k').length;·rw[if_pos P]at z;cases z;rw[if_neg ()];exact h3.append ⟨y,[],rfl,a',rfl⟩
         ·rw[if_neg P]at z;cases z
     · unfold F0 at z;by_cases hj:o<fs.length;·rw[if_pos hj]at z;cases z;rw[XR];exact h4
       · rw[if_neg hj]at z;by_cases P:o=fs.length/\fs.length<(ė k').length;·rw[if_pos P]at z;cases z;simp;lia
         ·rw[if_neg P]at z;cases z
 ·rw[if_neg hk]at A;exact A.elim⟩⟩⟩
def Sd(b:Nat%0)(a:î):î:=b.foldl (λr j=>r.set j U) a
def ú.fgt1(j:Nat)(E:ú q g η Θ θ):ú q g η Θ (θ.set j U):=by
 refine⟨by rw[XR];exact E.len,λi d h=>?_⟩;by_cases a:j=i
 · subst a;by_cases b:j<θ.length;·rw[K_ b]at h;cases h
   ·rw[X1 (by rw[XR];lia)]at h;cases h
 ·rw[z_ a]at h;exact E.at' i d h
def ú.fgt{H:Hp}{m:O%0}{K:d_}{d:L2.St}:∀(b:Nat%0){a:î},ú K H m d a->ú K H m d (Sd b a)|[],_,E=>E|j::b,a,E=>ú.fgt b (E.fgt1 j)
abbrev ć:=Ý->Uv%0->Ru Uv%1
def kJ(n:Nat)(d:cm):ć:=λS b=>match d S (b.map Z++XF (n-b.length) U)with|some (.nx _ a)=>Z (.ok (.inl .non) a)|some (.rt u a)=>Z (.ok u a)|some (.exc c a)=>Z (.exc c a)|none=>U
def spU(K:d_)(F:ć)(n:Nat):Sp:=λg h Q E=>∃H m S e,SR K H m S h/\ç K H m e g/\e.length=n/\match F S e with|some (.ok u f)=>∀v d b a,Õ H d->m<+:b->SR K d b f a->Ą K d b u v->Q v a|some (.exc c f)=>∀C d b a,X6 K E_ (Į c)=Z (Z (.ref C))->Õ H d->m<+:b->SR K d b f a->E (.ref C) U a|none=>False
def Uu{s:Env%0}{m:XK}(o:∀C w v u,X6 q E_ (Į b)=Z (Z (.ref C))->Õ ξ w->η<+:v->SR q w v j u->m (.ref C) U u):XU (qK (Ļ p n) p n q Ζ I E d ι e ω D s f g m) b ξ η j:=by intro f' σ w v P s1 ev e1 Q R1 h⟨r,C,he,hC,F⟩;subst he;refine tu h rfl rfl rfl (F.imp λa ha=>ha.1) λh' Ts F2 A2 z=>?_;have H:=N.aft (h.pins_of (pins':=[]) λk y=>nomatch y) A2 rfl λi A=>⟨(z i A).1,(z i A).2.1,λk y=>absurd (show k∈([])from y) ∅,(z i A).2.2⟩;exact⟨r,_,P,rfl,h.os,h.bare,H.base,H.hok,F2,o C w v P hC e1 Q R1⟩
variable{Ο:Uv%0}
def ql(r:ç q g η Ο ζ):ú q g η (L2.start E ζ) (Ο.map Z++XF (E.length-Ο.length) U):=by
 have e:=r.length;refine⟨by unfold L2.start;rw[X2,X2,T_,T_,YX,YX,e],λi d h=>?_⟩;by_cases b:i<Ο.length
 ·rw[w_ (by simpa using b),P_]at h;match a:Ο[i]? with|none=>rw[a]at h;cases h|some u=>rw[a]at h;cases h;obtain⟨v,j,f⟩:=r.get a;refine⟨v,?_,f⟩;unfold L2.start;rw[w_ (by rw[T_,e];exact b),P_,j];rfl
 ·rw[G_ (by simpa using b)]at h;have:=N_ h;rw[List.mem_replicate]at this;cases this.2
variable{Ð:ć}
def B7(N w:Str%0)(y:cm)(hF:Ð=kJ N.length y)(hn:o=w.length)(Fn:Ń q d r Γ e Ç)(Sc:iL N w (au Γ))(hb:∀(k:B)(A:x_)(j:Env%0)(s:ge)(H:Hp)(E:XK),ã b (A.deeper (ĸ r (au Γ) s.heap.objs.size e k))->Ŝ (qK (Ļ p n) p n q Ζ I N r (au Γ) e k A j s H E) (bS Γ) y):ö p n q Ζ I (Ļ p n) (b+1) e Ç w (spU q Ð o):=by
 subst hF hn;obtain⟨oc,od,kV,c',pm,an,k,ct,b',rfl,lk,z⟩:=Fn.ex;refine DV lk z Sc (λvs H Q E h=>?_) λA j s Hf vs Q E hr h=>?_;·obtain⟨H,m,S,us,R,f,P,_⟩:=h;rw[f.length,P]
 ·obtain⟨H,m,S,us,R,f,P,a⟩:=h;refine⟨_,(hb k A j s Hf E hr).h,H,m,S,_,R,ql f,?_⟩;unfold kJ at a;match v:y S _ with|none=>rw[v]at a;exact a.elim|some (.exc c S1)=>rw[v]at a;exact Uu a|some (.rt u S1)=>rw[v]at a;exact a|some (.nx ρ S1)=>rw[v]at a;exactλa' H' m' D i g R' _=>a _ H' m' D i g R' rfl
def jm(F:ć)(n:Nat)(d:gp):ë:=λS b=>fq (d S b) λa e=>if a.length=n then F e a else U
def xG(R:SR a.K g η j ξ)(n:ç a.K g η Ο ζ)(q:Ο.length=b)(o:OU a g η (Ð j Ο) λu i h f=>∀v,Ą a.K i h u v->Ê v f):spU a.K Ð b ζ ξ Ê (EX a):=by refine⟨g,η,j,Ο,R,n,q,?_⟩;match k:Ð j Ο with|none=>rw[k]at o;exact o.elim|some (.ok u s)=>rw[k]at o;exactλv i h f e p m r=>o i h f e p m v r|some (.exc c s)=>rw[k]at o;exactλd i h f hC e p m=>⟨c,d,rfl,hC,XU.xw (XU.mono o e p) m⟩
def K9(G:ö a.prog a.w a.K a.mg a.base (Ļ a.prog a.w) b e Ç E (spU a.K Ð o))(A:ã b a.A)(q:a.ex=[])(hg:Gl a d)(D:a.mg d=Z (.ref e))(P:Yv a.K (.ref e)=L)(hb:ø a.K Ç E [])(ha:UA a (h::s) Χ)(r:(d==("__debug__":Str))=h_:=by lk)(he:h%8:=by lk)(p:(Xv w (k_ s a.env)).any (·.1)=h_:=by lk):UE a (.Call (.Name d k) (h::s) [] w) (jm Ð o Χ):=⟨λf' f u Hf Q I⟨H,m,S,v,R,i,g⟩=>nF G A hg D P hb .nil (yx q) ha.h r he p f' f u Hf Q I ⟨H,m,S,v,R,i,OU.bind g λy S1 H1 m1 a' e1 p1 R1 j vs z=>by
 rw[Y1];by_cases n:y.length=o;·rw[if_pos n]at j;exact xG R1 z n j
 ·rw[if_neg n]at j;exact j.elim⟩⟩
structure B8(P:m_)(w:v_)(K:d_)(mg:Str->B%1)(base:O_)(k:Nat)(C:O)(m:Str)(lv n:Nat)(F:ć):Prop where
 c:CK K k C
 h:m∉ė k
 f:∃f fd ps,MK K C m f/\ö P w K mg base (Ļ P w) lv f fd ps (spU K F (n+1))/\ø K fd ps []
def fU(k:Nat)(F:ć)(n:Nat)(g:ë)(f:gp):ë:=λS a=>fq (g S a) λu d=>match u with|.inr c=>(match d[c]? with|some (.obj e _)=>if e=k then fq (f d a) λb S2=>(if b.length=n then F S2 (.inr c::b)else U)else U|_=>U)|_=>U
def La{A:Nat}{pl:Sem Bool}(g:B8 a.prog a.w a.K a.mg a.base b e d Δ o Ð)(hr:ã A a.A)(hk:Δ<=A)(b':a.ex=[])(ho:UE a h τ)(ha:UA a (v::s) Χ)(ht:MC a h d (v::s) w k pl)(he:k_ (v::s) a.env=(h_,eval v a.env)::k_ s a.env:=by lk)(a':(Xv k (k_ s a.env)).any (·.1)=h_:=by lk):UE a (.Call (.Attribute h d w) (v::s) [] k) (fU b Ð o τ Χ):=by obtain⟨f,fd,ps,hm,G,hb⟩:=g.f;refine⟨λf' j σ Hf Q I⟨H,m,S,ρ,R,E,h⟩=>IR ho.h g.c.c hm (G.mono hk) hr hb .nil (yx b') ha.h he a' ht f' j σ Hf Q I ⟨H,m,S,ρ,R,E,OU.bind h λu S1 H1 m1 d' e1 p1 R1 y n r=>?_⟩⟩;match u,r,y with
 |.inl p,_,y=>exact y.elim|.inr n',⟨i,ha,hv⟩,y=>subst hv;dsimp only at y;match z:S1[n']? with
 |none=>rw[z]at y;exact y.elim|some (.lst ds)=>rw[z]at y;exact y.elim|some (.box _ _)=>rw[z]at y;exact y.elim|some (.obj k' fs)=>
 rw[z]at y;dsimp only at y;by_cases D:k'=b
 · subst D;rw[if_pos rfl]at y;obtain⟨q,P,C',dx,vs,h1,h2,h3,h4⟩:=R1.at' n' _ z;rw[ha]at P;cases P;rw[vF g.c h2]at h1;refine⟨i,dx,_,rfl,h1,kX g.h,H1,m1,S1,ρ,R1,E.mono e1 p1,OU.bind y λus S2 H2 m2 c' e2 p2 R2 o2 ws rs=>?_⟩;rw[Y1];by_cases hl:us.length=o;·rw[if_pos hl]at o2;exact xG (Ο:=.inr n'::us) R2 ⟨_,ws,rfl,⟨i,q8 p2 ha,rfl⟩,rs⟩ (by rw[Xu,hl]) o2
   ·rw[if_neg hl]at o2;exact o2.elim
 ·rw[if_neg D]at y;exact y.elim
def F1{pl:Sem Bool}(g:B8 a.prog a.w a.K a.mg a.base b e d o 0 Ð)(hr:ã Δ a.A)(hk:o<=Δ)(D:a.ex=[])(ho:UE a h τ)(ht:MC a h d [] w k pl):UE a (.Call (.Attribute h d w) [] [] k) (fU b Ð 0 τ fu):=by obtain⟨f,fd,ps,hm,G,hb⟩:=g.f;refine⟨λf' s σ Hf Q I⟨H,m,S,ρ,R,E,h⟩=>wJ ho.h g.c.c hm (G.mono hk) hr hb .nil (yx D) ht f' s σ Hf Q I ⟨H,m,S,ρ,R,E,OU.bind h λu S1 H1 m1 a' e1 p1 R1 p v r=>?_⟩⟩;match u,r,p with|.inl j,_,p=>exact p.elim|.inr A,⟨i,P,hv⟩,p=>subst hv;dsimp only at p;match q:S1[A]? with
 |none=>rw[q]at p;exact p.elim|some (.lst ds)=>rw[q]at p;exact p.elim|some (.box _ _)=>rw[q]at p;exact p.elim|some (.obj k' fs)=>
 rw[q]at p;dsimp only at p;by_cases y:k'=b;·subst y;rw[if_pos rfl]at p;obtain⟨n,z,C',dx,vs,h1,h2,h3,h4⟩:=R1.at' A _ q;rw[P]at z;cases z;rw[vF g.c h2]at h1;refine⟨i,dx,_,rfl,h1,kX g.h,?_⟩;exact xG (Ο:=[.inr A]) R1 ⟨_,[],rfl,⟨i,P,rfl⟩,rfl⟩ rfl p
 ·rw[if_neg y]at p;exact p.elim
structure PJ(P:m_)(w:v_)(K:d_)(mg:Str->B%1)(base:O_)(k:Nat)(C:O)(lv n:Nat)(F:ć):Prop where
 c:CK K k C
 g:mg (Ų k)=Z (.ref C)f:∃f fd ps,Mk K C f/\ö P w K mg base (Ļ P w) lv f fd ps (spU K F (n+1))/\ø K fd ps []
def yK(k:Nat)(F:ć)(n:Nat)(e:gp):ë:=λS d=>fq (e S d) λb a=>if b.length=n then fq (F (a++[.obj k []]) (.inr a.length::b)) λu S2=>(match u with|.inl .non=>Z (.ok (.inr a.length) S2)|_=>U)else U
def Lb{y:Nat}(i:PJ a.prog a.w a.K a.mg a.base b e Δ o Ð)(a':ã y a.A)(hk:Δ+1<=y)(c':a.ex=[])(hg:Gl a (Ų b))(ha:UA a (h::s) Χ)(e':(Ų b==("__debug__":Str))=h_)(he:h%8:=by lk)(b':(Xv w (k_ s a.env)).any (·.1)=h_:=by lk):UE a (.Call (.Name (Ų b) k) (h::s) [] w) (yK b Ð o Χ):=by
 obtain⟨f,fd,ps,M,G,hb⟩:=i.f;refine⟨λf' j σ Hf Q I⟨H,m,S,ρ,R,E,n⟩=>IS M G (a'.mono hk) hg i.g hb .nil (yx c') ha.h e' he b' f' j σ Hf Q I ⟨H,m,S,ρ,R,E,OU.bind n λus S1 H1 D i' e1 p1 R1 A vs rs=>?_⟩⟩;by_cases P:us.length=o
 · rw[if_pos P]at A;intro g dx ha d' z;obtain⟨H2,e2,R2,_⟩:=R1.grow (aG d' _);have g':å i' dx (.own g) g=U:=by rw[aq (by first|exact z|exact YH z)];exact ha
   have p:(D++[g])[S1.length]?=Z g:=by rw[<-R1.len,G_ (o_ _),aag];rfl
   rw[Y1];refine xG (Ο:=.inr S1.length::us) (R2.push (c:=.obj b []) g' ⟨e,dx,[],by rw[ao];simp,i.c.n,rfl,XG _⟩) ⟨_,vs,rfl,⟨g,p,rfl⟩,rs.mono e2 (Za D [g])⟩ (by rw[Xu,P]) (OU.bind (A.mono e2 (Za D [g])) λu S4 H4 m4 h' e4 p4 R4 q v r=>?_);match u,r,q with|.inr _,_,q=>exact q.elim|.inl d,r,q=>cases d with|non=>exact⟨r,q H4 m4 h' (.refl H4) (C_ m4) R4 _ ⟨g,q8 p4 p,rfl⟩⟩|_=>exact q.elim
 ·rw[if_neg P]at A;exact A.elim
def F3(F:cm):cm:=λS a=>match F S a with|some (.rt u b)=>Z (.rt u b)|_=>U
def Lc{r:ExceptHandler}{j:ExceptHandler%0}(p:∀pl E',Ŝ (RX a pl E') Υ È):US a (.Try Υ (r::j) [] [] k) (F3 È):=⟨λy s d P D I⟨H,m,S,f,R,E,o⟩=>by
 refine wpAny_Try_except (X8 ((p y _).h [] s d P {nx:=λ_ _=>False,rt:=D.rt} (AA I) ⟨H,m,S,f,R,E,?_⟩) (λw g h=>?_) λe g h=>h)
 · unfold F3 at o;split at o;·rename_i n;rw[n];exact o
   ·exact o.elim
 ·cases w with|ret u=>obtain⟨v,b,Q,A,i,q⟩:=h;exact⟨v,b,Q,kO A,i,q⟩|_=>obtain⟨_,_,_,z⟩:=h;exact X9 z⟩
abbrev lE:=(Str×Nat×Nat×ć)%0
structure Uw(P:m_)(w:v_)(K:d_)(mg:Str->B%1)(base:O_)(x:Str)(lv n:Nat)(F:ć):Prop where f:∃f fd ps,ö P w K mg base (Ļ P w) lv f fd ps (spU K F n)/\mg x=Z (.ref f)/\Yv K (.ref f)=L/\ø K fd ps []
structure Ğ(P:m_)(w:v_)(K:d_)(mg:Str->B%1)(base:O_)(T:lE):Prop where h:∀x e,T.lookup x=Z e->Uw P w K mg base x e.1 e.2.1 e.2.2
structure Ī(P:m_)(w:v_)(K:d_)(mg:Str->B%1)(base:O_)(k:Nat)(C:O)(T:lE):Prop where h:∀m e,T.lookup m=Z e->B8 P w K mg base k C m e.1 e.2.1 e.2.2
def Ld:Ğ p n q Ζ I []:=⟨λ_ _ h=>by cases h⟩
def fw{T:lE}(h:Uw p n q Ζ I d b o Ð)(t:Ğ p n q Ζ I T):Ğ p n q Ζ I ((d,b,o,Ð)::T):=⟨λd e z=>by
 rcases iq z with⟨rfl,rfl⟩|z;·exact h
 ·exact t.h d e z⟩
def Le:Ī p n q Ζ I b e []:=⟨λ_ _ h=>by cases h⟩
def gQ{T:lE}(h:B8 p n q Ζ I b e d o Δ Ð)(t:Ī p n q Ζ I b e T):Ī p n q Ζ I b e ((d,o,Δ,Ð)::T):=⟨λx a z=>by
 rcases iq z with⟨rfl,rfl⟩|z;·exact h
 ·exact t.h x a z⟩
def hX{h:O_}(w:q.In h)(y:h.Ns E_ Ζ)(N f:Str%0)(i:cm)(A:Af q d Γ e)(j:Sa d Γ f)(u:∀(g:B)(A:x_)(a:Env%0)(s:ge)(H:Hp)(E:XK),ã b (A.deeper (ĸ d (au Γ) s.heap.objs.size e g))->Ŝ (qK (Ļ p n) p n q Ζ I N d (au Γ) e g A a s H E) (bS Γ) i)(v:Ð=kJ N.length i:=by lk)(m:fnB N f (au Γ)=L:=by lk)(r:o=f.length:=by lk):Uw p n q Ζ I d (b+1) o Ð:=let⟨_,k⟩:=A.F;⟨_,_,f,B7 N f i v r k (Ky m) u,aak w y A.a,A.k,k.binds j⟩
def gS(c:CK q b e)(N g:Str%0)(i:cm)(a:Am q e r d Γ A)(j:BdQ d r Γ g)(w:∀(h:B)(a:x_)(f:Env%0)(s:ge)(H:Hp)(E:XK),ã o (a.deeper (ĸ r (au Γ) s.heap.objs.size A h))->Ŝ (qK (Ļ p n) p n q Ζ I N r (au Γ) A h a f s H E) (bS Γ) i)(y:Ð=kJ N.length i:=by lk)(m:fnB N g (au Γ)=L:=by lk)(u:Δ+1=g.length:=by lk)(v:noB b d=L:=by lk):B8 p n q Ζ I b e d (o+1) Δ Ð:=let⟨_,k⟩:=a.F;⟨c,Pq v,_,_,g,a.t,B7 N g i y u k (Ky m) w,k.binds j⟩
def Lf{h:O_}(z:q.In h)(D:h.Ns E_ Ζ)(c:CK q b e)(M:Mk q e A)(N g:Str%0)(j:cm)(a:∃y,Ń q "__init__" d Γ A y)(k:BdQ "__init__" d Γ g)(v:∀(i:B)(a:x_)(f:Env%0)(s:ge)(H:Hp)(E:XK),ã o (a.deeper (ĸ d (au Γ) s.heap.objs.size A i))->Ŝ (qK (Ļ p n) p n q Ζ I N d (au Γ) A i a f s H E) (bS Γ) j)(w:Ð=kJ N.length j:=by lk)(r:fnB N g (au Γ)=L:=by lk)(u:Δ+1=g.length:=by lk):PJ p n q Ζ I b e (o+1) Δ Ð:=let⟨_,m⟩:=a;⟨c,aak z D c.n,_,_,g,M,B7 N g j w u m (Ky r) v,m.binds k⟩
def PK(n:Nat)(b:cm):Þ:=λa=>match b [] ((a.map λd=>d%7)++XF (n-a.length) U)with|some (.rt (.inl d) _)=>d%3|_=>U
def mY{K:d_}{H:Hp}{m:O%0}:∀{f:W%0}{a:V%0},S K H f a->ç K H m (f.map .inl) a|[],a,r=>r|d::f,a,r=>by obtain⟨v,b,e,h,g⟩:∃v b,a=v::b/\Ü K H d v/\S K H f b:=r;exact⟨v,b,e,h,mY g⟩
def PM(N w:Str%0)(y:cm)(hF:Â=PK N.length y)(hn:o=w.length)(Fn:Ń q d r Γ e Ç)(Sc:iL N w (au Γ))(hb:∀(m:B)(A:x_)(k:Env%0)(s:ge)(H:Hp)(E:XK),ã b (A.deeper (ĸ r (au Γ) s.heap.objs.size e m))->Ŝ (qK Ĳ p n q Ζ I N r (au Γ) e m A k s H E).nox (bS Γ) y):ö p n q Ζ I Ĳ (b+1) e Ç w (ş q Â o):=by
 subst hF hn;obtain⟨oc,od,kV,b',pm,an,m,ct,a',rfl,lk,P⟩:=Fn.ex;refine DV lk P Sc (λvs H Q E h=>?_) λA k s H vs Q E hr h=>?_;·obtain⟨D,a,hl,_⟩:=h;rw[a.length,hl]
 ·obtain⟨D,a,hl,z⟩:=h;have g:=ql (E:=N) (mY (m:=[]) a);rw[XS,T_]at g;refine⟨_,(hb m A k s H E hr).h.nox,H,[],[],_,⟨rfl,adK,(λ_ _ _ z=>by simp at z),.refl H,(λ_ _ z=>by simp at z)⟩,g,?_⟩;unfold PK at z;have e0:(D.map λf=>Z (P' f:Uv))=D.map (Z∘P'):=rfl;rw[e0]at z;match u:y [] _ with|none=>rw[u]at z;exact z.elim|some (.exc c S)=>rw[u]at z;exact z.elim|some (.nx ρ S)=>rw[u]at z;exact z.elim|some (.rt (.inr _) S)=>rw[u]at z;exact z.elim|some (.rt (.inl f) S)=>rw[u]at z;exactλv H' m' Hf i j R r'=>z v Hf (i.trans R.up) (Ü.mono R.up _ _ r')
def Lg(d:PE a h (zv b)):UE a h (c8 b):=Pr b d
def Lh(c:CK a.K o e)(f:UE a h τ)(g:(ė o)[b]?=Z d:=by lk)(i:X_ h d a.env (eval h a.env)=eval h a.env:=by lk):UE a (.Attribute h d k) (K1 o b τ):=Ps c g f i
def Li(j:UE a h τ)(m:Ě a.N=L:=by lk)(g:a.N[b]?=Z d:=by lk)(e:jy a.env.scope d=L:=by lk)(i:a.fn d=L:=by lk)(f:Yb h (Z (.Name d w)) k.line a.env=pure h_:=by lk):US a (.Assign [.Name d w] h k) (jV b τ):=PC b (iR m) g (fE e) j f (.inl i)
def Lj{g:ë}(c:CK a.K o e)(j:UE a h g)(m:UE a v τ)(f:(ė o)[b]?=Z d:=by lk)(i:Yb v (Z (.Attribute h d w)) k.line a.env=pure h_:=by lk):US a (.Assign [.Attribute h d w] v k) (zk o b g τ):=PH c f j m i
def F4{T:lE}(D:Ğ a.prog a.w a.K a.mg a.base T)(r:ã o a.A)(g:(T.lookup d).map (λq=>q.2.2)=Z Ð)(n:a.ex=[])(A:UA a (h::s) Χ)(e:((T.lookup d).all λq=>M' q.1 o&&Œ b q.2.1)=L:=by lk)(v:a.env.kindOf d=Z .globalImplicit:=by lk)(p:(d==("__debug__":Str))=h_:=by lk)(y:h%8:=by lk)(j:(Xv k (k_ s a.env)).any (·.1)=h_:=by lk):UE a (.Call (.Name d w) (h::s) [] k) (jm Ð b Χ):=by cases i:T.lookup d with|none=>rw[i]at g;cases g|some q=>rw[i]at g e;cases g;rw[Y9,n_]at e;obtain rfl:=Yg e.2;obtain⟨f,H,E,G,u,m,z⟩:=(D.h d q i).f;exact K9 (G.mono (Ye e.1)) r n (Ģ v) u m z A p y j
def F5{T:lE}(z:Ī a.prog a.w a.K a.mg a.base b e T)(p:ã Δ a.A)(g:(T.lookup d).map (λq=>q.2.2)=Z Ð)(m:a.ex=[])(r:UE a h τ)(y:UA a (v::s) Χ)(f:((T.lookup d).all λq=>M' q.1 Δ&&Œ o q.2.1)=L:=by lk)(n:MC a h d (v::s) w k (Ur h a.env):=by delta MC;lk)(u:k_ (v::s) a.env=(h_,eval v a.env)::k_ s a.env:=by lk)(j:(Xv k (k_ s a.env)).any (·.1)=h_:=by lk):UE a (.Call (.Attribute h d w) (v::s) [] k) (fU b Ð o τ Χ):=by cases i:T.lookup d with|none=>rw[i]at g;cases g|some q=>rw[i]at g f;cases g;rw[Y9,n_]at f;obtain rfl:=Yg f.2;exact La (z.h d q i) p (Ye f.1) m r y n u j
def B9{T:lE}(s:Ī a.prog a.w a.K a.mg a.base b e T)(p:ã o a.A)(i:(T.lookup d).map (λq=>q.2.2)=Z Ð)(m:a.ex=[])(r:UE a h τ)(g:((T.lookup d).all λq=>M' q.1 o&&Œ 0 q.2.1)=L:=by lk)(n:MC a h d [] w k (Ur h a.env):=by delta MC;lk):UE a (.Call (.Attribute h d w) [] [] k) (fU b Ð 0 τ fu):=by cases j:T.lookup d with|none=>rw[j]at i;cases i|some q=>rw[j]at i g;cases i;rw[Y9,n_]at g;have f:=s.h d q j;rw[<-Yg g.2]at f;exact F1 f p (Ye g.1) m r n
def F6{g:Nat}(f:PJ a.prog a.w a.K a.mg a.base b e Δ o Ð)(i:ã g a.A)(m:a.ex=[])(v:UA a (h::s) Χ)(p:Ų b=d:=by lk)(q:M' (Δ+1) g=L:=by lk)(r:a.env.kindOf d=Z .globalImplicit:=by lk)(n:(d==("__debug__":Str))=h_:=by lk)(u:h%8:=by lk)(j:(Xv k (k_ s a.env)).any (·.1)=h_:=by lk):UE a (.Call (.Name d w) (h::s) [] k) (yK b Ð o Χ):=by subst p;exact Lb f i (Ye q) m (Ģ r) v n u j
def F7(d:a.mg "list"=U)(g:FA a (h::s) μ)(e:a.env.kindOf "list"=Z .globalImplicit:=by lk)(f:h%8:=by lk)(b:(Xv k (k_ s a.env)).any (·.1)=h_:=by lk):UE a (.Call (.Name "list" w) (h::s) [] k) (yJ μ):=K4 (Ģ e) d g f b
def PN(b:a.A.units+64<cLine)(f:UE a h τ)(e:FE a v z)(d:W_ .Eq v=h_:=by lk):UE a (.Compare h [.Eq] [v] k) (lS è τ z):=B4 (Jv b) Jz f e d
def PP(e:UE a h τ)(d:FE a v z)(b:W_ .In v=h_:=by lk):UE a (.Compare h [.In] [v] k) (lS ł τ z):=B4 Ż NX e d b
structure Lk(J:It)(a c:Int)(n:Nat):Prop where
 go:∀i H,i<n->J.go i H
 yld:∀i H x H',J.yld i H x H'->H'=H/\x=.int (a+(i:Int)*c)stop:∀i H,n<=i->J.stop i H
abbrev FnI:=Ev->(Int×Int×Nat)%1
structure UI(X:C)(tg iter:s_)(w:FnI):Prop where h:PI X tg iter λσ H R=>∃ρ a c n,â X.K H σ ρ/\w ρ=Z (a,c,n)/\∀J H',Õ H H'->Lk J a c n->R J H'
abbrev okR(n:Int):Prop:=-(2^62)<=n/\n<2^62
def iU1(b:ê):FnI:=λa=>match b a with|some (.ok [.int n])=>if okR n then Z (0,1,n.toNat)else U|_=>U
def Ux(a:Int)(n:Nat):Lk (Itr a n) a 1 n:=⟨λ_ _ h=>h,λi H x b⟨h,e⟩=>⟨h,by rw[e,Int.mul_one]⟩,λ_ _ h=>h⟩
def WX(q:Gl a "range")(p:a.mg "range"=U)(r:FA a [v] μ)(m:k_ [v] a.env=[(h_,eval v a.env)]:=by lk):UI a h (.Call (.Name "range" k) [v] [] w) (iU1 μ):=⟨λy s f H R I⟨g,Q,P,D,E,d,u⟩=>by
 refine sw q p r.h m y s f H R I ⟨g,E,?_⟩;unfold iU1 at d;split at d
 · rename_i n o;rw[o];split at d;·rename_i e;cases d;intro A Hg z j;obtain⟨b,rfl,i⟩:=dL j;exact⟨n,by rw[(i)],e.1,e.2,u _ _ z (Ux 0 _)⟩
   ·cases d
 ·cases d⟩
def MR(b:(Str×Nat)%0)(a:î):î:=b.map λc=>(a[c.2]?).join
def F8(f:(Str×Nat)%0)(E:ú q g η Θ θ):ú q g η (nJ 1 f Θ) (U::MR f θ):=by refine⟨by simp[nJ,MR],λi d h=>?_⟩;obtain⟨k,rfl,b⟩:=nK (b:=1) h;rw[P_]at b;cases e:f[k]? with|none=>rw[e]at b;simp at b|some c=>
 rw[e]at b;simp![Zp,aap]at b;have n:θ[c.2]?=Z (Z d):=by cases a:θ[c.2]? with|none=>rw[a]at b;simp at b|some o=>rw[a]at b;simp at b;rw[b]
 obtain⟨v,m,j⟩:=E.at' c.2 d n;refine⟨v,?_,j⟩;unfold nJ;rw[G_ ∅];simp[e,m]
def uOk(f:ë):ë:=λS a=>match f S a with|some (.ok u b)=>Z (.ok u b)|_=>U
def Se(p:oW):oW:=λS a=>fq (p S a) λb d=>Z (.ok (!b) d)
def Ll{p:oW}(n:UT a h p):UT a (.UnaryOp .Not h k) (Se p):=⟨λq s g u Q I⟨H,m,S,i,R,E,o⟩=>Ha n.h q s g u Q I ⟨H,m,S,i,R,E,OU.bind o λb y f e d w v r j=>j f e d (.refl f) (C_ e) r⟩⟩
def F9(e i N:Nat)(F:cm)(g:Û):cm:=λS b=>match F S b with|some (.rt u a)=>Z (.rt u a)|some (.exc c a)=>if c<e then(match g ((XF N U).set i (Z (.exn c)))with|some (.ok d)=>if FD.pl d=L then Z (.rt (.inl d) a)else U|_=>U)else U|_=>U
def Lm{n':Pos}(mm i A:Nat)(b':a.ex=[])(p':a.stack=a.env::a.outer)(s':a.env.frame=Z a.env.locals)(r':Gl a d)(g':a.mg d=Z (.ref e))(KJ:excIn a.K e ů "ValueError.__new__"=L)(xk:∀c y,c<mm->nsIn a.K E_ (Į c)=Z (Z (.ref y))->excIn a.K y ů "ValueError.__new__"=L/\mroIn a.K y (.ref e)=Z L)(hN:a.N.Nodup)(hi:a.N[i]?=Z r)(hl:a.env.scope.names.lookup r=Z .local)(u':a.N.length=A)(hb:∀pl E',Ŝ (RX a pl E') Υ È)(hh:∀pl g,FE (Az a pl g) h z)(t':(d==("__debug__":Str))=h_:=by lk):US a (.Try Υ [.ExceptHandler (Z (.Name d k)) (Z r) [.Return (Z h) w] Λ] [] [] n') (F9 mm i A È z):=by
 constructor;intro f' s σ Hf D I⟨H,m,S,ρ,R,E,o⟩;refine wpAny_Try_except ?_;refine X8 ((λE'(Q)=>(hb f' E').h [] s σ Hf {nx:=λ_ _=>False,rt:=D.rt} (AA I) ⟨H,m,S,ρ,R,E,Q⟩) (λg k'=>xy _ a.A _ _ a.xe k') ?_) (λfl s1 hs=>?_) λg s1 hs=>hs
 ·unfold F9 at o;match hf:È S ρ with
  |none=>rw[hf]at o;exact o.elim|some (.nx _ _)=>rw[hf]at o;exact o.elim|some (.rt u S1)=>rw[hf]at o;exact o|some (.exc c S1)=>
  rw[hf]at o;dsimp only at o;by_cases c':c<mm
  · rw[if_pos c']at o;intro ps d' H0 m0 H1 s1 ev same pre R1 I1⟨g,y,he,hC,È⟩;subst he;have fe:=È.1;have fn:=È.2.1;refine Ex I1 b' p' s' È λh2 Ts a0 k1 k2 k3 k4 k5=>?_;have i':=I1.pins_of (pins':=[]) λp hp=>absurd hp ∅;have h':∀b,b=g\/b∈Ts->H1 b=U/\a.s₀.heap.get? b=U/\(∀p∈(a.pn++f')++[],p.1≠b)/\∃o vs,s1.heap.get? b=Z o/\o.data=.fields vs:=λb hb=>⟨(k5 b hb).1,(k5 b hb).2.1.1,λp hp=>(k5 b hb).2.1.2 p (by simpa using hp),(k5 b hb).2.2⟩;have J2:N (Az a f' g) [] d' H1 _:=wU (kO (N.aft i' (wS I1 k1 k4) b' h'));have o':=k3;obtain⟨oe,vs,T,oT,ts,t1,⟨t2,t3⟩,t4,_⟩:=o';obtain⟨xC,xm⟩:=xk c y c' hC;refine wpAny_handleBy_cons (codeAny_handlers_test (lG J2 r' g' (AB (Ζ:=λ_=>Z _) (d:=r) J2.kIn (Av J2.kIn rfl xC) (Av J2.kIn g' KJ) t1 t2 xm ?_) t')) (by intro f;cases f);refine codeAny_handlers_suite_as (abp k1 k2 k3.at λh3 m1 m2 m3 m4=>?_);have A3:=wS I1 m1 λb o q n=>by obtain⟨sl,q'⟩:=k4 b o q n;exact⟨sl,m4 b _ q' n⟩
    have I3:=N.aft i' A3 b' h';obtain⟨e',w',T3,y',x',u1,⟨u2,u3⟩,u4,_⟩:=m3;refine mP (a:=Az a f' g) (wU (kO (N.freeze I3 fe u1 u4 fn.1 λp hp=>fn.2 p (by simpa using hp)))) hN hi (.inl hl) (υ:=.ref g) rfl (λs5 J5=>?_) (.inr hl);have E5:â a.K (å H1 g (.frz e' (.ext λ_=>True))) (d'.set i (Z (.ref g))) ((XF A U).set i (Z (.exn c))):=by
     refine â.set ⟨?_,λj n hj=>?_⟩ (⟨g,e',_,y,rfl,ao,u2,hC⟩);·rw[I1.len,YX];exact u'
     ·rw[Z7]at hj;split at hj<;>cases hj
    match hg:z ((XF A U).set i (Z (.exn c)))with
    |none=>rw[hg]at o;exact o.elim|some (.exc c2)=>rw[hg]at o;exact o.elim|some (.ok n)=>
     rw[hg]at o;dsimp only at o;by_cases a':FD.pl n=L
     ·rw[if_pos a']at o;have l':=(z8 (Ho (k:=w) (hh f' g))).h [] s5 _ _ {nx:=λ_ _=>False,rt:=D.rt} J5 ⟨_,E5,(by unfold aL;rw[hg];intro v H' e1 P;obtain⟨H2,e2,R2,dn⟩:=R1.grow ((aG fe _).trans e1);exact o v H2 m0 H' (same.trans e2) pre R2 (dn n v a' P))⟩;refine X8 l' (λfl s6 hs=>?_) λ_ _ f=>f.elim;cases fl with|ret u=>obtain⟨v,v',H6,J6,rv,q6⟩:=hs;have J7:=yy I.ok J6;exact c_ (wpAny_bindName (mP J7 hN hi (.inl hl) (υ:=.non) rfl (λs7 J8=>(Ay J8 hN hi hl (K_ (by rw[J7.len];exact(u_.mp hi).1)) λs8 J9=>⟨v,_,H6,J9,rv,q6⟩)) (.inr hl)))|next=>obtain⟨_,_,_,f⟩:=hs;exact X9 f|brk=>obtain⟨_,_,_,f⟩:=hs;exact X9 f|cont=>obtain⟨_,_,_,f⟩:=hs;exact X9 f
     ·rw[if_neg a']at o;exact o.elim
  ·rw[if_neg c']at o;exact o.elim
 ·cases fl with|ret u=>obtain⟨v,m',H',I',rv,q⟩:=hs;exact⟨v,m',H',kO I',rv,q⟩|next=>obtain⟨_,_,_,f⟩:=hs;exact X9 f|brk=>obtain⟨_,_,_,f⟩:=hs;exact X9 f|cont=>obtain⟨_,_,_,f⟩:=hs;exact X9 f
def Ga{T:lE}(hT:Ğ a.prog a.w a.K a.mg a.base T)(hr:ã b a.A)(p:(T.lookup d).map (λq=>q.2.2)=Z Ð)(ha:UA a (h::s) Χ)(n:((T.lookup d).all λq=>M' q.1 b&&Œ o q.2.1)=L:=by lk)(hg:a.env.kindOf d=Z .globalImplicit:=by lk)(b':(d==("__debug__":Str))=h_:=by lk)(he:h%8:=by lk)(P:(Xv w (k_ s a.env)).any (·.1)=h_:=by lk):UE a (.Call (.Name d k) (h::s) [] w) (uOk (jm Ð o Χ)):=by cases z:T.lookup d with|none=>rw[z]at p;cases p|some q=>rw[z]at p n;cases p;rw[Y9,n_]at n;obtain⟨f,fd,ps,G,hm,a',hb⟩:=(hT.h d q z).f;refine⟨λf' g σ Hf Q I⟨H,m,S,ρ,R,E,e⟩=>nF (G.mono (Ye n.1)) hr (Ģ hg) hm a' hb .nil Uq ha.h b' he P f' g σ Hf Q I ⟨H,m,S,ρ,R,E,?_⟩⟩;unfold uOk jm fq at e;match i:Χ S ρ with
 |none=>rw[i]at e;exact e.elim|some (.exc c D)=>rw[i]at e;exact e.elim|some (.ok y D)=>
 rw[i]at e;intro H1 m1 d' e1 p1 R1 vs rs;rw[Y1];dsimp only at e;by_cases A:y.length=o
 ·rw[if_pos A]at e;refine⟨H1,m1,D,y,R1,rs,by rw[A,(Yg n.2)],?_⟩;match j:q.2.2 D y with|none=>rw[j]at e;exact e.elim|some (.ok u S')=>rw[j]at e;exactλv H' m' c' h k R' r=>e H' m' c' (e1.trans h) (p1.trans k) R' v r|some (.exc c S')=>rw[j]at e;exact e.elim
 ·rw[if_neg A]at e;exact e.elim
def ħ.up{i:Hp}{c:ò}(h:ħ q g η i e c)(a:Õ g ξ):ħ q ξ η i e c:=by match c,h with|.lst r,⟨f,d,b⟩=>exact⟨f,d,S.mono a _ _ b⟩|.obj k fs,⟨C,o,j,d,b,n,m⟩=>exact⟨C,o,j,d,b,n.mono a (C_ η),m⟩|.box t p,⟨f,d,b⟩=>exact⟨f,a _ _ d,b.mono a (C_ η)⟩
def SR.frz(o:HO)(R:SR q g η j ξ)(r:ξ e=U):Õ g (å g e o)/\SR q (å g e o) η j (å ξ e o):=by
 obtain⟨i,v⟩:=R.fresh r;have d:=aG v o;refine⟨d,R.len,R.nd,λn a c y p w=>?_,λb u h=>?_,λn c h=>?_⟩;·have s:a≠e:=λz=>i (z▸N_ p);rw[aq s];exact R.fr n a c y p w
 · by_cases k:b=e;·subst k;rw[ao]at h⊢;exact h
   ·rw[aq k]at h⊢;exact R.up b u h
 ·obtain⟨a,m,f⟩:=R.at' n c h;exact⟨a,m,(f.ne (b:=e) λz=>i (z▸N_ m)).up d⟩
def SR.pin(R:SR q g η j ξ)(p:e∉η)(m:g e=Z (bxO ζ H))(r:ç q g η Ο ζ):SR q g (η++[e]) (j++[.box H Ο]) ξ:=by
 refine⟨by simp[R.len],?_,λn a c h k i=>?_,R.up,λn c h=>?_⟩
 · rw[Zj];refine⟨R.nd,by simp,λa h b s=>?_⟩;have:b=e:=by simpa using s
   subst this;exactλz=>p (z▸h)
 · by_cases f:n<j.length;·rw[w_ f]at h;rw[w_ (by rw[R.len];exact f)]at k;exact R.fr n a c h k i
   · rw[G_ ()]at h;have:c=.box H Ο:=by have:=N_ h;simpa using this
     subst this;cases i
 · by_cases f:n<j.length;·rw[w_ f]at h;obtain⟨a,u,d⟩:=R.at' n c h;exact⟨a,by rw[w_ (by rw[R.len];exact f)];exact u,d.pre (Za η [e])⟩
   · have o:n=j.length:=by have:=(u_.mp h).1;simp at this;lia
     subst o;rw[G_ (o_ _),aag]at h;cases h;exact⟨e,by rw[<-R.len,G_ (o_ _),aag];rfl,ζ,m,r.mono (.refl g) (Za η [e])⟩
def SR.newB(R:SR a.K g η j ξ)(h:ç a.K g η Ο ζ)(f:ξ e=U)(o:OU a g η (Z (.ok (.inr j.length) (j++[.box H Ο]))) λu m i d=>∀v,Ą a.K m i u v->Ê v d):Ê (.ref e) (å ξ e (bxO ζ H)):=by obtain⟨b,k⟩:=R.frz _ f;exact o _ _ _ b (Za η [e]) (k.pin (R.fresh f).1 ao (h.mono b (C_ η))) _ ⟨e,by rw[<-R.len,G_ (o_ _),aag];rfl,rfl⟩
def SR.newF{d:W}(R:SR a.K g η j ξ)(m:ξ e=U)(i:∀f,Õ g f->f e=Z Î->Ü a.K f d (.ref e))(o:OU a g η (Z (.ok (.inl d) j)) λu f k h=>∀v,Ą a.K f k u v->Ê v h):Ê (.ref e) (å ξ e Î):=by obtain⟨b,n⟩:=R.frz Î m;exact o _ η _ b (C_ η) n _ (i _ b ao)
def nwU(z:Bool)(S:Ý):W->Ru Uv%1|.lst a=>if é a=L then(if z=L then Z (.ok (.inr S.length) (S++[.lst a]))else Z (.ok (.inl (.lst a)) S))else U|_=>U
def į(z:Bool)(f:Û):ë:=λS a=>match f (ċ S a)with|none=>U|some (.exc c)=>Z (.exc c S)|some (.ok d)=>nwU z S d
def SR.nw(R:SR a.K g η j ξ)(o:OU a g η (nwU H j m) λu w z k=>∀v,Ą a.K w z u v->Ê v k):∃n,m=.lst n/\∀b p d,Õ ξ b->b p=U->S a.K b n d->Ê (.ref p) (å b p (.lst d)):=by
 unfold nwU at o;split at o
 · rename_i i;by_cases f:é i=L;·rw[if_pos f]at o;refine⟨i,rfl,λb p d e q y=>?_⟩;obtain⟨I,A,s,E⟩:=R.grow e;have r:=lT E f y;have o:=OU.mono o A (C_ η);cases H with|true=>exact s.newL r q o|false=>exact s.newF (d:=.lst i) q (λw D h=>⟨p,d,rfl,h,S.mono D _ _ r⟩) o
   ·rw[if_neg f]at o;exact o.elim
 ·exact o.elim
def PQ(b:Bool)(g:PE a h (tFr a z)):UE a h (į b z):=⟨λi s f j Q I⟨H,m,S,k,R,E,o⟩=>g i s f j Q I ⟨_,R.envs E,by unfold į at o;match e:z _ with|none=>rw[e]at o;exact o.elim|some (.exc c)=>rw[e]at o;exact XU.xw o R|some (.ok d)=>rw[e]at o;exact R.nw o⟩⟩
def Ln(h:PS a Γ (tC a b z)):US a Γ (jV b (į L z)):=⟨λp s j y D I⟨H,m,S,A,R,E,o⟩=>h p s j y D I ⟨_,R.envs E,by unfold jV į at o;match e:z _ with|none=>rw[e]at o;exact o.elim|some (.exc c)=>rw[e]at o;exact XU.xw o R|some (.ok d)=>rw[e]at o;exact R.nw (OU.bindV o λu P i g f q k w n v r=>n _ i g f (.refl i) (C_ g) w ((E.mono q k).set r))⟩⟩
def kZ:Þ
 |[.lst e]=>match qc e with|some d=>if gO d=L then .lst ((isortB (λa b=>!Ċ b a) d).map W.tup)%3 else U|none=>U
 |_=>U
def Gb(hu:a.A.units+64<cLine)(hg:Gl a "sorted")(hm:a.mg "sorted"=U)(ha:FA a (h::s) μ)(he:h%8:=by lk)(y:(Xv k (k_ s a.env)).any (·.1)=h_:=by lk):PE a (.Call (.Name "sorted" w) (h::s) [] k) (tFr a (ì kZ μ)):=λf' e σ H Q I⟨D,E,o⟩=>iM (yF hu) hg hm (by decide+kernel) ha.h #v[] #v[] he y f' e σ H Q I ⟨D,E,by unfold ì at o;match m:μ D with
 |none=>rw[m]at o;exact o.elim|some (.exc c)=>rw[m]at o;exact o|some (.ok ds)=>
 rw[m]at o;intro P H1 e1 rs;have o:(match kZ ds with|none=>False|some (.exc c)=>XW a c H|some (.ok d)=>∃j,d=.lst j/\∀n w P,Õ H n->n w=U->S a.K n j P->Q _ _):=o;unfold kZ at o;split at o;·exact o.elim
 · rename_i b;split at b
   · split at b;·split at b<;>cases b
     ·cases b
   ·cases b
 · rename_i b;split at b
   · split at b
     · rename_i i g;split at b;·rename_i z;cases b;obtain⟨j,ey,q⟩:=o;cases ey;obtain⟨v,rfl,r⟩:=dL rs;obtain⟨f,ws,rfl,h1,h2⟩:=r.lstE;rw[xt g]at h2;exact⟨f,ws,i,rfl,h1,h2,z,λl p A u=>q H1 l p e1 A u⟩
       ·cases b
     ·cases b
   ·cases b⟩
def Lo(t:Bool)(e:gp):ë:=λS d=>fq (e S d) λa b=>if a.length<=100000 then Z (.ok (.inr b.length) (b++[.box t a]))else U
def Lq(n:UA a s Χ):UE a (.List s k) (Lo h_ Χ):=⟨λq b g u Q I⟨H,m,S,h,R,E,o⟩=>wI n.h q b g u Q I ⟨H,m,S,h,R,E,OU.bind o λi D P z v A y r d w f=>by
 by_cases e:i.length<=100000;·rw[if_pos e]at d;exact⟨by rw[f.length];exact bC e,λp j=>r.newB f j d⟩
 ·rw[if_neg e]at d;exact d.elim⟩⟩
def Lr(q:UA a s Χ):UE a (.Tuple s b k) (Lo L Χ):=⟨λr d h v Q I⟨H,m,S,i,R,E,o⟩=>zR q.h r d h v Q I ⟨H,m,S,i,R,E,OU.bind o λj P H1 A w D z u e y g=>by
 by_cases f:j.length<=100000;·rw[if_pos f]at e;exact⟨by rw[g.length];exact bC f,λp n=>u.newB g n e⟩
 ·rw[if_neg f]at e;exact e.elim⟩⟩
def PR(e:gp):ë:=λS b=>fq (e S b) λd f=>match ins d with|some a=>if a.length<=100000 then Z (.ok (.inl (.tup a)) f)else U|none=>U
def Ls(z:UA a s Χ):UE a (.Tuple s b k) (PR Χ):=⟨λA d n Hf Q I⟨H,m,e,q,R,E,o⟩=>zR z.h A d n Hf Q I ⟨H,m,e,q,R,E,OU.bind o λv S1 H1 m1 a' e1 p1 P f u w=>by match i:ins v with
 |none=>simp[i]at f;exact f.elim|some j=>
 simp![i]at f;by_cases g:j.length<=100000;·rw[if_pos g]at f;have r:=mX i w;exact⟨by rw[r.length];exact bC g,λp y=>P.newF (d:=.tup j) y (λH' D h=>⟨p,u,rfl,h,S.mono D _ _ r⟩) f⟩
 ·rw[if_neg g]at f;exact f.elim⟩⟩
def vG(e:gp):ë:=λS d=>fq (e S d) λb a=>match b with|[.inr n]=>(match a[n]? with|some (.lst f)=>Z (.ok (.inl (.lst f)) a)|some (.box _ b)=>Z (.ok (.inr a.length) (a++[.box h_ b]))|_=>U)|_=>U
def Lu(hm:a.mg "list"=U)(u:UA a (h::s) Χ)(hg:a.env.kindOf "list"=Z .globalImplicit:=by lk)(he:h%8:=by lk)(D:(Xv k (k_ s a.env)).any (·.1)=h_:=by lk):UE a (.Call (.Name "list" w) (h::s) [] k) (vG Χ):=⟨λf' e P Hf Q I⟨H,m,g,ρ,R,E,o⟩=>jq mz (Ģ hg) hm (by decide+kernel) u.h #v[] #v[] he D f' e P Hf Q I ⟨H,m,g,ρ,R,E,OU.bind o λus S1 H1 m1 a' e1 p1 j i vs rs=>by
 split at i
 · rename_i n;obtain⟨v,ws,rfl,⟨d,u,rfl⟩,hw⟩:=rs;cases((hw));split at i;·rename_i ds z;obtain⟨b,p,q,r,y⟩:=j.at' n _ z;rw[u]at p;cases p;exact⟨d,q,rfl,.inl (ā.of r),λl A=>j.newF (d:=.lst ds) A (λH' e' f=>⟨l,q,rfl,f,S.mono e' _ _ y⟩) i⟩
   ·rename_i t us z;obtain⟨b,p,q,r,y⟩:=j.at' n _ z;rw[u]at p;cases p;refine⟨d,q,rfl,?_,λl A=>j.newB y A i⟩;cases t with|true=>exact .inr (û.of (j.up _ _ r))|false=>exact .inl (ā.of (j.up _ _ r))
   ·exact i.elim
 ·exact i.elim⟩⟩
def Sg:ò->ò->ò%1|.lst a,.lst b=>if a.length+b.length<=100000 then Z (.lst (a++b))else U|.box h_ a,.box h_ b=>if a.length+b.length<=100000 then Z (.box h_ (a++b))else U|_,_=>U
def Uy(S:Ý)(u w:Uv):Ru Uv%1:=match u,w with|.inr n,.inr k=>(match S[n]?,S[k]? with|some c,Z d=>(match Sg c d with|some e=>Z (.ok (.inr S.length) (S++[e]))|none=>U)|_,_=>U)|_,_=>U
def PU(f g:ë):ë:=λS a=>fq (f S a) λu b=>fq (g b a) λw S2=>Uy S2 u w
def PV{g:ë}(ha:UE a h τ)(hb:UE a v g):UE a (.BinOp h .Add v k) (PU τ g):=⟨λf' s σ Hf Q I⟨H,m,S,ρ,R,E,o⟩=>Nb Hk ha.h hb.h f' s σ Hf Q I ⟨H,m,S,ρ,R,E,OU.bind o λu S1 H1 m1 d' e1 p1 R1 o1 f r=>⟨H1,m1,S1,ρ,R1,E.mono e1 p1,OU.bind o1 λw S2 H2 m2 c' e2 p2 R2 i v2 r2=>by
 have r':=r.mono e2 p2;clear r;unfold Uy at i;split at i
 · rename_i n b;obtain⟨a1,b',rfl⟩:=r';obtain⟨a2,a',rfl⟩:=r2;split at i
   · rename_i c d h1 h2;obtain⟨b1,A,q1⟩:=R2.at' n _ h1;obtain⟨b2,z,q2⟩:=R2.at' b _ h2;rw[b']at A;rw[a']at z;cases A;cases z;split at i
     · rename_i e j;unfold Sg at j;split at j
       · split at j;·rename_i hl;cases j;obtain⟨P,g1,y⟩:=q1;obtain⟨D,g3,q⟩:=q2;exact⟨a1,a2,P,D,rfl,rfl,g1,g3,by rw[y.length,q.length];exact bC hl,λp hp=>R2.newL (y.append q) hp i⟩
         ·cases j
       · split at j;·rename_i hl;cases j;obtain⟨P,g1,y⟩:=q1;obtain⟨D,g3,q⟩:=q2;exact⟨a1,a2,P,D,rfl,rfl,R2.up _ _ g1,R2.up _ _ g3,by rw[y.length,q.length];exact bC hl,λp hp=>R2.newB (y.append q) hp i⟩
         ·cases j
       ·cases j
     ·exact i.elim
   ·exact i.elim
 ·exact i.elim⟩⟩⟩
structure WkU(K:d_)(J:It)(us:Uv%0)(H:Hp)(m:O%0):Prop where
 go:∀i Hf,Õ H Hf->i<us.length->J.go i Hf
 stop:∀Hf,Õ H Hf->J.stop us.length Hf
 yld:∀i Hf x Hf',Õ H Hf->i<us.length->J.yld i Hf x Hf'->Hf'=Hf/\∃u,us[i]?=Z u/\Ą K H m u x
structure UV(X:C)(tg iter:s_)(w:gp):Prop where h:PI X tg iter λσ Hf R=>∃H m S ρ,SR X.K H m S Hf/\ú X.K H m σ ρ/\OU X H m (w S ρ) λus H' m' Hf'=>∀J,WkU X.K J us H' m'->R J Hf'
def HY(t:Bool)(S:Ý):Uv->(Uv%0)%1
 |.inl (.lst a)=>if t=h_ then Z (a.map .inl)else U|.inl (.tup a)=>if t=L then Z (a.map .inl)else U|.inr n=>match S[n]? with|some (.box d b)=>if d=t then Z b else U|_=>U
 |_=>U
def Lv(t:Bool)(g:ë):gp:=λS b=>fq (g S b) λu a=>match HY t a u with|some d=>Z (.ok d a)|none=>U
def Ca(h:HY H j Ë=Z Ο)(R:SR q g η j ξ)(r:Ą q g η Ë υ):∃a d,υ=.ref a/\g a=Z (bxO d H)/\ç q g η Ο d:=by
 unfold HY at h;split at h
 · split at h;·rename_i e;cases h;cases e;obtain⟨a,d,rfl,i,f⟩:=Ü.lstE r;exact⟨a,d,rfl,i,mY f⟩
   ·cases h
 · split at h;·rename_i e;cases h;cases e;obtain⟨a,d,rfl,i,f⟩:=Ü.tupE r;exact⟨a,d,rfl,i,mY f⟩
   ·cases h
 · rename_i n;split at h
   · rename_i s p m;split at h;·rename_i e;cases h;cases e;obtain⟨a,o,rfl⟩:=r;obtain⟨b,k,d,i,f⟩:=R.at' n _ m;rw[o]at k;cases k;exact⟨a,d,rfl,i,f⟩
     ·cases h
   ·cases h
 ·cases h
def Uz(h:g e=Z (.lst ζ))(r:ç q g η Ο ζ):WkU q (Itl q e) Ο g η where
 go:=λi f a b=>by
  have j:i<ζ.length:=by rw[r.length];exact b
  exact⟨ζ,ζ[i],ā.of (a _ _ h),by simp[j]⟩
 stop:=λf a=>⟨ζ,ā.of (a _ _ h),by rw[r.length];exact o_ _⟩;yld:=λi f x n a b⟨m,y⟩=>by obtain⟨v,d,k⟩:=r.get (r_ b);rw[y ζ (ā.of (a _ _ h))]at d;cases d;exact⟨m,_,r_ b,k⟩
def UB(h:g e=Z (.tup ζ))(r:ç q g η Ο ζ):WkU q (Itt q e) Ο g η where
 go:=λi f a b=>by
  have j:i<ζ.length:=by rw[r.length];exact b
  exact⟨ζ,ζ[i],û.of (a _ _ h),by simp[j]⟩
 stop:=λf a=>⟨ζ,û.of (a _ _ h),by rw[r.length];exact o_ _⟩;yld:=λi f x n a b⟨m,y⟩=>by obtain⟨v,d,k⟩:=r.get (r_ b);rw[y ζ (û.of (a _ _ h))]at d;cases d;exact⟨m,_,r_ b,k⟩
def HZ(w:FnI):gp:=λS b=>match w (ċ S b)with|some (a,c,n)=>Z (.ok ((y_ n).map λ(k:Nat)=>.inl (.int (a+(k:Int)*c))) S)|none=>U
def PX(b:UE a v τ):UV a h v (Lv h_ τ):=⟨λA s q Q P I⟨H,m,S,w,R,E,o⟩=>IK b.h A s q Q P I ⟨H,m,S,w,R,E,OU.bind o λu D p k j e1 p1 i f e r=>by match g:HY h_ D u with|none=>rw[g]at f;exact f.elim|some us=>rw[g]at f;obtain⟨d,y,rfl,n,z⟩:=Ca g i r;exact⟨d,rfl,⟨y,ā.of (i.up _ _ n)⟩,f p k j (.refl p) (C_ k) i _ (Uz n z)⟩⟩⟩
def PY(b:UE a v τ):UV a h v (Lv L τ):=⟨λA s q Q P I⟨H,m,S,w,R,E,o⟩=>He b.h A s q Q P I ⟨H,m,S,w,R,E,OU.bind o λu D p k j e1 p1 i f e r=>by match g:HY L D u with|none=>rw[g]at f;exact f.elim|some us=>rw[g]at f;obtain⟨d,y,rfl,n,z⟩:=Ca g i r;exact⟨d,rfl,⟨y,û.of (i.up _ _ n)⟩,f p k j (.refl p) (C_ k) i _ (UB n z)⟩⟩⟩
def UC{w:FnI}(d:UI a h v w):UV a h v (HZ w):=⟨λr s p f D I⟨H,m,S,q,R,E,o⟩=>by unfold HZ at o;match g:w (ċ S q)with|none=>rw[g]at o;exact o.elim|some (e,c,n)=>rw[g]at o;refine d.h r s p f D I ⟨_,e,c,n,R.envs E,g,λJ Q u b=>?_⟩;obtain⟨H0,A,P,_⟩:=R.grow u;refine o H0 m Q A (C_ m) P J ⟨λi f _ j=>b.go i f (by simpa using j),λf _=>by simpa using b.stop n f (o_ n),λi f x k _ j y=>?_⟩;obtain⟨z,rfl⟩:=b.yld i f x k y;refine⟨z,_,r_ j,?_⟩;rw[Z6,aeg];exact rfl⟩
def vH(f:ë):Uv%0->Ý->î->(W%0×Ý)%1|[],S,_=>Z ([],S)|u::b,S,a=>match f S (Z u::a)with|some (.ok (.inl d) g)=>(match vH f b g a with|some (e,S2)=>Z (d::e,S2)|none=>U)|_=>U
def V6(r:(W%0×Ý)%1):Ru Uv%1:=match r with|some (a,S)=>Z (.ok (.inr S.length) (S++[.lst a]))|none=>U
def qm(d:(Str×Nat)%0)(w:gp)(f:ë):ë:=λS a=>fq (w S a) λb e=>if b.length<=100000 then V6 (vH f b e (MR d a))else U
inductive IvU(K:d_)(f:ë)(cap:î)(us:Uv%0)(ds:W%0)(Sf:Ý)(H0:Hp)(m0:O%0)(i:Nat)(vs:V%0)(σ:L2.St)(Hf:Hp):Prop|mk(H':Hp)(m':O%0)(S':Ý)(es zs:W%0)(g:i<=us.length)(l:vs.length=i)(e:Õ H0 H')(p:m0<+:m')(R:SR K H' m' S' Hf)(E:ú K H' m' σ (U::cap))(r:S K H' es vs)(z:vH f (us.drop i) S' cap=Z (zs,Sf))(y:es++zs=ds):IvU K f cap us ds Sf H0 m0 i vs σ Hf
inductive GoU(X:C)(f:ë)(cap:î)(Q:VK)(H:Hp)(m:O%0)(J:It)(Hg:Hp):Prop|mk(us:Uv%0)(H':Hp)(m':O%0)(S':Ý)(e:Õ H H')(p:m<+:m')(R:SR X.K H' m' S' Hg)(w:WkU X.K J us H' m')(l:us.length<=100000)(o:OU X H' m' (V6 (vH f us S' cap)) λu H' m' Hf'=>∀v,Ą X.K H' m' u v->Q v Hf'):GoU X f cap Q H m J Hg
variable{ο:Ý}
def Gc(h:vH τ (Ë::Ο) j θ=Z (u,ο)):∃d b a,τ j (Z Ë::θ)=Z (.ok (.inl d) b)/\vH τ Ο b θ=Z (a,ο)/\u=d::a:=by
 unfold vH at h;split at h
 · rename_i d b f;split at h;·rename_i a S2 e;cases h;exact⟨d,b,a,f,e,rfl⟩
   ·cases h
 ·cases h
def yL(c':PG a (.Name d k) (qH 0))(H:UE a h τ){i:Nat}{P:V%0}{f:L2.St}{xv:V}{d0:Uv}{b:B}{q:(O×Obj)%0}{s7:ge}(d':i<Ο.length)(v:IvU a.K τ θ Ο u j g η i P f ξ)(g':Ο[i]?=Z d0)(a':Ą a.K g η d0 xv)(I7:N a q f ξ s7)(r7:ß xv b):xy (B_ a.prog a.w) a.A (ķ (.Name d k) a.env b) (λ_ Q=>xy (B_ a.prog a.w) a.A (afq [] L λc r=>if r=L then do let ok<-isTrue c a.env (eval c a.env);pure (YN ok)else pure (YN r)) (λok s9=>if ok=L then xy (B_ a.prog a.w) a.A (eval h a.env) (λw A=>∃p z m,N a q z m A/\ß p w/\IvU a.K τ θ Ο u j g η (i+1) (P++[p]) z m) a.xe s9 else NP a q (IvU a.K τ θ Ο u j g η (i+1) P) s9) a.xe Q) a.xe s7:=by obtain⟨H',m',S',es,zs,_,b',eH,pm,R',E',r',D,hz⟩:=v;refine í (c' q s7 f _ _ b (λy H8=>y=f.set 0 _/\H8=ξ) I7 r7 ⟨rfl,rfl⟩) λ_ Q⟨y,H8,I8,e8,h'⟩=>?_;subst e8 h';refine wpAny_tests_nil ?_;rw[if_pos rfl];rw[gf g']at D;obtain⟨e,S1,i',hf,e',rfl⟩:=Gc D;have E8:ú a.K H' m' _ (Z d0::θ):=E'.set (i:=0) (a'.mono eH pm);exact í (H.h q Q _ _ (λv l'=>∃n o,Õ H' n/\m'<+:o/\SR a.K n o S1 l'/\Ü a.K n e v) I8 ⟨H',m',S',_,R',E8,by rw[hf];exactλn o n' s I R1 v r=>⟨n,o,s,I,R1,r⟩⟩) λw A⟨p,m,k',E,n,o,s,I,R1,r1⟩=>⟨p,_,m,k',E,n,o,S1,es++[e],i',d',by rw[X2,b'];rfl,eH.trans s,pm.trans I,R1,ú.fgt1 0 (E8.mono s I),(S.mono s _ _ r').append ⟨p,[],rfl,r1,rfl⟩,e',by rw[XM];exact hz⟩
def Ge(hi:UV a (.Name d w) v Χ)(a':∀f s H fp,UE (av a (d::À.map (·.1)) ι f s H fp) h τ)(d':Fv a.env.scope ι À a.N=L:=by lk)(h':Zn ι a.env=pure (mI ι.names a.env []):=by lk)(hc:a.calm=L:=by lk)(e':Ě (d::À.map (·.1))=L:=by lk)(hl:jy ι d=L:=by lk)(hs:∀d,V_ v a.env d=pure d:=by intro _;lk):UE a (.ListComp h [⟨.Name d w,v,[],0⟩] ι k) (qm À Χ τ):=⟨λf' s σ Hf Q I⟨H,m,S,ρ,j,E,o⟩=>by
 have ok:=uf d';refine acw rfl hs h' ok.kind ok.names (í (hi.h f' s σ Hf (GoU a τ (MR À ρ) Q H m) I ⟨H,m,S,ρ,j,E,OU.bind o λr S1 H1 m1 n' e1 p1 R1 o1 J wk=>?_⟩) λb s1 h1=>í h1 λl' s2 h2=>?_)
 · by_cases hn:r.length<=100000;·rw[if_pos hn]at o1;exact⟨r,H1,m1,S1,e1,p1,R1,wk,hn,o1⟩
   ·rw[if_neg hn]at o1;exact o1.elim
 ·obtain⟨it,fp,tn,J,i',e,I2,T,b',R,r,H0,m0,S0,e0,p0,R0,g,hn,o⟩:=h2;subst e;match hm:vH τ r S0 (MR À ρ)with
   |none=>rw[hm]at o;exact o.elim|some (ds,Sf)=>
   rw[hm]at o;refine qg (E:=[d]) À ok hc I2 T b' R r.length (IvU a.K τ _ r ds Sf H0 m0) (λi z σ H b=>by obtain⟨_,_,_,_,_,h1,h2,_⟩:=b;lia) ⟨H0,m0,S0,[],ds,XG _,rfl,.refl H0,C_ m0,R0,F8 À (E.mono e0 p0),rfl,hm,rfl⟩ (λz A y b=>by obtain⟨_,_,_,_,_,_,_,p,_,q,_⟩:=b;exact g.stop y (p.trans q.up)) (λi z A y n b=>by obtain⟨_,_,_,_,_,_,_,p,_,q,_⟩:=b;exact g.go i y (p.trans q.up) n) (λf i z A y xv H7 n b hy Y hY f' s7 u I7 r7=>?_) λD f s6 y k' z m6 I6 D5 b n6 C6 CD hC=>?_;·obtain⟨rfl,d0,g',ő⟩:=g.yld i _ xv H7 (by obtain⟨_,_,_,_,_,_,_,p,_,q,_⟩:=b;exact p.trans q.up) n hy;subst hY;exact yL (gZ (iR e') rfl (fgL hl).1 (fgL hl).2) (a' f s2 i' fp) n b g' ő I7 r7
   ·obtain⟨H',m',S',es,zs,_,_,p,pm,q,_,r',P,hz⟩:=b;rw[Zv]at P;cases P;rw[Y1]at hz;subst hz;obtain⟨q0,q1,q2,q3,q4,q5⟩:=I2.fpOk (H':=å y D (.lst z)) hC (by rw[aq CD];exact C6);exact⟨m6,n6,λh7 c'=>⟨.ref D,_,I6.turned (c'.extBut) q0 q1 q3 q4 q5,rfl,q.newL r' D5 (OU.mono o p pm)⟩⟩⟩
def nX(i:Nat)(b:Nat%0)(F:cm):Uv%0->Ý->î->ũ%1|[],S,a=>Z (.nx (Sd b a) S)|u::e,S,a=>match F S ((Sd b a).set i (Z u))with|some (.nx d f)=>nX i b F e f d|o=>o
def yM(i:Nat)(d:Nat%0)(w:gp)(F:cm):cm:=λS a=>FY (w S a) λb e=>nX i d F b e a
def Lw{js:Nat%0}(hp:aaG (B_ a.prog a.w) a.A a.env a.xe)(hi:UV a (.Name d w) h Χ)(hb:Ŝ a Υ È)(hc:a.calm=L:=by lk)(hN:Ě a.N=L:=by lk)(hx:a.N[b]?=Z d:=by lk)(hl:jy a.env.scope d=L:=by lk)(hf:a.fn d=L:=by lk)(d':∀d,V_ h a.env d=pure d:=by intro _;lk):US a (.For (.Name d w) h Υ [] k) (yM b js Χ È):=⟨λf' s σ Hf D I⟨H,m,S,ρ,R,E,o⟩=>by
 refine sx hp hc hi.h (gZ (iR hN) hx (fE hl) (.inl hf)) hb.h d' f' s σ Hf D I ⟨H,m,S,ρ,R,E,OU.bindV o λA S1 H1 m1 i' e1 p1 R1 o1 J f=>?_⟩;refine⟨λe q p z=>q=A.length-e/\e<=A.length/\∃n j Q u,Õ H1 n/\m1<+:j/\SR a.K n j Q z/\ú a.K n j p u/\OV a n j (nX b js È (A.drop e) Q u) D,⟨A.length,by simp,XG _,H1,m1,S1,ρ,.refl H1,C_ m1,R1,E.mono e1 p1,o1⟩,?_⟩;rintro e q p z⟨rfl,hk,n,j,Q,u,P,pm,R',E',g⟩;by_cases v:e<A.length
 ·refine .inr ⟨f.go e _ (P.trans R'.up) v,_,λa' h' q=>⟨_,by lia,rfl,v,q⟩,λd H2 y=>?_⟩;obtain⟨rfl,d0,e',ő⟩:=f.yld e _ d H2 (P.trans R'.up) v y;rw[gf e']at g;unfold nX at g;refine⟨n,j,Q,_,R',(ú.fgt js E').set (ő.mono P pm),?_⟩;match i:È Q _ with|none=>rw[i]at g;exact g|some (.exc c _)=>rw[i]at g;exact g|some (.rt r _)=>rw[i]at g;exact g|some (.nx b' S2)=>rw[i]at g;exactλa' H3 m3 g' e3 p3 R3 E3=>⟨H3,m3,S2,b',P.trans e3,pm.trans p3,R3,E3,OV.mono g e3 p3⟩
 · have c':e=A.length:=by lia
   subst c';rw[Zv]at g;exact .inl ⟨f.stop _ (P.trans R'.up),g p n j z (.refl n) (C_ j) R' (ú.fgt js E')⟩⟩
def PZ(f g:ë):ë:=λS a=>fq (f S a) λu b=>match u with|.inl (.bl L)=>g b a|.inl (.bl h_)=>Z (.ok (.inl (.bl h_)) b)|_=>U
def P0{g:ë}(A:UE a h τ)(z:UE a (.BoolOp .And (v::s) k) g):UE a (.BoolOp .And (h::v::s) k) (PZ τ g):=⟨λD b w Hf Q I⟨H,m,S,p,R,E,o⟩=>Hb A.h z.h D b w Hf Q I ⟨H,m,S,p,R,E,OU.bind o λu S1 j i n P y q f e r=>by match u,r,f with|.inr _,_,f=>exact f.elim|.inl d,r,f=>cases d with
 |bl c=>cases c with|true=>exact⟨L,r,D7 ⟨j,i,S1,p,q,E.mono P y,f⟩⟩|false=>exact⟨h_,r,D6 (f j i n (.refl j) (C_ i) q _ rfl)⟩
 |_=>exact f.elim⟩⟩
def P6{g:ë}(e:UE a h τ)(d:UE a v g)(b:W_ .In v=h_:=by lk):UT a (.Compare h [.In] [v] k) (uB (yI ł τ g)):=K3 Ż NX e d b
def Gf(d:a.A.units+64<cLine)(e:a.mg "sorted"=U)(i:FA a (h::s) μ)(f:a.env.kindOf "sorted"=Z .globalImplicit:=by lk)(g:h%8:=by lk)(b:(Xv k (k_ s a.env)).any (·.1)=h_:=by lk):UE a (.Call (.Name "sorted" w) (h::s) [] k) (į H (ì kZ μ)):=PQ H (Gb d (Ģ f) e i g b)
def UD(r:Ň a (.Name d w) v μ)(j:∀f b e g,FE (av a (d::À.map (·.1)) ι f b e g) h z)(i:∀f b e g,uX (av a (d::À.map (·.1)) ι f b e g) s Í)(m:Fv a.env.scope ι À a.N=L:=by lk)(o:Zn ι a.env=pure (mI ι.names a.env []):=by lk)(u:a.calm=L:=by lk)(n:Ě (d::À.map (·.1))=L:=by lk)(q:jy ι d=L:=by lk)(p:∀d,V_ v a.env d=pure d:=by intro _;lk):UE a (.ListComp h [⟨.Name d w,v,s,0⟩] ι k) (į H (bB 1 À μ (gN 0) Í z)):=PQ H (Fq a.env.scope a.N [d] [0] À rfl rfl (uf m) o u (JF _) r (λf b e g=>fgA f b e g n rfl q) j i p)
def UF{g:Pos}(I:Ň a (.Name d w) v μ)(j:∀f e H m,FE (av a (d::À.map (·.1)) ι f e H m) h z)(i:∀f e H m,uX (av a (d::À.map (·.1)) ι f e H m) s Í)(o:Yb (.ListComp h [⟨.Name d w,v,s,0⟩] ι k) (Z (.Name r Λ)) g.line a.env=pure L)(Q:Ě a.N=L:=by lk)(u:a.N[b]?=Z r:=by lk)(n:jy a.env.scope r=L:=by lk)(y:a.fn r=L:=by lk)(p:Fv a.env.scope ι À a.N=L:=by lk)(A:Zn ι a.env=pure (mI ι.names a.env []):=by lk)(P:a.calm=L:=by lk)(q:Ě (d::À.map (·.1))=L:=by lk)(E:jy ι d=L:=by lk)(D:∀d,V_ v a.env d=pure d:=by intro _;lk):US a (.Assign [.Name r Λ] (.ListComp h [⟨.Name d w,v,s,0⟩] ι k) g) (jV b (į L (bB 1 À μ (gN 0) Í z))):=Ln (O9 I j i Q u n y p A P q E o D)
def Gg{g:á}(h:Ξ ε=L%3):bg Ξ Ψ g ε=Ψ ε:=by unfold bg;rw[h];rfl
def aX{p:Q->Bool}{l:Q%0}(h:l.all p=L){x:Q}(a:x∈l):p x=L:=XQ.mp h x a
end FD
variable{θ:FD.î}{j:FD.Ý}{τ:FD.ë}{Χ:FD.gp}{È:FD.cm}{Ο:FD.Uv%0}{Ð:FD.ć}{ο:FD.Ý}
namespace G
open L2 FD
def Ù(i:Nat):Yd:=p9_.main.body.getD i (.Pass ⟨0,0,0,0⟩)
section
variable{X:C}{a b c o e:s_}{es:s_%0}{fa fb fc fo:Û}{ga:ê}{pos p pt apos cpos:Pos}
def P7(e:FE X a fa)(d:FE X b fb):FE X (.BinOp a .Add b pos) (R eD fa fb):=yt o_add NS e d
def P8(e:FE X a fa)(d:FE X b fb):FE X (.BinOp a .Add b pos) (R dv fa fb):=yt Oq Os e d
def P9(e:FE X a fa)(d:FE X b fb):FE X (.BinOp a .Sub b pos) (R DC fa fb):=yt Nc S5 e d
def Qa(e:FE X a fa)(d:FE X b fb):FE X (.BinOp a .Mult b pos) (R lI fa fb):=yt Nd S6 e d
def Qb(e:FE X a fa)(d:FE X b fb):FE X (.BinOp a .Mod b pos) (R lJ fa fb):=yt Nf S7 e d
def Lx(e:FE X a fa)(d:FE X b fb):FE X (.BinOp a .FloorDiv b pos) (R lK fa fb):=yt IL NT e d
def Qc(d:X.A.units+64<cLine)(g:FE X a fa)(f:FE X b fb)(e:W_ .Eq b=h_:=by lk):FT X (.Compare a [.Eq] [b] pos) (fB (R è fa fb)):=jr (Jv d) Jz g f e
def Qd(d:X.A.units+64<cLine)(g:FE X a fa)(f:FE X b fb)(e:W_ .NotEq b=h_:=by lk):FT X (.Compare a [.NotEq] [b] pos) (fB (R Ŕ fa fb)):=jr (Tg d) Th g f e
def Qe(f:FE X a fa)(e:FE X b fb)(d:W_ .Lt b=h_:=by lk):FT X (.Compare a [.Lt] [b] pos) (fB (R ltX fa fb)):=jr N6 N7 f e d
def Qf(f:FE X a fa)(e:FE X b fb)(d:W_ .Gt b=h_:=by lk):FT X (.Compare a [.Gt] [b] pos) (fB (R ŝ fa fb)):=jr Nh (NV _) f e d
def Qg(f:FE X a fa)(e:FE X b fb)(d:W_ .Is b=h_:=by lk):FT X (.Compare a [.Is] [b] pos) (fB (R Ė fa fb)):=jr Hh NW f e d
def Ly(f:FE X a fa)(e:FE X b fb)(d:W_ .IsNot b=h_:=by lk):FT X (.Compare a [.IsNot] [b] pos) (fB (R sS fa fb)):=jr zK Hs f e d
def Lz(d:X.A.units<cLine)(g:FE X a fa)(f:FE X b fb)(e:W_ .Eq b=h_:=by lk):FT X (.Compare a [.Eq] [b] pos) (fB (R RU fa fb)):=jr (Te d) Tf g f e
def Qh(d:X.A.units+64<cLine)(g:FE X a fa)(f:FE X b fb)(e:W_ .Gt b=h_:=by lk):FT X (.Compare a [.Gt] [b] pos) (fB (R gtT fa fb)):=jr (Ui d) Uj g f e
def Qi(f:FE X a fa)(e:FE X b fb)(d:W_ .In b=h_:=by lk):FT X (.Compare a [.In] [b] pos) (fB (R ł fa fb)):=jr Ż NX f e d
def Qj(d:X.A.units+64<cLine)(g:FE X a fa)(f:FE X b fb)(e:W_ .In b=h_:=by lk):FT X (.Compare a [.In] [b] pos) (fB (R W' fa fb)):=jr (Tu d) Tv g f e
def Cb(d:X.A.units+64<cLine)(g:FE X a fa)(f:FE X b fb)(e:W_ .NotIn b=h_:=by lk):FT X (.Compare a [.NotIn] [b] pos) (fB (R ip fa fb)):=jr (ED d) EE g f e
def Qk(d:X.A.units+64<cLine)(g:FE X a fa)(f:FE X b fb)(e:W_ .Eq b=h_:=by lk):FE X (.Compare a [.Eq] [b] pos) (R è fa fb):=mB (Jv d) Jz g f e
def Ql(f:FE X a fa)(e:FE X b fb)(d:W_ .Lt b=h_:=by lk):FE X (.Compare a [.Lt] [b] pos) (R ltX fa fb):=mB N6 N7 f e d
def Qm(f:FE X a fa)(e:FE X b fb)(d:W_ .LtE b=h_:=by lk):FE X (.Compare a [.LtE] [b] pos) (R ń fa fb):=mB TH TJ f e d
def Qn(f:FE X a fa)(e:FE X b fb)(d:W_ .Gt b=h_:=by lk):FE X (.Compare a [.Gt] [b] pos) (R ŝ fa fb):=mB Nh (NV _) f e d
def Qo(f:FE X a fa)(e:FE X b fb)(d:W_ .Is b=h_:=by lk):FE X (.Compare a [.Is] [b] pos) (R Ė fa fb):=mB Hh NW f e d
def LA(f:FE X a fa)(e:FE X b fb)(d:W_ .IsNot b=h_:=by lk):FE X (.Compare a [.IsNot] [b] pos) (R sS fa fb):=mB zK Hs f e d
def Qp(f:FE X a fa)(e:FE X b fb)(d:W_ .In b=h_:=by lk):FE X (.Compare a [.In] [b] pos) (R ł fa fb):=mB Ż NX f e d
def Cc(f:FE X a fa)(e:FE X b fb)(d:W_ .NotIn b=h_:=by lk):FE X (.Compare a [.NotIn] [b] pos) (R sU fa fb):=mB Ş Ai f e d
def Qq(h:X.mg "isinstance"=U)(g:X.mg "int"=U)(j:FE X a fa)(i:X.env.kindOf (b_ "isinstance")=Z .globalImplicit:=by lk)(f:X.env.kindOf (b_ "int")=Z .globalImplicit:=by lk)(d:k_ [a,.Name (b_ "int") pt] X.env=(h_,eval a X.env)::k_ [.Name (b_ "int") pt] X.env:=by lk)(b:k_ [.Name (b_ "int") pt] X.env=(h_,eval (.Name (b_ "int") pt) X.env)::k_ [] X.env:=by lk)(e:(Xv pos (k_ [.Name (b_ "int") pt] X.env)).any (·.1)=h_:=by lk):FE X (.Call (.Name "isinstance" p) [a,.Name (b_ "int") pt] [] pos) (f1 (j9 tz) fa):=sV (T:="int") JW OC (by decide+kernel) (by lk) i h f g j d b e
def Qr(h:X.mg "isinstance"=U)(g:X.mg "str"=U)(j:FE X a fa)(i:X.env.kindOf (b_ "isinstance")=Z .globalImplicit:=by lk)(f:X.env.kindOf (b_ "str")=Z .globalImplicit:=by lk)(d:k_ [a,.Name (b_ "str") pt] X.env=(h_,eval a X.env)::k_ [.Name (b_ "str") pt] X.env:=by lk)(b:k_ [.Name (b_ "str") pt] X.env=(h_,eval (.Name (b_ "str") pt) X.env)::k_ [] X.env:=by lk)(e:(Xv pos (k_ [.Name (b_ "str") pt] X.env)).any (·.1)=h_:=by lk):FE X (.Call (.Name "isinstance" p) [a,.Name (b_ "str") pt] [] pos) (f1 (j9 vn) fa):=sV (T:="str") Jp N3 (by decide+kernel) (by lk) i h f g j d b e
def Gh(h:X.mg "isinstance"=U)(g:X.mg "tuple"=U)(j:FE X a fa)(i:X.env.kindOf (b_ "isinstance")=Z .globalImplicit:=by lk)(f:X.env.kindOf (b_ "tuple")=Z .globalImplicit:=by lk)(d:k_ [a,.Name (b_ "tuple") pt] X.env=(h_,eval a X.env)::k_ [.Name (b_ "tuple") pt] X.env:=by lk)(b:k_ [.Name (b_ "tuple") pt] X.env=(h_,eval (.Name (b_ "tuple") pt) X.env)::k_ [] X.env:=by lk)(e:(Xv pos (k_ [.Name (b_ "tuple") pt] X.env)).any (·.1)=h_:=by lk):FE X (.Call (.Name "isinstance" p) [a,.Name (b_ "tuple") pt] [] pos) (f1 (j9 vo) fa):=sV (T:="tuple") Jq Eh (by decide+kernel) (by lk) i h f g j d b e
def LB(h:X.mg "isinstance"=U)(g:X.mg "bool"=U)(j:FE X a fa)(i:X.env.kindOf (b_ "isinstance")=Z .globalImplicit:=by lk)(f:X.env.kindOf (b_ "bool")=Z .globalImplicit:=by lk)(d:k_ [a,.Name (b_ "bool") pt] X.env=(h_,eval a X.env)::k_ [.Name (b_ "bool") pt] X.env:=by lk)(b:k_ [.Name (b_ "bool") pt] X.env=(h_,eval (.Name (b_ "bool") pt) X.env)::k_ [] X.env:=by lk)(e:(Xv pos (k_ [.Name (b_ "bool") pt] X.env)).any (·.1)=h_:=by lk):FE X (.Call (.Name "isinstance" p) [a,.Name (b_ "bool") pt] [] pos) (f1 (j9 gh) fa):=sV (T:="bool") Ef Ju (by decide+kernel) (by lk) i h f g j d b e
def LC(h:X.mg "isinstance"=U)(g:X.mg "list"=U)(j:FE X a fa)(i:X.env.kindOf (b_ "isinstance")=Z .globalImplicit:=by lk)(f:X.env.kindOf (b_ "list")=Z .globalImplicit:=by lk)(d:k_ [a,.Name (b_ "list") pt] X.env=(h_,eval a X.env)::k_ [.Name (b_ "list") pt] X.env:=by lk)(b:k_ [.Name (b_ "list") pt] X.env=(h_,eval (.Name (b_ "list") pt) X.env)::k_ [] X.env:=by lk)(e:(Xv pos (k_ [.Name (b_ "list") pt] X.env)).any (·.1)=h_:=by lk):FE X (.Call (.Name "isinstance" p) [a,.Name (b_ "list") pt] [] pos) (f1 (j9 EJ) fa):=sV (T:="list") Ko Kz (by decide+kernel) (by lk) i h f g j d b e
def q9(a:FE X o fo)(b:FA X (e::es) ga)(h:SmL X o "startswith" e es apos cpos:=by exact⟨by lk,by lk,by lk,by lk,by lk⟩):FE X (.Call (.Attribute o "startswith" apos) (e::es) [] cpos) (fM (sW X4) fo ga):=ug PySem.F.slot_str_startswith PySem.F.type_str_startswith Tc Hu a b h
def vI(a:FE X o fo)(b:FA X (e::es) ga)(h:SmL X o "endswith" e es apos cpos:=by exact⟨by lk,by lk,by lk,by lk,by lk⟩):FE X (.Call (.Attribute o "endswith" apos) (e::es) [] cpos) (fM (sW abV) fo ga):=ug PySem.F.slot_str_endswith PySem.F.type_str_endswith Td Hu a b h
def Gi(a:FE X o fo)(b:FA X (e::es) ga)(h:SmL X o "split" e es apos cpos:=by exact⟨by lk,by lk,by lk,by lk,by lk⟩):FE X (.Call (.Attribute o "split" apos) (e::es) [] cpos) (fM (jt) fo ga):=ug aa9 PySem.F.type_str_split Ei JA a b h
def LD(a:FE X o fo)(b:FA X (e::es) ga)(h:SmL X o "join" e es apos cpos:=by exact⟨by lk,by lk,by lk,by lk,by lk⟩):FE X (.Call (.Attribute o "join" apos) (e::es) [] cpos) (fM (Ej) fo ga):=ug PySem.F.slot_str_join PySem.F.type_str_join JC N9 a b h
def um(a:FE X o fo)(b:FA X (e::es) ga)(h:SmL X o "partition" e es apos cpos:=by exact⟨by lk,by lk,by lk,by lk,by lk⟩):FE X (.Call (.Attribute o "partition" apos) (e::es) [] cpos) (fM (sZ) fo ga):=ug acM PySem.F.type_str_partition JD Ob a b h
def Gj(a:FE X o fo)(b:FA X (e::es) ga)(h:SmL X o "strip" e es apos cpos:=by exact⟨by lk,by lk,by lk,by lk,by lk⟩):FE X (.Call (.Attribute o "strip" apos) (e::es) [] cpos) (fM (pO) fo ga):=ug PySem.F.slot_str_strip PySem.F.type_str_strip Ez JJ a b h
def Gk(a:FE X o fo)(b:FA X (e::es) ga)(h:SmL X o "rfind" e es apos cpos:=by exact⟨by lk,by lk,by lk,by lk,by lk⟩):FE X (.Call (.Attribute o "rfind" apos) (e::es) [] cpos) (fM (RT afw) fo ga):=ug PySem.F.slot_str_rfind PySem.F.type_str_rfind Eg N2 a b h
def Qs(a:FE X o fo)(b:FA X (e::es) ga)(h:SmL X o "index" e es apos cpos:=by exact⟨by lk,by lk,by lk,by lk,by lk⟩):FE X (.Call (.Attribute o "index" apos) (e::es) [] cpos) (fM Ov fo ga):=ug PySem.F.slot_str_index PySem.F.type_str_index Ow Tw a b h
def dN{x:Str}(h:FE X (.Name x p) fa):FE X (.Name x p) fa:=h
def dC{k:Const}{n:Nat}(h:FE X (.Constant k n p) fa):FE X (.Constant k n p) fa:=h
def dA(h:FA X es ga):FA X es ga:=h
def dK{x:Str}{a:Zc%0}(h:FE X (.Call (.Name x p) es a pos) fa):FE X (.Call (.Name x p) es a pos) fa:=h
def dM{x:Str}{a:Zc%0}(h:FE X (.Call (.Attribute o x p) es a pos) fa):FE X (.Call (.Attribute o x p) es a pos) fa:=h
def dB{d:Operator}(h:FE X (.BinOp a d b pos) fa):FE X (.BinOp a d b pos) fa:=h
def dQ{b:afn%0}(h:FE X (.Compare a b es pos) fa):FE X (.Compare a b es pos) fa:=h
def dT{fb:ñ}(h:FT X a fb):FT X a fb:=h
def dW{fb:ñ}(h:FW X a fb):FW X a fb:=h
def dE(h:FE X a fa):FE X a fa:=h
def dSs{a:Yd%0}{f:á}(h:Ĩ X a f):Ĩ X a f:=h
def dS{a:Yd}{f:á}(h:FS X a f):FS X a f:=h
end
set_option hygiene false
local macro_rules|`(tactic|walk_at$y:str)=>do
 let A:=fun(c:Char)=>match c.toNat with|63=>`(?_)|108=>`(by lk)|114=>`(by room)|107=>`(by kernel_rfl!)|97=>`(by assumption)|100=>`(#v[])|115=>`(rfl)|_=>`(_)
 let B:=fun(f:Char->Lean.MacroM Lean.Term)(u:List String)=>do
  let a<-(u.getD 1 "").toList.toArray.mapM f
  pure (Lean.Syntax.mkApp (Lean.mkIdent (u.getD 0 "").toName) a)
 let C:=fun(c:Char)=>do
  match ("g Ģ l|m Hn ??|v NB ??|j! ē.xc a_d|e! CA.c ads|h lQ llll|n Px ??|c! CA.j a|o! ē.exJ a|x! CA.xk a|V iR l".splitOn "|").find? (fun s=>s.front==c) with
  |none=>A c
  |some s=>
   let u:=s.splitOn " "
   let e<-B A u.tail
   if (u.getD 0 "").length==2 then `(by with_unfolding_all exact $e) else pure e
 let l:=y.getString.splitOn "|"
 if l.length==1 then
  let a<-("dN|SS _lk|SU _lk|Ub rk|Uc rk;dC|Nw|Ny|SV|Nx;dA|z7|vi ??;dK|Fu rrk?|BI rrkl?|AZ ?lg?g??|yC lg?g??|NZ g??|Ek g??|EV g??|Kh g??|N0 lg??|OP lg??|OD lg??|Qq ???|Qr ???|Gh ???|LB ???|LC ???|~a;dM|q9 ??|vI ??|Gi ??|LD ??|um ??|Gj ??|Gk ??|Qs ??|Ey ??|Em ??|BZ rrkl?;dB|P7 ??|P8 ??|P9 ??|Qa ??|Qb ??|Lx ??;dQ|Qk ???|Ql ??|Qm ??|Qn ??|Qo ??|LA ??|Qp ??|Cc ??;dT|Qc ???|Qd ???|Qe ??|Qf ??|Qg ??|Ly ??|Lz ???|Qh ???|Qi ??|Qj ???|Cb ???|FW.ft m|FW.ft v|NC ?|Nz ?;dW|Hn ??|NB ??|I0 ?|NA ?;dE|Pa ??|NI ?|NH ?|ND ?|NE ??|SW ??|NF ?|NU ?|SX ???|NY ???|JK ???|Ud ???|Uf ???|KY r?;dSs|Ja|BV ???|z8 ?|Fy ??|D8 ??;dS|Ho ?|SY ???|Jb ?|Ue ???k|Ks ?|Og l??|Ku ???|Fz ???|Es _jlellg?;|UF ???k|P6 ??|Ji|Jk ?|Fw|Fx ?|~b|Aa g??|Ab g??|NM ?|Ep g??|Kf g??|FI.toG ?|KQ ???|KO ?|KR ???|KS ???|BW rrk??|BX rrrk|KU ??|Uo ?|FB ?|Oe|JR|JU ?|EG ??|Oz ?|Oy ???|TD l???|Kx ?h|EU lh??|Kt ?|Kw ???;+|~c|MA.no al|ã.units a|ã.units0 a|PassesOwn.never|PassesOwn.leaving;|K6|K7 ?|FZ ??|Li ?|K8 ?|PD ?|Ut ???|WX g??|Ll ?|Lj r??|PF ?|KZ ?|Lg h|Lh r?|Pu|K2 ??|B9 rrkl?|F5 rrkl??|F4 rrkl?|F6 rrl?|Pz ??|PB ?|Py ?|F7 ??|PN ???|PP ??|K0 ?|UW.ut n|Px ??|Pw ?|Pv ?|Lm ___lllgcoxVlll??|Ga rrk?|UD ???|Gf ???|Lq ?|Lr ?|Ls ?|Lu ??|PV ??|PX ?|PY ?|UC ?|Ge ??|Lw ???|P0 ??|Lc ?|~d".splitOn ";").toArray.mapM fun t=>do
   let w:=Lean.Syntax.mkStrLit t
   let w<-`(tactic|walk_at$w:str)
   match (t.splitOn "|").getD 0 "" with
   |"+"=>pure w|""=>`(tactic|with_reducible $w:tactic)
   |d=>
    let d:=Lean.mkIdent d.toName
    `(tactic|with_reducible((fail_if_success(fail_if_success refine $d ?_));$w:tactic))
  `(tactic|(first $[|$a:tactic]*)<;>walk_at"x")
 else
  let a<-l.tail.toArray.mapM fun s=>match s with
   |"~a"=>`(tactic|refine On (T:="ValueError") (by with_unfolding_all exact ē.xtV (by assumption)) qT (by decide+kernel) (by lk) (Ģ (by lk)) ?_ (Ģ (by lk)) ?_ ?_)|"~b"=>`(tactic|intro _ _ _ _)|"~c"=>`(tactic|assumption)|"~d"=>`(tactic|intro _ _)
   |_=>do
   let e<-B C (s.splitOn " ")
   `(tactic|refine $e)
  `(tactic|first $[|$a:tactic]*)
set_option hygiene true
local macro_rules|`(tactic|fin2)=>`(tactic|(intros;(conv=>arg 2;whnf);walk_at"x"))
def CC:Kr:=[cN "ValueError",cN "all",cN "any",cN "bool",cN "enumerate",cN "int",cN "isinstance",cN "len",cN "list",cN "min",cN "range",cN "set",cN "sorted",cN "str",cN "tuple",cN "zip",cI "ASK_HOUSE" 1,cI "ASK_ORIGIN" 3,cI "ASK_PARTS" 4,cI "ASK_PATH" 2,cI "ASK_SAFE" 0,cS "FIGURES" "0123456789",cI "GIVEN_HOUSE" 2,cI "GIVEN_LASTS" 5,cI "GIVEN_NAME" 0,cI "GIVEN_PARTS" 8,cI "GIVEN_PATH" 3,cI "GIVEN_REACH" 7,cI "GIVEN_SAFE" 6,cI "GIVEN_UNTIL" 4,cI "GIVEN_WORTH" 1,cS "LABEL_SIGNS" "abcdefghijklmnopqrstuvwxyz0123456789-",cI "LAST_MOMENT" 9999,cI "LONGEST_LABEL" 8,cI "LONGEST_NOTE_NAME" 10,cI "LONGEST_PATH" 20,cI "LONGEST_WORTH" 12,cI "MOST_ASKS" 9,cI "MOST_FIGURES" 4,cI "MOST_LABELS" 5,cI "MOST_NOTES" 20,cI "MOST_RULES" 8,cI "NOTE_ENDS" 5,cI "NOTE_EXACT" 3,cI "NOTE_HOUSE" 2,cI "NOTE_MADE" 8,cI "NOTE_NAME" 0,cS "NOTE_NAME_SIGNS" "abcdefghijklmnopqrstuvwxyzABCDEFGHIJKLMNOPQRSTUVWXYZ0123456789-_",cI "NOTE_PARTS" 10,cI "NOTE_PATH" 4,cI "NOTE_REACH" 7,cI "NOTE_SAFE" 6,cI "NOTE_USED" 9,cI "NOTE_WORTH" 1,cS "NO_WORTH_SIGNS" ";,=",cS "PATH_SIGNS" "abcdefghijklmnopqrstuvwxyz0123456789-_./"]
section
variable{P:m_}{w:v_}{K:d_}{mg:Str->B%1}{base h:O_}{f:O}{cls:Nat->O}{CJ:O}{C:O}(ck:CK K 1 C)(XI:K.In h)(Gn:h.Ns E_ mg)(M:MA mg CC)(xa:ē K [0,1,2,3,4,5,6,8] cls CJ)(ca:CA K mg cls CJ [0,1,2,3,4,5,6,8] 9)
include XI Gn M xa ca ck
def TO0:MQ:=[]
def TV0:lE:=[]
def TW0:lE:=[]
def T0:bW:=[]
def TE0:bW:=[]
def jz:á:=(aM (bg (cC (fB (f1 (j9 vn) (Y 0)))) (aL (fC (.bl h_))) ó) (aM (bg (Đ (fB (R ltX (ì gL (al (Y 0))) (Y 2))) (fB (R ŝ (ì gL (al (Y 0))) (Y 3)))) (aL (fC (.bl h_))) ó) (aL (ì pK (al (cu [("signs",1)] (eQ (Y 0)) U (R ł (Y 0) (Y 1))))))))
def dw:Þ:=bL 4 jz
def T1:bW:=("is_text_of",1,["thing","signs","least","most"],dw)::T0
theorem rf(A:Af K "is_text_of" (Ù 12) f)(t:T0%4):T1%4:=aw (aO XI Gn ["thing","signs","least","most"] ["thing","signs","least","most"] jz A aD (by delta jz;fin2)) t
def lU:á:=(aM (bg (cC (fB (ae dw 4 (sj (Y 0) (Ú "abcdefghijklmnopqrstuvwxyz0123456789-") (X 1) (X 8))))) (aL (fC (.bl h_))) ó) (aL (lB (RQ (fM (sW X4) (Y 0) (al (Ú "-")))) (RQ (fM (sW abV) (Y 0) (al (Ú "-")))))))
def qo:Þ:=bL 1 lU
def T2:bW:=("is_label",2,["thing"],qo)::T1
theorem vJ(A:Af K "is_label" (Ù 21) f)(t:T1%4):T2%4:=aw (aO XI Gn ["thing"] ["thing"] lU A aD (by delta lU;fin2)) t
def nY:á:=(aM (bg (cC (fB (f1 (j9 vn) (Y 0)))) (aL (fC (.bl h_))) ó) (aM (cO 1 (fM (jt) (Y 0) (al (Ú ".")))) (aM (bg (Đ (fB (R ŝ (ì gL (al (Y 1))) (X 5))) (cC (fB (ì pK (al (cu [] (eQ (Y 1)) U (ae qo 1 (al (Y 0))))))))) (aL (fC (.bl h_))) ó) (aL (RQ (ae dw 4 (sj (R Ø (Y 1) (f1 MM (X 1))) (Ú "0123456789") (X 1) (X 8))))))))
def bE:Þ:=bL 2 nY
def T3:bW:=("is_name",3,["thing"],bE)::T2
theorem yN(A:Af K "is_name" (Ù 22) f)(t:T2%4):T3%4:=aw (aO XI Gn ["thing","parts"] ["thing"] nY A aD (by delta nY;fin2)) t
def nZ:á:=(aM (bg (cC (fB (f1 (j9 vn) (Y 0)))) (aL (fC (.bl h_))) ó) (aM (bg (fB (fM (sW X4) (Y 0) (al (Ú "*.")))) (aL (ae bE 1 (al (Aj (Y 0) (il (X 2)) kg)))) ó) (aM (bg (fB (fM (sW X4) (Y 0) (al (Ú "!")))) (aL (lB (R ł (Ú ".") (Y 0)) (ae bE 1 (al (Aj (Y 0) (il (X 1)) kg))))) ó) (aL (ae bE 1 (al (Y 0)))))))
def uo:Þ:=bL 1 nZ
def T4:bW:=("is_rule",4,["thing"],uo)::T3
theorem yO(A:Af K "is_rule" (Ù 23) f)(t:T3%4):T4%4:=aw (aO XI Gn ["thing"] ["thing"] nZ A aD (by delta nZ;fin2)) t
def lV:á:=(aM (bg (Đ (cC (fB (f1 (j9 vo) (Y 0)))) (fB (R ŝ (ì gL (al (Y 0))) (X 8)))) (aL (fC (.bl h_))) ó) (aM (bg (cC (fB (ì pK (al (cu [] (eQ (Y 0)) U (ae uo 1 (al (Y 0)))))))) (aL (fC (.bl h_))) ó) (aL (ì pK (al (cu [("thing",0)] (λa=>à ((bP (X 1) (ì gL (al (Y 0)))) a) Eb) U (R ltX (R Ø (Y 1) (R DC (Y 0) (X 1))) (R Ø (Y 1) (Y 0)))))))))
def cX:Þ:=bL 1 lV
def T5:bW:=("is_table",5,["thing"],cX)::T4
theorem vK(A:Af K "is_table" (Ù 24) f)(t:T4%4):T5%4:=aw (aO XI Gn ["thing"] ["thing"] lV A aD (by delta lV;fin2)) t
def dZ:á:=(bg (cC (fB (ae cX 1 (al (Y 0))))) (dP 1 (Ú "this is no table")) ó)
def aK:Þ:=gJ 1 dZ
def TE1:bW:=("need_table",6,["thing"],aK)::TE0
theorem rg(A:Af K "need_table" (Ù 26) f)(t:T5%4)(a:TE0%5):TE1%5:=br (bT XI Gn ["thing"] ["thing"] dZ A aD (by delta dZ;fin2)) a
def cx:cm:=(da (eE (aI (ay aK 1 (al (Y 1))))) (da (zk 1 0 (c8 0) (aI (Y 1))) (da (zk 1 1 (c8 0) (aI (ii dg))) (da (zk 1 2 (c8 0) (B6 fu)) (zk 1 3 (c8 0) (B6 fu))))))
def bN:ć:=kJ 2 cx
theorem lW(A:∃b,Ń K "__init__" "Desk.__init__" (bM (Ù 125) 0) f b)(a:Mk K C f)(d:TE1%5):PJ P w K mg base 1 C 7 1 bN:=Lf XI Gn ck a ["self","table"] ["self","table"] cx A aD (by delta cx;fin2)
def cP:cm:=(da (eE (K5 (K1 1 2 (c8 0)) (aJ (aI (ii (bP (Y 1) (f1 (sr 1 1) (Y 0))))) fu))) (da (zk 1 3 (c8 0) (B6 fu)) (zk 1 1 (c8 0) (aI (Y 2)))))
def bZ:ć:=kJ 3 cP
def TV1:lE:=("do_step",1,2,bZ)::TV0
theorem mJ(A:Am K C "Desk.do_step" "do_step" (bM (Ù 125) 2) f)(a:Ī P w K mg base 1 C TV0):Ī P w K mg base 1 C TV1:=gQ (gS ck ["self","word","notes"] ["self","word","notes"] cP A aD (by delta cP;fin2)) a
def LF:á:=(aL (ii (cL (R Ø (Y 0) (X 0)) (R Ø (Y 0) (X 2)) (R Ø (Y 0) (X 4)))))
def ce:Þ:=bL 1 LF
def T6:bW:=("key",1,["note"],ce)::T5
theorem Qt(A:Af K "key" (Ù 97) f)(t:T5%4):T6%4:=aw (aO XI Gn ["note"] ["note"] LF A aD (by delta LF;fin2)) t
def ko:á:=(aL (ii (bP (R Ø (Y 0) (X 9)) (R Ø (Y 0) (X 8)))))
def cQ:Þ:=bL 1 ko
def T7:bW:=("when_last",1,["note"],cQ)::T6
theorem uq(A:Af K "when_last" (Ù 123) f)(t:T6%4):T7%4:=aw (aO XI Gn ["note"] ["note"] ko A aD (by delta ko;fin2)) t
def iu:á:=(aM (bg (fB (R gtT (ae cQ 1 (al (Y 1))) (ae cQ 1 (al (Y 0))))) (aL (Y 1)) ó) (aL (Y 0)))
def iw:Þ:=bL 2 iu
def T8:bW:=("later_of",2,["mine","its"],iw)::T7
theorem vL(A:Af K "later_of" (Ù 122) f)(t:T7%4):T8%4:=aw (aO XI Gn ["mine","its"] ["mine","its"] iu A aD (by delta iu;fin2)) t
def cG:á:=(aM (cO 1 (bB 1 [] (eQ (Y 0)) (gN 0) U (ae ce 1 (al (Y 0))))) (aL (R è (ì qW (al (Y 1))) (ì gL (al (Y 1))))))
def cH:Þ:=bL 2 cG
def T9:bW:=("has_no_key_twice",2,["notes"],cH)::T8
theorem kq(A:Af K "has_no_key_twice" (Ù 105) f)(t:T8%4):T9%4:=aw (aO XI Gn ["notes","keys"] ["notes"] cG A aD (by delta cG;fin2)) t
def jA:á:=(aL (ì pK (al (cu [("notes",0)] (λa=>à ((bP (X 1) (ì gL (al (Y 0)))) a) Eb) U (R ń (R Ø (R Ø (Y 1) (R DC (Y 0) (X 1))) (X 8)) (R Ø (R Ø (Y 1) (Y 0)) (X 8)))))))
def gT:Þ:=bL 1 jA
def T10:bW:=("is_by_made",1,["notes"],gT)::T9
theorem rh(A:Af K "is_by_made" (Ù 104) f)(t:T9%4):T10%4:=aw (aO XI Gn ["notes"] ["notes"] jA A aD (by delta jA;fin2)) t
def bc:á:=(aM (bg (Đ (cC (fB (f1 (j9 tz) (Y 0)))) (fB (f1 (j9 gh) (Y 0)))) (aL (fC (.bl h_))) ó) (aL (lB (R ń (Y 1) (Y 0)) (R ń (Y 0) (Y 2)))))
def aS:Þ:=bL 3 bc
def T11:bW:=("is_whole_number",1,["thing","least","most"],aS)::T10
theorem k7(A:Af K "is_whole_number" (Ù 13) f)(t:T10%4):T11%4:=aw (aO XI Gn ["thing","least","most"] ["thing","least","most"] bc A aD (by delta bc;fin2)) t
def eU:á:=(aL (ae aS 3 (cL (Y 0) (X 0) (X 9999))))
def aZ:Þ:=bL 1 eU
def T12:bW:=("is_moment",2,["thing"],aZ)::T11
theorem ur(A:Af K "is_moment" (Ù 47) f)(t:T11%4):T12%4:=aw (aO XI Gn ["thing"] ["thing"] eU A aD (by delta eU;fin2)) t
def bi:á:=(aL (İ (R Ė (Y 0) (fC .non)) (ae aZ 1 (al (Y 0)))))
def aF:Þ:=bL 1 bi
def T13:bW:=("is_moment_or_none",3,["thing"],aF)::T12
theorem j7(A:Af K "is_moment_or_none" (Ù 48) f)(t:T12%4):T13%4:=aw (aO XI Gn ["thing"] ["thing"] bi A aD (by delta bi;fin2)) t
def hZ:á:=(aL (ae dw 4 (sj (Y 0) (Ú "abcdefghijklmnopqrstuvwxyzABCDEFGHIJKLMNOPQRSTUVWXYZ0123456789-_") (X 1) (X 10))))
def aY:Þ:=bL 1 hZ
def T14:bW:=("is_note_name",2,["thing"],aY)::T13
theorem oa(A:Af K "is_note_name" (Ù 68) f)(t:T13%4):T14%4:=aw (aO XI Gn ["thing"] ["thing"] hZ A aD (by delta hZ;fin2)) t
def og:á:=(aL (lB (ae dw 4 (sj (Y 0) (Ú "abcdefghijklmnopqrstuvwxyz0123456789-_./") (X 1) (X 20))) (fM (sW X4) (Y 0) (al (Ú "/")))))
def dh:Þ:=bL 1 og
def T15:bW:=("is_path",2,["thing"],dh)::T14
theorem yP(A:Af K "is_path" (Ù 36) f)(t:T14%4):T15%4:=aw (aO XI Gn ["thing"] ["thing"] og A aD (by delta og;fin2)) t
def lX:á:=(aL (İ (R è (Y 0) (Ú "any")) (R è (Y 0) (Ú "near"))))
def eV:Þ:=bL 1 lX
def T16:bW:=("is_reach",1,["thing"],eV)::T15
theorem vM(A:Af K "is_reach" (Ù 70) f)(t:T15%4):T16%4:=aw (aO XI Gn ["thing"] ["thing"] lX A aD (by delta lX;fin2)) t
def iS:á:=(aL (lB (f1 (j9 vo) (Y 0)) (R è (ì gL (al (Y 0))) (Y 1))))
def bQ:Þ:=bL 2 iS
def T17:bW:=("is_tuple_of",1,["thing","parts"],bQ)::T16
theorem oX(A:Af K "is_tuple_of" (Ù 14) f)(t:T16%4):T17%4:=aw (aO XI Gn ["thing","parts"] ["thing","parts"] iS A aD (by delta iS;fin2)) t
def lY:á:=(aM (bg (Đ (cC (fB (f1 (j9 vn) (Y 0)))) (fB (R ŝ (ì gL (al (Y 0))) (X 12)))) (aL (fC (.bl h_))) ó) (aL (ì pK (al (cu [] (eQ (Y 0)) U (lB (R ń (Ú "!") (Y 0)) (lB (R ń (Y 0) (Ú "~")) (R sU (Y 0) (Ú ";,=")))))))))
def cy:Þ:=bL 1 lY
def T18:bW:=("is_worth",1,["thing"],cy)::T17
theorem vN(A:Af K "is_worth" (Ù 69) f)(t:T17%4):T18%4:=aw (aO XI Gn ["thing"] ["thing"] lY A aD (by delta lY;fin2)) t
def k8:á:=(aM (bg (cC (fB (ae bQ 2 (bP (Y 0) (X 10))))) (aL (fC (.bl h_))) ó) (aM (bg (Đ (cC (fB (ae aZ 1 (al (R Ø (Y 0) (X 8)))))) (cC (fB (ae aZ 1 (al (R Ø (Y 0) (X 9))))))) (aL (fC (.bl h_))) ó) (aL (ì pK (al (jk (aP (ae aY 1 (al (R Ø (Y 0) (X 0)))) (aP (ae cy 1 (al (R Ø (Y 0) (X 1)))) (aP (ae bE 1 (al (R Ø (Y 0) (X 2)))) (z6 (f1 (j9 gh) (R Ø (Y 0) (X 3))) (ae dh 1 (al (R Ø (Y 0) (X 4)))) (ae aF 1 (al (R Ø (Y 0) (X 5)))) (f1 (j9 gh) (R Ø (Y 0) (X 6))) (ae eV 1 (al (R Ø (Y 0) (X 7)))) (R ń (R Ø (Y 0) (X 8)) (R Ø (Y 0) (X 9)))))))))))))
def gq:Þ:=bL 1 k8
def T19:bW:=("is_note",4,["thing"],gq)::T18
theorem yQ(A:Af K "is_note" (Ù 92) f)(t:T18%4):T19%4:=aw (aO XI Gn ["thing"] ["thing"] k8 A aD (by delta k8;fin2)) t
def k9:á:=(aM (bg (Đ (cC (fB (f1 (j9 vo) (Y 0)))) (fB (R ŝ (ì gL (al (Y 0))) (X 20)))) (aL (fC (.bl h_))) ó) (aM (bg (cC (fB (ì pK (al (cu [] (eQ (Y 0)) U (ae gq 1 (al (Y 0)))))))) (aL (fC (.bl h_))) ó) (aL (lB (ae gT 1 (al (Y 0))) (ae cH 1 (al (Y 0)))))))
def jW:Þ:=bL 1 k9
def T20:bW:=("is_jar",5,["thing"],jW)::T19
theorem Cd(A:Af K "is_jar" (Ù 103) f)(t:T19%4):T20%4:=aw (aO XI Gn ["thing"] ["thing"] k9 A aD (by delta k9;fin2)) t
def gu:á:=(bg (cC (fB (ae jW 1 (al (Y 0))))) (dP 5 (Ú "this is no jar")) ó)
def ar:Þ:=gJ 1 gu
def TE2:bW:=("need_jar",6,["thing"],ar)::TE1
theorem vO(A:Af K "need_jar" (Ù 106) f)(t:T20%4)(a:TE1%5):TE2%5:=br (bT XI Gn ["thing"] ["thing"] gu A aD (by delta gu;fin2)) a
def aQ:á:=(bg (fB (R ŝ (ì gL (al (Y 0))) (X 20))) (dP 5 (Ú "these are more notes than a jar has")) ó)
def aH:Þ:=gJ 1 aQ
def TE3:bW:=("need_no_more_than_a_jar_has",1,["notes"],aH)::TE2
theorem fF(A:Af K "need_no_more_than_a_jar_has" (Ù 107) f)(a:TE2%5):TE3%5:=br (bT XI Gn ["notes"] ["notes"] aQ A aD (by delta aQ;fin2)) a
def lZ:á:=(aL (ii (bP (R Ø (Y 0) (X 8)) (ae ce 1 (al (Y 0))))))
def dz:Þ:=bL 1 lZ
def T21:bW:=("place_of",2,["note"],dz)::T20
theorem vP(A:Af K "place_of" (Ù 121) f)(t:T20%4):T21%4:=aw (aO XI Gn ["note"] ["note"] lZ A aD (by delta lZ;fin2)) t
def dD:ŏ:=(KM (ae ce 1 (al (Y 3))) (vE (Y 3)))
def dF:ŏ:=(KM (ae ce 1 (al (Y 3))) (qj iw (KL (ae ce 1 (al (Y 3))) (Y 3)) (Y 3)))
def iy:á:=(aM (eC (ay ar 1 (al (Y 0)))) (aM (eC (ay ar 1 (al (Y 1)))) (BP 2 (KN 3 (Y 0) dD) (KN 3 (Y 1) dF) (Pk 4 (qk dz) (aM (eC (ay aH 1 (al (Y 4)))) (aL (ì jg (al (Y 4)))))))))
def fG:Þ:=gJ 5 iy
def TE4:bW:=("merged",7,["one","other"],fG)::TE3
theorem Ce(A:Af K "merged" (Ù 120) f)(t:T21%4)(a:TE3%5):TE4%5:=br (bT XI Gn ["one","other","chosen","note","notes"] ["one","other"] iy A aD (by delta iy dD dF;fin2)) a
def d5:cm:=(da (jV 2 (aI (ay fG 2 (bP (f1 (sr 1 1) (Y 0)) (Y 1))))) (da (eE (fU 1 bZ 2 (c8 0) (aJ (aI (Ú "merge")) (aJ (aI (Y 2)) fu)))) (lD (aI (ì gL (al (Y 2)))))))
def cp:ć:=kJ 3 d5
def TV2:lE:=("merge",8,1,cp)::TV1
theorem oY(A:Am K C "Desk.merge" "merge" (bM (Ù 125) 7) f)(b:TE4%5)(a:Ī P w K mg base 1 C TV1):Ī P w K mg base 1 C TV2:=gQ (gS ck ["self","jar","notes"] ["self","jar"] d5 A aD (by delta d5;fin2)) a
def iT:á:=(aL (f1 (sr 1 1) (Y 0)))
def bt:Þ:=gJ 1 iT
def TO1:MQ:=("notes",1,0,bt)::TO0
theorem rj(A:Am K C "Desk.notes" "notes" (bM (Ù 125) 1) f)(a:Ũ P w K mg base 1 C TO0):Ũ P w K mg base 1 C TO1:=xF (B0 ck ["self"] ["self"] iT A aD (by delta iT;fin2)) a
def fV:á:=(aL (ii (bP (ì gL (al (f1 (sr 1 2) (Y 0)))) (ì gL (al (f1 (sr 1 3) (Y 0)))))))
def ee:Þ:=gJ 1 fV
def TO2:MQ:=("steps",1,0,ee)::TO1
theorem rm(A:Am K C "Desk.steps" "steps" (bM (Ù 125) 11) f)(a:Ũ P w K mg base 1 C TO1):Ũ P w K mg base 1 C TO2:=xF (B0 ck ["self"] ["self"] fV A aD (by delta fV;fin2)) a
def gz:á:=(aM (bg (fB (R RU (Y 0) (jk dg))) (aL (R lI (X 7) (Y 1))) ó) (aL (R eD (R Ø (Y 0) (R lJ (Y 1) (ì gL (al (Y 0))))) (R lI (X 6553) (R lK (Y 1) (ì gL (al (Y 0))))))))
def eW:Þ:=bL 2 gz
def T22:bW:=("_law_cell",1,["_law_script","_law_k"],eW)::T21
theorem uu(A:Af K "_law_cell" (Ù 138) f)(t:T21%4):T22%4:=aw (aO XI Gn ["_law_script","_law_k"] ["_law_script","_law_k"] gz A aD (by delta gz;fin2)) t
def fH:á:=(aM (cO 3 (R lJ (R eD (R lI (R lJ (ae eW 2 (bP (Y 0) (Y 1))) (X 2147483563)) (X 69069)) (R lI (X 104723) (R eD (Y 1) (X 1)))) (X 2147483563))) (aM (cO 3 (R lJ (R eD (R lI (Y 3) (Y 3)) (R lK (Y 3) (X 3))) (X 2147483399))) (aL (R lJ (R lK (R lJ (R eD (R lI (Y 3) (Y 3)) (R lK (Y 3) (X 7))) (X 2147483647)) (X 11)) (Y 2)))))
def ag:Þ:=bL 4 fH
def T23:bW:=("_law_drawn",2,["_law_script","_law_k","_law_many"],ag)::T22
theorem rn(A:Af K "_law_drawn" (Ù 139) f)(t:T22%4):T23%4:=aw (aO XI Gn ["_law_script","_law_k","_law_many","_law_cell_here"] ["_law_script","_law_k","_law_many"] fH A aD (by delta fH;fin2)) t
def kr:á:=(aM (cO 2 (jk (aP (Ú "a.b") (aP (Ú "b") (z6 (Ú "x.a.b") (Ú "y.x.a.b") (Ú "c.uk") (Ú "uk") (Ú "d.c.uk") (Ú "e.d.c.uk")))))) (aM (cO 2 (R eD (Y 2) (jk (z6 (Ú "w.ck") (Ú "v.w.ck") (Ú "ck") (Ú "g-1.a.b") (Ú "7.b") (Ú "p.q"))))) (aL (R Ø (Y 2) (ae ag 3 (cL (Y 0) (Y 1) (ì gL (al (Y 2)))))))))
def aU:Þ:=bL 3 kr
def T24:bW:=("_law_name",3,["_law_script","_law_at"],aU)::T23
theorem uv(A:Af K "_law_name" (Ù 140) f)(t:T23%4):T24%4:=aw (aO XI Gn ["_law_script","_law_at","_law_some"] ["_law_script","_law_at"] kr A aD (by delta kr;fin2)) t
def ku:á:=(aM (cO 2 (jk (aP (Ú "/") (aP (Ú "/x") (aP (Ú "/x/") (z6 (Ú "/x/y") (Ú "/xy") (Ú "/x/y/z.q") (Ú "//") (Ú "/-_.9") (Ú "/x/y/"))))))) (aL (R Ø (Y 2) (ae ag 3 (cL (Y 0) (Y 1) (ì gL (al (Y 2))))))))
def cR:Þ:=bL 3 ku
def T25:bW:=("_law_path",3,["_law_script","_law_at"],cR)::T24
theorem uw(A:Af K "_law_path" (Ù 142) f)(t:T24%4):T25%4:=aw (aO XI Gn ["_law_script","_law_at","_law_some"] ["_law_script","_law_at"] ku A aD (by delta ku;fin2)) t
def iz:á:=(aM (cO 2 (R Ø (jk (cL (fC .non) (ae aU 2 (bP (Y 0) (R eD (Y 1) (X 3)))) (ae aU 2 (bP (Y 0) (R eD (Y 1) (X 3)))))) (ae ag 3 (cL (Y 0) (R eD (Y 1) (X 2)) (X 3))))) (aL (ii (sj (R è (ae ag 3 (cL (Y 0) (Y 1) (X 2))) (X 0)) (ae aU 2 (bP (Y 0) (R eD (Y 1) (X 1)))) (ae cR 2 (bP (Y 0) (R eD (Y 1) (X 4)))) (Y 2)))))
def cY:Þ:=bL 3 iz
def T26:bW:=("_law_ask",4,["_law_script","_law_at"],cY)::T25
theorem vQ(A:Af K "_law_ask" (Ù 143) f)(t:T25%4):T26%4:=aw (aO XI Gn ["_law_script","_law_at","_law_origin"] ["_law_script","_law_at"] iz A aD (by delta iz;fin2)) t
def bH:kP:=(hU (iP 6 (R dv (R dv (Y 1) (X 1)) (R lI (X 14) (Y 5)))) (hU (iP 4 (R dv (Y 4) (ae ag 3 (cL (Y 0) (Y 6) (X 4))))) (hU (iP 7 (R Ø (jk (sj (Ú "n") (Ú "m-1") (Ú "safe-a") (Ú "N_2"))) (ae ag 3 (cL (Y 0) (R dv (Y 6) (X 1)) (X 4))))) (hU (iP 8 (R Ø (jk (cL (Ú "5") (Ú "") (Ú "a!b~"))) (ae ag 3 (cL (Y 0) (R dv (Y 6) (X 2)) (X 3))))) (hU (iP 9 (R Ø (jk (bP (fC .non) (ae ag 3 (cL (Y 0) (R dv (Y 6) (X 7)) (X 60))))) (ae ag 3 (cL (Y 0) (R dv (Y 6) (X 6)) (X 2))))) (hU (iP 10 (R è (ae ag 3 (cL (Y 0) (R dv (Y 6) (X 4)) (X 2))) (X 0))) (hU (iP 11 (ii (sk (Y 7) (Y 8) (ae aU 2 (bP (Y 0) (R dv (Y 6) (X 3)))) (Y 10) (ae cR 2 (bP (Y 0) (R dv (Y 6) (X 5))))))) (hU (iP 12 (R Ø (jk (cL (Ú "any") (Ú "any") (Ú "near"))) (ae ag 3 (cL (Y 0) (R dv (Y 6) (X 9)) (X 3))))) (hU (iP 13 (R è (ae ag 3 (cL (Y 0) (R dv (Y 6) (X 8)) (X 2))) (X 0))) (hU (iP 14 (R dv (Y 4) (ae ag 3 (cL (Y 0) (R dv (Y 6) (X 10)) (X 5))))) (hU (iP 15 (R dv (Y 11) (ii (sk (Y 9) (Y 13) (Y 12) (Y 4) (Y 14))))) (JP 3 (fB (R è (cu [("_law_note",15)] (eQ (Y 3)) (Z (fB (R è (ii (cL (R Ø (Y 0) (X 0)) (R Ø (Y 0) (X 2)) (R Ø (Y 0) (X 4)))) (ii (cL (R Ø (Y 1) (X 0)) (R Ø (Y 1) (X 2)) (R Ø (Y 1) (X 4))))))) (Y 0)) (jk dg))) (EF (Y 15)) MO))))))))))))
def l4:á:=(EH 3 dg (hU (iP 4 (X 0)) (hU (DD 5 [5,6,7,8,9,10,11,12,13,14,15] (λa=>à ((al (ae ag 3 (cL (Y 0) (Y 1) (R dv (Y 2) (X 1))))) a) wP) bH) (JQ 3 (ì jg (al (Y 3)))))))
def eY:Þ:=bL 16 l4
def T27:bW:=("_law_jar",4,["_law_script","_law_at","_law_many"],eY)::T26
theorem vR(A:Af K "_law_jar" (Ù 144) f)(t:T26%4):T27%4:=aw (aO XI Gn ["_law_script","_law_at","_law_many","_law_found","_law_now","_law_k","_law_here","_law_name_here","_law_worth","_law_ends","_law_exact","_law_head","_law_reach","_law_safe","_law_late","_law_note"] ["_law_script","_law_at","_law_many"] l4 A aD (by delta l4 bH;fin2)) t
def bF:cm:=(da (jV 3 (aI (R DC (ì gL (al (f1 (sr 1 1) (Y 0)))) (ì gL (al (Y 2)))))) (da (eE (fU 1 bZ 2 (c8 0) (aJ (aI (Y 1)) (aJ (aI (Y 2)) fu)))) (lD (aI (Y 3)))))
def bX:ć:=kJ 4 bF
def TV3:lE:=("do_and_count",2,2,bX)::TV2
theorem jC(A:Am K C "Desk.do_and_count" "do_and_count" (bM (Ù 125) 6) f)(a:Ī P w K mg base 1 C TV2):Ī P w K mg base 1 C TV3:=gQ (gS ck ["self","word","left","gone"] ["self","word","left"] bF A aD (by delta bF;fin2)) a
def iU:á:=(aL (İ (R è (Y 0) (Y 1)) (fM (sW abV) (Y 0) (al (R eD (Ú ".") (Y 1))))))
def aR:Þ:=bL 2 iU
def T28:bW:=("lies_within",1,["one","other"],aR)::T27
theorem oZ(A:Af K "lies_within" (Ù 27) f)(t:T27%4):T28%4:=aw (aO XI Gn ["one","other"] ["one","other"] iU A aD (by delta iU;fin2)) t
def fI:á:=(bg (cC (fB (ae bE 1 (al (Y 0))))) (dP 0 (Ú "this is no name")) ó)
def ci:Þ:=gJ 1 fI
def TE5:bW:=("need_name",4,["thing"],ci)::TE4
theorem ux(A:Af K "need_name" (Ù 25) f)(t:T28%4)(a:TE4%5):TE5%5:=br (bT XI Gn ["thing"] ["thing"] fI A aD (by delta fI;fin2)) a
def fJ:á:=(aM (eC (ay ar 1 (al (Y 0)))) (aM (eC (ay ci 1 (al (Y 1)))) (aL (ì jg (al (cu [("house",1)] (eQ (Y 0)) (Z (cC (fB (ae aR 2 (bP (R Ø (Y 0) (X 2)) (Y 1)))))) (Y 0)))))))
def cT:Þ:=gJ 2 fJ
def TE6:bW:=("forgotten",7,["jar","house"],cT)::TE5
theorem uy(A:Af K "forgotten" (Ù 110) f)(t:T28%4)(a:TE5%5):TE6%5:=br (bT XI Gn ["jar","house"] ["jar","house"] fJ A aD (by delta fJ;fin2)) a
def ib:cm:=(lD (fU 1 bX 2 (c8 0) (aJ (aI (Ú "forget")) (aJ (aI (ay cT 2 (bP (f1 (sr 1 1) (Y 0)) (Y 1)))) fu))))
def cz:ć:=kJ 2 ib
def TV4:lE:=("forget",8,1,cz)::TV3
theorem oh(A:Am K C "Desk.forget" "forget" (bM (Ù 125) 5) f)(b:TE6%5)(a:Ī P w K mg base 1 C TV3):Ī P w K mg base 1 C TV4:=gQ (gS ck ["self","house"] ["self","house"] ib A aD (by delta ib;fin2)) a
def jE:cm:=(da (ň (fT (fB (R è (Y 1) (jk dg)))) (Sb (dP 8 (Ú "there is no such step"))) DF) (da (jV 3 (V5 (c8 1))) (da (eE (K5 (c8 2) (aJ (aI (ii (bP (R Ø (Y 3) (X 0)) (f1 (sr 1 1) (Y 0))))) fu))) (da (zk 1 1 (c8 0) (aI (R Ø (Y 3) (X 1)))) (lD (aI (R Ø (Y 3) (X 0))))))))
def jF:ć:=kJ 4 jE
def TV5:lE:=("move",1,2,jF)::TV4
theorem rp(A:Am K C "Desk.move" "move" (bM (Ù 125) 10) f)(a:Ī P w K mg base 1 C TV4):Ī P w K mg base 1 C TV5:=gQ (gS ck ["self","source","target","step"] ["self","source","target"] jE A aD (by delta jE;fin2)) a
def iV:cm:=(lD (fU 1 jF 2 (c8 0) (aJ (K1 1 3 (c8 0)) (aJ (K1 1 2 (c8 0)) fu))))
def iW:ć:=kJ 1 iV
def TV6:lE:=("forth",2,0,iW)::TV5
theorem o6(A:Am K C "Desk.forth" "forth" (bM (Ù 125) 9) f)(a:Ī P w K mg base 1 C TV5):Ī P w K mg base 1 C TV6:=gQ (gS ck ["self"] ["self"] iV A aD (by delta iV;fin2)) a
def di:á:=(bg (cC (fB (ae aZ 1 (al (Y 0))))) (dP 6 (Ú "this is no moment")) ó)
def aB:Þ:=gJ 1 di
def TE7:bW:=("need_moment",3,["thing"],aB)::TE6
theorem o7(A:Af K "need_moment" (Ù 49) f)(t:T28%4)(a:TE6%5):TE7%5:=br (bT XI Gn ["thing"] ["thing"] di A aD (by delta di;fin2)) a
def iX:á:=(aL (lB (R sS (R Ø (Y 0) (X 5)) (fC .non)) (R ń (R Ø (Y 0) (X 5)) (Y 1))))
def ba:Þ:=bL 2 iX
def T29:bW:=("has_ended",1,["note","now"],ba)::T28
theorem uz(A:Af K "has_ended" (Ù 98) f)(t:T28%4):T29%4:=aw (aO XI Gn ["note","now"] ["note","now"] iX A aD (by delta iX;fin2)) t
def gB:á:=(aL (ì jg (al (cu [("now",1)] (eQ (Y 0)) (Z (cC (fB (ae ba 2 (bP (Y 0) (Y 1)))))) (Y 0)))))
def bJ:Þ:=bL 2 gB
def T30:bW:=("without_ended",2,["notes","now"],bJ)::T29
theorem mK(A:Af K "without_ended" (Ù 109) f)(t:T29%4):T30%4:=aw (aO XI Gn ["notes","now"] ["notes","now"] gB A aD (by delta gB;fin2)) t
def lb:á:=(aM (eC (ay ar 1 (al (Y 0)))) (aM (eC (ay aB 1 (al (Y 1)))) (aL (ae bJ 2 (bP (Y 0) (Y 1))))))
def iY:Þ:=gJ 2 lb
def TE8:bW:=("swept",7,["jar","now"],iY)::TE7
theorem Gm(A:Af K "swept" (Ù 108) f)(t:T30%4)(a:TE7%5):TE8%5:=br (bT XI Gn ["jar","now"] ["jar","now"] lb A aD (by delta lb;fin2)) a
def iZ:cm:=(lD (fU 1 bX 2 (c8 0) (aJ (aI (Ú "sweep")) (aJ (aI (ay iY 2 (bP (f1 (sr 1 1) (Y 0)) (Y 1)))) fu))))
def cZ:ć:=kJ 2 iZ
def TV7:lE:=("sweep",8,1,cZ)::TV6
theorem o8(A:Am K C "Desk.sweep" "sweep" (bM (Ù 125) 4) f)(b:TE8%5)(a:Ī P w K mg base 1 C TV6):Ī P w K mg base 1 C TV7:=gQ (gS ck ["self","now"] ["self","now"] iZ A aD (by delta iZ;fin2)) a
def fN:cm:=(da (ň (fT (fB (R è (Y 0) (X 0)))) (eE (fU 1 cZ 1 (c8 1) (aJ (aI (f1 MM (X 1))) fu))) (ň (fT (fB (R è (Y 0) (X 1)))) (eE (fU 1 cz 1 (c8 1) (aJ (aI (Ú "A")) fu))) (ň (fT (fB (R è (Y 0) (X 2)))) (eE (fU 1 cp 1 (c8 1) (aJ (B6 fu) fu))) (eE (fU 1 iW 0 (c8 1) fu))))) (lD (aI (fC (.bl h_)))))
def cU:cm:=(F9 9 2 3 fN (f1 (isX (λc=>if([0,1,2,3,4,5,6,8]:Nat%0).contains c then Z L else U)) (Y 2)))
def bw:ć:=kJ 3 cU
def TW1:lE:=("_law_refuses",9,2,bw)::TW0
theorem mL(A:Af K "_law_refuses" (Ù 149) f)(b:Ī P w K mg base 1 C TV7)(a:Ğ P w K mg base TW0):Ğ P w K mg base TW1:=fw (hX XI Gn ["_law_way","_law_desk","e"] ["_law_way","_law_desk"] cU A aD (by delta cU fN;fin2)) a
def lc:á:=(aM (bg (cC (fB (ae bQ 2 (bP (Y 0) (X 4))))) (aL (fC (.bl h_))) ó) (aL (ì pK (al (jk (sj (f1 (j9 gh) (R Ø (Y 0) (X 0))) (ae bE 1 (al (R Ø (Y 0) (X 1)))) (ae dh 1 (al (R Ø (Y 0) (X 2)))) (İ (R Ė (R Ø (Y 0) (X 3)) (fC .non)) (ae bE 1 (al (R Ø (Y 0) (X 3)))))))))))
def fW:Þ:=bL 1 lc
def T31:bW:=("is_ask",4,["thing"],fW)::T30
theorem Cf(A:Af K "is_ask" (Ù 50) f)(t:T30%4):T31%4:=aw (aO XI Gn ["thing"] ["thing"] lc A aD (by delta lc;fin2)) t
def i5:á:=(bg (cC (fB (ae fW 1 (al (Y 0))))) (dP 3 (Ú "this is no ask")) ó)
def cV:Þ:=gJ 1 i5
def TE9:bW:=("need_ask",5,["thing"],cV)::TE8
theorem vS(A:Af K "need_ask" (Ù 51) f)(t:T31%4)(a:TE8%5):TE9%5:=br (bT XI Gn ["thing"] ["thing"] i5 A aD (by delta i5;fin2)) a
def dq:á:=(aL (ae dw 4 (sj (Y 0) (Ú "0123456789") (X 1) (X 4))))
def dt:Þ:=bL 1 dq
def T32:bW:=("is_written_moment",2,["text"],dt)::T31
theorem j8(A:Af K "is_written_moment" (Ù 73) f)(t:T31%4):T32%4:=aw (aO XI Gn ["text"] ["text"] dq A aD (by delta dq;fin2)) t
def ic:á:=(aM (bg (fB (R è (Y 0) (Ú "safe"))) (aL (ii (bP (X 6) (fC (.bl L))))) ó) (aM (bg (fB (ae eV 1 (al (Y 0)))) (aL (ii (bP (X 7) (Y 0)))) ó) (aM (cO 1 (fM (sZ) (Y 0) (al (Ú " ")))) (aM (cO 2 (R Ø (Y 1) (X 0))) (aM (cO 3 (R Ø (Y 1) (X 2))) (aM (bg (mC (fB (R è (Y 2) (Ú "for"))) (fB (ae bE 1 (al (Y 3))))) (aL (ii (bP (X 2) (Y 3)))) ó) (aM (bg (mC (fB (R è (Y 2) (Ú "under"))) (fB (ae dh 1 (al (Y 3))))) (aL (ii (bP (X 3) (Y 3)))) ó) (aM (bg (mC (fB (R è (Y 2) (Ú "until"))) (fB (ae dt 1 (al (Y 3))))) (aL (ii (bP (X 4) (ì R7 (al (Y 3)))))) ó) (aM (bg (mC (fB (R è (Y 2) (Ú "lasts"))) (fB (ae dt 1 (al (Y 3))))) (aL (ii (bP (X 5) (ì R7 (al (Y 3)))))) ó) (aL (fC .non)))))))))))
def bU:Þ:=bL 4 ic
def T33:bW:=("what_is_told",4,["part"],bU)::T32
theorem oj(A:Af K "what_is_told" (Ù 74) f)(t:T32%4):T33%4:=aw (aO XI Gn ["part","pieces","word","rest"] ["part"] ic A aD (by delta ic;fin2)) t
def bV:kP:=(hU (iP 5 (ae bU 1 (al (Y 4)))) (oIf (fB (R sS (Y 5) (fC .non))) (Be (R Ø (Y 5) (X 0)) (R Ø (Y 5) (X 1))) MO))
def ef:á:=(aM (bg (cC (fB (f1 (j9 vn) (Y 0)))) (dP 4 (Ú "this is no text")) ó) (aM (cO 1 (bB 1 [] (eQ (fM (jt) (Y 0) (al (Ú ";")))) (gN 0) U (fM (pO) (Y 0) (al (Ú " "))))) (aM (cO 2 (fM (sZ) (R Ø (Y 1) (X 0)) (al (Ú "=")))) (aM (bg (Đ (fB (R è (R Ø (Y 2) (X 1)) (Ú ""))) (Đ (cC (fB (ae aY 1 (al (R Ø (Y 2) (X 0)))))) (cC (fB (ae cy 1 (al (R Ø (Y 2) (X 2)))))))) (dP 4 (Ú "the first part is no note's name, = and worth")) ó) (EH 3 (aP (R Ø (Y 2) (X 0)) (aP (R Ø (Y 2) (X 2)) (z6 (fC .non) (fC .non) (fC .non) (fC .non) (fC (.bl h_)) (Ú "any")))) (hU (DD 4 [4,5] (eQ (Aj (Y 1) (il (X 1)) kg)) bV) (JQ 3 (ì jg (al (Y 3))))))))))
def aT:Þ:=gJ 6 ef
def UG:bW:=("read_given",5,["text"],aT)::TE9
theorem rq(A:Af K "read_given" (Ù 75) f)(t:T33%4)(a:TE9%5):UG%5:=br (bT XI Gn ["text","parts","first","given","part","told"] ["text"] ef A aD (by delta ef bV;fin2)) a
def bz:á:=(aM (eC (ay aK 1 (al (Y 0)))) (aM (eC (ay ar 1 (al (Y 1)))) (aM (eC (ay cV 1 (al (Y 2)))) (aM (cO 5 (ay aT 1 (al (Y 3)))) (aM (eC (ay aB 1 (al (Y 4)))) (aL (Y 5)))))))
def aC:Þ:=gJ 6 bz
def UH:bW:=("read_what_is_given",7,["table","jar","ask","text","now"],aC)::UG
theorem jG(A:Af K "read_what_is_given" (Ù 112) f)(a:UG%5):UH%5:=br (bT XI Gn ["table","jar","ask","text","now","given"] ["table","jar","ask","text","now"] bz A aD (by delta bz;fin2)) a
def jH:á:=(aM (bg (fB (R Ė (R Ø (Y 0) (X 5)) (fC .non))) (aL (R Ø (Y 0) (X 4))) ó) (aL (ì R6 (bP (R eD (Y 1) (R Ø (Y 0) (X 5))) (X 9999)))))
def jI:Þ:=bL 2 jH
def T34:bW:=("end_for",1,["given","now"],jI)::T33
theorem yR(A:Af K "end_for" (Ù 95) f)(t:T33%4):T34%4:=aw (aO XI Gn ["given","now"] ["given","now"] jH A aD (by delta jH;fin2)) t
def kx:á:=(aM (bg (fB (R Ė (R Ø (Y 1) (X 2)) (fC .non))) (aL (R Ø (Y 0) (X 1))) ó) (aL (R Ø (Y 1) (X 2))))
def kz:Þ:=bL 2 kx
def T35:bW:=("house_for",1,["ask","given"],kz)::T34
theorem uA(A:Af K "house_for" (Ù 93) f)(t:T34%4):T35%4:=aw (aO XI Gn ["ask","given"] ["ask","given"] kx A aD (by delta kx;fin2)) t
def ei:á:=(aL (R Ø (fM (sZ) (Y 0) (al (Ú "."))) (X 2)))
def el:Þ:=bL 1 ei
def T36:bW:=("behind_first_dot",1,["end"],el)::T35
theorem kA(A:Af K "behind_first_dot" (Ù 29) f)(t:T35%4):T36%4:=aw (aO XI Gn ["end"] ["end"] ei A aD (by delta ei;fin2)) t
def db:á:=(aM (cO 1 (fM (jt) (Y 0) (al (Ú ".")))) (aL (cu [("parts",1)] (λa=>à ((al (ì gL (al (Y 1)))) a) wP) U (fM (Ej) (Ú ".") (al (Aj (Y 1) (il (Y 0)) kg))))))
def dc:Þ:=bL 2 db
def T37:bW:=("ends_longest_first",1,["name"],dc)::T36
theorem jJ(A:Af K "ends_longest_first" (Ù 28) f)(t:T36%4):T37%4:=aw (aO XI Gn ["name","parts"] ["name"] db A aD (by delta db;fin2)) t
def ie:á:=(aM (bg (fB (R ł (Y 1) (Y 0))) (aL (fC (.bl L))) ó) (aL (lB (R ł (Ú ".") (Y 1)) (R ł (R eD (Ú "*.") (ae el 1 (al (Y 1)))) (Y 0)))))
def kf:Þ:=bL 2 ie
def T38:bW:=("is_told_open",2,["table","end"],kf)::T37
theorem om(A:Af K "is_told_open" (Ù 30) f)(t:T37%4):T38%4:=aw (aO XI Gn ["table","end"] ["table","end"] ie A aD (by delta ie;fin2)) t
def iB:á:=(bg (fB (R ł (R eD (Ú "!") (Y 3)) (Y 0))) (aL (ae el 1 (al (Y 3)))) ó)
def iC:á:=(bg (fB (ae kf 2 (bP (Y 0) (Y 3)))) (aL (Y 3)) ó)
def gC:á:=(aM (cO 2 (ae dc 1 (al (Y 1)))) (aM (NN 3 [] (eQ (Y 2)) iB) (aM (NN 3 [3] (eQ (Y 2)) iC) (aL (R Ø (Y 2) (f1 MM (X 1)))))))
def cW:Þ:=bL 4 gC
def T39:bW:=("find_open_end",3,["table","name"],cW)::T38
theorem mM(A:Af K "find_open_end" (Ù 31) f)(t:T38%4):T39%4:=aw (aO XI Gn ["table","name","ends","end"] ["table","name"] gC A aD (by delta gC iB iC;fin2)) t
def lf:á:=(aL (R è (ae cW 2 (bP (Y 0) (Y 1))) (Y 1)))
def gD:Þ:=bL 2 lf
def T40:bW:=("is_open",4,["table","house"],gD)::T39
theorem yS(A:Af K "is_open" (Ù 88) f)(t:T39%4):T40%4:=aw (aO XI Gn ["table","house"] ["table","house"] lf A aD (by delta lf;fin2)) t
def jX:á:=(aM (cO 3 (R Ø (Y 2) (X 2))) (aM (bg (fB (R Ė (Y 3) (fC .non))) (aL (fC (.bl L))) ó) (aL (lB (R è (Y 3) (R Ø (Y 1) (X 1))) (ae gD 2 (bP (Y 0) (Y 3)))))))
def dG:Þ:=bL 4 jX
def T41:bW:=("is_exact",5,["table","ask","given"],dG)::T40
theorem vT(A:Af K "is_exact" (Ù 89) f)(t:T40%4):T41%4:=aw (aO XI Gn ["table","ask","given","house"] ["table","ask","given"] jX A aD (by delta jX;fin2)) t
def l7:á:=(aM (bg (cC (fB (ae bQ 2 (bP (Y 0) (X 8))))) (aL (fC (.bl h_))) ó) (aL (ì pK (al (jk (aP (ae aY 1 (al (R Ø (Y 0) (X 0)))) (aP (ae cy 1 (al (R Ø (Y 0) (X 1)))) (z6 (İ (R Ė (R Ø (Y 0) (X 2)) (fC .non)) (ae bE 1 (al (R Ø (Y 0) (X 2))))) (İ (R Ė (R Ø (Y 0) (X 3)) (fC .non)) (ae dh 1 (al (R Ø (Y 0) (X 3))))) (ae aF 1 (al (R Ø (Y 0) (X 4)))) (ae aF 1 (al (R Ø (Y 0) (X 5)))) (f1 (j9 gh) (R Ø (Y 0) (X 6))) (ae eV 1 (al (R Ø (Y 0) (X 7))))))))))))
def iD:Þ:=bL 1 l7
def T42:bW:=("is_given",4,["thing"],iD)::T41
theorem vU(A:Af K "is_given" (Ù 71) f)(t:T41%4):T42%4:=aw (aO XI Gn ["thing"] ["thing"] l7 A aD (by delta l7;fin2)) t
def fX:á:=(bg (cC (fB (ae iD 1 (al (Y 0))))) (dP 4 (Ú "this can't be given")) ó)
def c5:Þ:=gJ 1 fX
def UJ:bW:=("need_given",5,["thing"],c5)::UH
theorem rA(A:Af K "need_given" (Ù 72) f)(t:T42%4)(a:UH%5):UJ%5:=br (bT XI Gn ["thing"] ["thing"] fX A aD (by delta fX;fin2)) a
def jK:á:=(bg (cC (fB (ae dh 1 (al (Y 0))))) (dP 2 (Ú "this is no path")) ó)
def mF:Þ:=gJ 1 jK
def UK:bW:=("need_path",3,["thing"],mF)::UJ
theorem uC(A:Af K "need_path" (Ù 37) f)(t:T42%4)(a:UJ%5):UK%5:=br (bT XI Gn ["thing"] ["thing"] jK A aD (by delta jK;fin2)) a
def oo:á:=(aM (eC (ay mF 1 (al (Y 0)))) (aM (cO 1 (fM (RT afw) (Y 0) (al (Ú "/")))) (aM (bg (fB (R è (Y 1) (X 0))) (aL (Ú "/")) ó) (aL (Aj (Y 0) kg (il (Y 1)))))))
def lg:Þ:=gJ 2 oo
def UL:bW:=("folder",4,["path"],lg)::UK
theorem Cg(A:Af K "folder" (Ù 38) f)(a:UK%5):UL%5:=br (bT XI Gn ["path","place"] ["path"] oo A aD (by delta oo;fin2)) a
def i7:á:=(aM (bg (fB (R Ė (R Ø (Y 1) (X 3)) (fC .non))) (aL (ay lg 1 (al (R Ø (Y 0) (X 2))))) ó) (aL (R Ø (Y 1) (X 3))))
def gE:Þ:=gJ 2 i7
def UM:bW:=("path_for",5,["ask","given"],gE)::UL
theorem vV(A:Af K "path_for" (Ù 94) f)(a:UL%5):UM%5:=br (bT XI Gn ["ask","given"] ["ask","given"] i7 A aD (by delta i7;fin2)) a
def ig:á:=(aM (cO 2 (ae cW 2 (bP (Y 0) (Y 1)))) (aM (cO 3 (ae dc 1 (al (Y 1)))) (aM (cO 4 (fML Ti (Y 3) (al (Y 2)))) (aM (bg (fB (R è (Y 4) (X 0))) (aL (fC .non)) ó) (aL (R Ø (Y 3) (R DC (Y 4) (X 1))))))))
def bI:Þ:=bL 5 ig
def T43:bW:=("find_own_end",4,["table","name"],bI)::T42
theorem oq(A:Af K "find_own_end" (Ù 32) f)(t:T42%4):T43%4:=aw (aO XI Gn ["table","name","end","ends","place"] ["table","name"] ig A aD (by delta ig;fin2)) t
def bj:á:=(aM (cO 2 (R Ø (Y 1) (X 1))) (aM (cO 3 (R Ø (Y 1) (X 3))) (aM (bg (Đ (fB (R Ė (Y 3) (fC .non))) (fB (R è (Y 3) (Y 2)))) (aL (fC (.bl L))) ó) (aM (cO 4 (ae bI 2 (bP (Y 0) (Y 2)))) (aL (lB (R sS (Y 4) (fC .non)) (R è (Y 4) (ae bI 2 (bP (Y 0) (Y 3))))))))))
def aE:Þ:=bL 5 bj
def T44:bW:=("comes_from_near",5,["table","ask"],aE)::T43
theorem lh(A:Af K "comes_from_near" (Ù 52) f)(t:T43%4):T44%4:=aw (aO XI Gn ["table","ask","house","origin","own"] ["table","ask"] bj A aD (by delta bj;fin2)) t
def bO:á:=(aM (cO 3 (R Ø (Y 2) (X 0))) (aM (bg (fB (fM (sW X4) (Y 3) (al (Ú "safe-")))) (aL (R Ø (Y 2) (X 6))) ó) (aM (bg (fB (fM (sW X4) (Y 3) (al (Ú "own-")))) (aL (lB (R Ø (Y 2) (X 6)) (lB (ae dG 3 (cL (Y 0) (Y 1) (Y 2))) (R è (R Ø (Y 2) (X 3)) (Ú "/"))))) ó) (aL (fC (.bl L))))))
def bh:Þ:=bL 4 bO
def T45:bW:=("keeps_its_mark",6,["table","ask","given"],bh)::T44
theorem l8(A:Af K "keeps_its_mark" (Ù 90) f)(t:T44%4):T45%4:=aw (aO XI Gn ["table","ask","given","name"] ["table","ask","given"] bO A aD (by delta bO;fin2)) t
def fz:á:=(aM (eC (ay aK 1 (al (Y 0)))) (aM (eC (ay cV 1 (al (Y 1)))) (aM (eC (ay c5 1 (al (Y 2)))) (aM (cO 3 (R Ø (Y 2) (X 2))) (aM (bg (mC (fB (R sS (Y 3) (fC .non))) (cC (fB (ae aR 2 (bP (R Ø (Y 1) (X 1)) (Y 3)))))) (aL (Ú "foreign")) ó) (aM (bg (mC (fB (R sS (Y 3) (fC .non))) (mC (fB (R Ŕ (Y 3) (R Ø (Y 1) (X 1)))) (fB (ae gD 2 (bP (Y 0) (Y 3)))))) (aL (Ú "open")) ó) (aM (bg (mC (fB (R Ø (Y 2) (X 6))) (cC (fB (R Ø (Y 1) (X 0))))) (aL (Ú "unsafe")) ó) (aM (bg (cC (fB (ae bh 3 (cL (Y 0) (Y 1) (Y 2))))) (aL (Ú "marked")) ó) (aM (bg (mC (fB (R è (R Ø (Y 2) (X 7)) (Ú "near"))) (cC (fB (ae aE 2 (bP (Y 0) (Y 1)))))) (aL (Ú "far")) ó) (aL (fC .non)))))))))))
def bu:Þ:=gJ 4 fz
def UN:bW:=("why_refused",7,["table","ask","given"],bu)::UM
theorem o9(A:Af K "why_refused" (Ù 91) f)(t:T45%4)(a:UM%5):UN%5:=br (bT XI Gn ["table","ask","given","house"] ["table","ask","given"] fz A aD (by delta fz;fin2)) a
def rB:á:=(aM (eC (ay aK 1 (al (Y 0)))) (aM (eC (ay cV 1 (al (Y 1)))) (aM (eC (ay c5 1 (al (Y 2)))) (aM (eC (ay aB 1 (al (Y 3)))) (aM (bg (fB (R sS (ay bu 3 (cL (Y 0) (Y 1) (Y 2))) (fC .non))) (dP 4 (Ú "this may not be given by this ask")) ó) (aL (ii (aP (R Ø (Y 2) (X 0)) (aP (R Ø (Y 2) (X 1)) (aP (ae kz 2 (bP (Y 1) (Y 2))) (aP (ae dG 3 (cL (Y 0) (Y 1) (Y 2))) (z6 (ay gE 2 (bP (Y 1) (Y 2))) (ae jI 2 (bP (Y 2) (Y 3))) (R Ø (Y 2) (X 6)) (R Ø (Y 2) (X 7)) (Y 3) (Y 3)))))))))))))
def eZ:Þ:=gJ 4 rB
def UO:bW:=("made",8,["table","ask","given","now"],eZ)::UN
theorem LG(A:Af K "made" (Ù 96) f)(t:T45%4)(a:UN%5):UO%5:=br (bT XI Gn ["table","ask","given","now"] ["table","ask","given","now"] rB A aD (by delta rB;fin2)) a
def vW:á:=(aM (cO 2 (bB 1 [("note",1)] (eQ (Y 0)) (gN 0) (Z (fB (R è (ae ce 1 (al (Y 0))) (ae ce 1 (al (Y 1)))))) (Y 0))) (aM (bg (fB (R è (Y 2) (jk dg))) (aL (R dv (Y 0) (ii (al (Y 1))))) ó) (aM (cO 3 (R dv (R dv (vp (Y 1) kg (il (X 8))) (ii (al (R Ø (R Ø (Y 2) (X 0)) (X 8))))) (vp (Y 1) (il (R dv (X 8) (X 1))) kg))) (aL (ì jg (al (cu [("note",1),("newer",3)] (eQ (Y 0)) U (Ő (fB (R è (ae ce 1 (al (Y 0))) (ae ce 1 (al (Y 1))))) (Y 2) (Y 0)))))))))
def Go:Þ:=bL 4 vW
def T46:bW:=("put",2,["jar","note"],Go)::T45
theorem Qu(A:Af K "put" (Ù 111) f)(t:T45%4):T46%4:=aw (aO XI Gn ["jar","note","same","newer"] ["jar","note"] vW A aD (by delta vW;fin2)) t
def jL:á:=(aM (bg (fB (R è (Y 0) (Y 1))) (aL (fC (.bl L))) ó) (aM (bg (cC (fB (fM (sW X4) (Y 0) (al (Y 1))))) (aL (fC (.bl h_))) ó) (aL (İ (fM (sW abV) (Y 1) (al (Ú "/"))) (R è (R Ø (Y 0) (ì gL (al (Y 1)))) (Ú "/"))))))
def bR:Þ:=bL 2 jL
def T47:bW:=("lies_under",1,["path","top"],bR)::T46
theorem rD(A:Af K "lies_under" (Ù 39) f)(t:T46%4):T47%4:=aw (aO XI Gn ["path","top"] ["path","top"] jL A aD (by delta jL;fin2)) t
def li:á:=(aM (bg (Đ (cC (fB (R Ø (Y 0) (X 6)))) (Đ (fB (ae ba 2 (bP (Y 0) (Y 2)))) (fB (R Ŕ (R Ø (Y 0) (X 0)) (R Ø (Y 1) (X 0)))))) (aL (fC (.bl h_))) ó) (aM (bg (mC (cC (fB (ae aR 2 (bP (R Ø (Y 1) (X 2)) (R Ø (Y 0) (X 2)))))) (cC (fB (ae aR 2 (bP (R Ø (Y 0) (X 2)) (R Ø (Y 1) (X 2))))))) (aL (fC (.bl h_))) ó) (aL (ae bR 2 (bP (R Ø (Y 1) (X 4)) (R Ø (Y 0) (X 4)))))))
def jM:Þ:=bL 3 li
def T48:bW:=("shadows",2,["old","note","now"],jM)::T47
theorem yT(A:Af K "shadows" (Ù 115) f)(t:T47%4):T48%4:=aw (aO XI Gn ["old","note","now"] ["old","note","now"] li A aD (by delta li;fin2)) t
def fg:á:=(aM (cO 5 (ay bu 3 (cL (Y 0) (Y 2) (Y 3)))) (aM (bg (fB (R sS (Y 5) (fC .non))) (aL (Y 5)) ó) (aM (cO 6 (ay eZ 4 (sj (Y 0) (Y 2) (Y 3) (Y 4)))) (aM (bg (mC (cC (fB (R Ø (Y 2) (X 0)))) (fB (ì Ki (al (cu [("now",4),("note",6)] (eQ (Y 1)) U (ae jM 3 (cL (Y 0) (Y 2) (Y 1)))))))) (aL (Ú "shadowed")) ó) (aM (bg (fB (ae ba 2 (bP (Y 6) (Y 4)))) (aL (Ú "gone")) ó) (aL (Ú "kept")))))))
def bp:Þ:=gJ 7 fg
def UP:bW:=("word_of",9,["table","jar","ask","given","now"],bp)::UO
theorem yU(A:Af K "word_of" (Ù 114) f)(t:T48%4)(a:UO%5):UP%5:=br (bT XI Gn ["table","jar","ask","given","now","refused","note"] ["table","jar","ask","given","now"] fg A aD (by delta fg;fin2)) a
def mf:á:=(aM (cO 5 (ay bp 5 (sk (Y 0) (Y 1) (Y 2) (Y 3) (Y 4)))) (aM (cO 6 (ae bJ 2 (bP (Y 1) (Y 4)))) (aM (bg (fB (R è (Y 5) (Ú "kept"))) (aL (ae Go 2 (bP (Y 6) (ay eZ 4 (sj (Y 0) (Y 2) (Y 3) (Y 4)))))) ó) (aM (bg (fB (R è (Y 5) (Ú "gone"))) (aM (cO 7 (ae ce 1 (al (ay eZ 4 (sj (Y 0) (Y 2) (Y 3) (Y 4)))))) (aL (ì jg (al (cu [("ended",7)] (eQ (Y 6)) (Z (fB (R Ŕ (ae ce 1 (al (Y 0))) (Y 1)))) (Y 0)))))) ó) (aL (Y 6))))))
def c6:Þ:=gJ 8 mf
def UQ:bW:=("take_in",10,["table","jar","ask","given","now"],c6)::UP
theorem yV(A:Af K "take_in" (Ù 117) f)(t:T48%4)(a:UP%5):UQ%5:=br (bT XI Gn ["table","jar","ask","given","now","word","notes","ended"] ["table","jar","ask","given","now"] mf A aD (by delta mf;fin2)) a
def lj:á:=(aM (cO 5 (ay aC 5 (sk (Y 0) (Y 1) (Y 2) (Y 3) (Y 4)))) (aM (bg (fB (ì Ki (al (cu [("now",4)] (eQ (Y 1)) U (R ŝ (R Ø (Y 0) (X 9)) (Y 1)))))) (dP 6 (Ú "some note was used later than this moment")) ó) (aM (cO 6 (ay c6 5 (sk (Y 0) (Y 1) (Y 2) (Y 5) (Y 4)))) (aM (eC (ay aH 1 (al (Y 6)))) (aL (Y 6))))))
def jY:Þ:=gJ 7 lj
def UR:bW:=("taken",11,["table","jar","ask","text","now"],jY)::UQ
theorem Gp(A:Af K "taken" (Ù 116) f)(a:UQ%5):UR%5:=br (bT XI Gn ["table","jar","ask","text","now","given","notes"] ["table","jar","ask","text","now"] lj A aD (by delta lj;fin2)) a
def iE:á:=(aM (cO 5 (ay aC 5 (sk (Y 0) (Y 1) (Y 2) (Y 3) (Y 4)))) (aL (ay bp 5 (sk (Y 0) (Y 1) (Y 2) (Y 5) (Y 4)))))
def fZ:Þ:=gJ 6 iE
def MS:bW:=("verdict",10,["table","jar","ask","text","now"],fZ)::UR
theorem yW(A:Af K "verdict" (Ù 113) f)(a:UR%5):MS%5:=br (bT XI Gn ["table","jar","ask","text","now","given"] ["table","jar","ask","text","now"] iE A aD (by delta iE;fin2)) a
def fK:cm:=(da (jV 4 (aI (ay jY 5 (sk (f1 (sr 1 0) (Y 0)) (f1 (sr 1 1) (Y 0)) (Y 1) (Y 2) (Y 3))))) (da (jV 5 (aI (ay fZ 5 (sk (f1 (sr 1 0) (Y 0)) (f1 (sr 1 1) (Y 0)) (Y 1) (Y 2) (Y 3))))) (da (eE (fU 1 bZ 2 (c8 0) (aJ (aI (Ú "give")) (aJ (aI (Y 4)) fu)))) (lD (aI (Y 5))))))
def gU:ć:=kJ 6 fK
def TV8:lE:=("give",12,3,gU)::TV7
theorem rE(A:Am K C "Desk.give" "give" (bM (Ù 125) 3) f)(b:MS%5)(a:Ī P w K mg base 1 C TV7):Ī P w K mg base 1 C TV8:=gQ (gS ck ["self","ask","text","now","notes","word"] ["self","ask","text","now"] fK A aD (by delta fK;fin2)) a
def gV:á:=(aM (cO 3 (R Ø (jk (aP (Ú "n") (z6 (Ú "safe-a") (Ú "own-b") (Ú "N_2") (Ú "m-1") (Ú "safe-") (Ú "n")))) (ae ag 3 (cL (Y 0) (Y 1) (X 7))))) (aM (cO 4 (R Ø (jk (sk (Ú "5") (Ú "") (Ú "a!b~") (Ú "x/y?z") (Ú "123456789012"))) (ae ag 3 (cL (Y 0) (R eD (Y 1) (X 1)) (X 5))))) (EH 5 (sk (fC .non) (fC .non) (Y 2) (R Ø (fM (jt) (Y 2) (al (Ú "."))) (f1 MM (X 1))) (ae aU 2 (bP (Y 0) (R eD (Y 1) (X 3))))) (hU (EF (Ő (fB (R ł (Ú ".") (Y 2))) (Aj (Y 2) (il (R eD (fM Ov (Y 2) (al (Ú "."))) (X 1))) kg) (Y 2))) (hU (iP 6 (R Ø (jk (cL (fC .non) (Ú "/") (ae cR 2 (bP (Y 0) (R eD (Y 1) (X 5)))))) (ae ag 3 (cL (Y 0) (R eD (Y 1) (X 4)) (X 3))))) (hU (iP 7 (R Ø (jk (cL (fC .non) (fC .non) (ae ag 3 (cL (Y 0) (R eD (Y 1) (X 7)) (X 60))))) (ae ag 3 (cL (Y 0) (R eD (Y 1) (X 6)) (X 3))))) (hU (iP 8 (R Ø (jk (cL (fC .non) (fC .non) (ae ag 3 (cL (Y 0) (R eD (Y 1) (X 9)) (X 30))))) (ae ag 3 (cL (Y 0) (R eD (Y 1) (X 8)) (X 3))))) (hU (iP 9 (R Ø (jk (bP (Ú "any") (Ú "near"))) (ae ag 3 (cL (Y 0) (R eD (Y 1) (X 11)) (X 2))))) (hU (iP 10 (R è (ae ag 3 (cL (Y 0) (R eD (Y 1) (X 10)) (X 2))) (X 0))) (JQ 5 (ii (aP (Y 3) (aP (Y 4) (z6 (R Ø (Y 5) (ae ag 3 (cL (Y 0) (R eD (Y 1) (X 2)) (X 6)))) (Y 6) (Y 7) (Y 8) (Y 10) (Y 9)))))))))))))))
def dH:Þ:=bL 11 gV
def T49:bW:=("_law_given",4,["_law_script","_law_at","_law_house"],dH)::T48
theorem rF(A:Af K "_law_given" (Ù 145) f)(t:T48%4):T49%4:=aw (aO XI Gn ["_law_script","_law_at","_law_house","_law_name_here","_law_worth","_law_some","_law_path_here","_law_until","_law_lasts","_law_reach","_law_safe"] ["_law_script","_law_at","_law_house"] gV A aD (by delta gV;fin2)) t
def aN:á:=(bg (fB (R sS (Y 11) (fC .non))) (cO 9 (R dv (R dv (R dv (R dv (Y 9) (Ú "; ")) (Y 10)) (Ú " ")) (ì OO (al (Y 11))))) ó)
def jc:á:=(aM (Of [1,2,3,4] (vp (Y 0) kg (il (X 4)))) (aM (Of [5,6,7,8] (vp (Y 0) (il (X 4)) kg)) (aM (cO 9 (R dv (R dv (Y 1) (Ú "=")) (Y 2))) (aM (Bc (gP 10 11) [11,10] (λa=>à ((bP (ii (sj (Ú "for") (Ú "under") (Ú "until") (Ú "lasts"))) (vp (Y 0) (il (X 2)) (il (X 6)))) a) ON) aN) (aL (R dv (R dv (Y 9) (Ő (fB (Y 7)) (Ú "; safe") (Ú ""))) (Ő (fB (R è (Y 8) (Ú "near"))) (Ú "; near") (Ú ""))))))))
def fj:Þ:=bL 12 jc
def T50:bW:=("_law_text",1,["_law_given_here"],fj)::T49
theorem uD(A:Af K "_law_text" (Ù 146) f)(t:T49%4):T50%4:=aw (aO XI Gn ["_law_given_here","_law_name_here","_law_worth","_law_house","_law_path_here","_law_until","_law_lasts","_law_safe","_law_reach","_law_text_here","_law_word","_law_thing"] ["_law_given_here"] jc A aD (by delta jc aN;fin2)) t
def cq:cm:=(da (ň (fT (fB (R ltX (Y 4) (X 3)))) (da (jV 7 (aI (ae cY 2 (bP (Y 0) (R eD (Y 1) (X 1)))))) (da (jV 8 (aI (ae dH 3 (cL (Y 0) (R eD (Y 1) (X 8)) (R Ø (Y 7) (X 1)))))) (lD (lS ł (fU 1 gU 3 (c8 2) (aJ (aI (Y 7)) (aJ (aI (ae fj 1 (al (Y 8)))) (aJ (aI (Y 3)) fu)))) (Y 6))))) DF) (da (ň (fT (fB (R è (Y 4) (X 3)))) (lD (lS è (fU 1 cZ 1 (c8 2) (aJ (aI (Y 3)) fu)) (R DC (Y 5) (ì gL (al (kY 1 bt 0 (Y 2) dg)))))) DF) (da (ň (fT (fB (R è (Y 4) (X 4)))) (lD (lS è (fU 1 cz 1 (c8 2) (aJ (aI (ae aU 2 (bP (Y 0) (R eD (Y 1) (X 2))))) fu)) (R DC (Y 5) (ì gL (al (kY 1 bt 0 (Y 2) dg)))))) DF) (lD (lS è (fU 1 cp 1 (c8 2) (aJ (aI (ae eY 3 (cL (Y 0) (R eD (Y 1) (X 25)) (X 3)))) fu)) (ì gL (al (kY 1 bt 0 (Y 2) dg))))))))
def jN:cm:=(da (jV 4 (aI (ae ag 3 (cL (Y 0) (Y 1) (X 6))))) (da (jV 5 (aI (ì gL (al (kY 1 bt 0 (Y 2) dg))))) (da (jV 6 (aI (ii (aP (Ú "foreign") (aP (Ú "open") (z6 (Ú "unsafe") (Ú "marked") (Ú "far") (Ú "shadowed") (Ú "gone") (Ú "kept"))))))) (F3 cq))))
def gW:ć:=kJ 9 jN
def TW2:lE:=("_law_step",13,4,gW)::TW1
theorem rG(A:Af K "_law_step" (Ù 147) f)(t:T50%4)(d:Ũ P w K mg base 1 C TO2)(b:Ī P w K mg base 1 C TV8)(a:Ğ P w K mg base TW1):Ğ P w K mg base TW2:=fw (hX XI Gn ["_law_script","_law_at","_law_desk","_law_now","_law_way","_law_before","_law_words","_law_ask_here","_law_given_here"] ["_law_script","_law_at","_law_desk","_law_now"] jN A aD (by delta jN cq;fin2)) a
def jO:á:=(aM (cO 2 (jk (aP (Ú "!w.ck") (aP (Ú "*.ck") (z6 (Ú "*.uk") (Ú "a.b") (Ú "b") (Ú "c.uk") (Ú "q") (Ú "uk")))))) (aL (ì jg (al (bB 2 [("_law_script",0),("_law_at",1)] (λa=>à ((al (Y 2)) a) Eo) (gP 0 1) (Z (fB (R è (ae ag 3 (cL (Y 2) (R eD (Y 3) (Y 0)) (X 2))) (X 0)))) (Y 1))))))
def fL:Þ:=bL 3 jO
def T51:bW:=("_law_table",3,["_law_script","_law_at"],fL)::T50
theorem rH(A:Af K "_law_table" (Ù 141) f)(t:T50%4):T51%4:=aw (aO XI Gn ["_law_script","_law_at","_law_some"] ["_law_script","_law_at"] jO A aD (by delta jO;fin2)) t
def mZ:á:=(aM (bg (fB (R Ø (Y 0) (X 3))) (aL (R è (R Ø (Y 0) (X 2)) (Y 1))) ó) (aL (ae aR 2 (bP (Y 1) (R Ø (Y 0) (X 2))))))
def ll:Þ:=bL 2 mZ
def T52:bW:=("is_for",2,["note","house"],ll)::T51
theorem Ci(A:Af K "is_for" (Ù 99) f)(t:T51%4):T52%4:=aw (aO XI Gn ["note","house"] ["note","house"] mZ A aD (by delta mZ;fin2)) t
def xH:á:=(aM (bg (Đ (fB (ae ba 2 (bP (Y 1) (Y 3)))) (cC (fB (ae ll 2 (bP (Y 1) (R Ø (Y 2) (X 1))))))) (aL (fC (.bl h_))) ó) (aM (bg (cC (fB (ae bR 2 (bP (R Ø (Y 2) (X 2)) (R Ø (Y 1) (X 4)))))) (aL (fC (.bl h_))) ó) (aM (bg (mC (fB (R Ø (Y 1) (X 6))) (cC (fB (R Ø (Y 2) (X 0))))) (aL (fC (.bl h_))) ó) (aL (İ (R è (R Ø (Y 1) (X 7)) (Ú "any")) (ae aE 2 (bP (Y 0) (Y 2))))))))
def uE:Þ:=bL 4 xH
def T53:bW:=("goes",6,["table","note","ask","now"],uE)::T52
theorem LH(A:Af K "goes" (Ù 100) f)(t:T52%4):T53%4:=aw (aO XI Gn ["table","note","ask","now"] ["table","note","ask","now"] xH A aD (by delta xH;fin2)) t
def jZ:cm:=(lD (į h_ (bB 1 [("table",0),("note",1),("asks",2),("now",3)] (λa=>à ((al (ì gL (al (Y 2)))) a) wP) (gN 0) (Z (fB (ae uE 4 (sj (Y 1) (Y 2) (R Ø (Y 3) (Y 0)) (Y 4))))) (Y 0))))
def mh:ć:=kJ 4 jZ
def TW3:lE:=("asks_of",7,4,mh)::TW2
theorem vX(A:Af K "asks_of" (Ù 136) f)(t:T53%4)(a:Ğ P w K mg base TW2):Ğ P w K mg base TW3:=fw (hX XI Gn ["table","note","asks","now"] ["table","note","asks","now"] jZ A aD (by delta jZ;fin2)) a
def cf:á:=(aM (bg (Đ (cC (fB (f1 (j9 EJ) (Y 0)))) (fB (R ŝ (ì gL (al (Y 0))) (X 9)))) (aL (fC (.bl h_))) ó) (aL (ì pK (al (cu [] (eQ (Y 0)) U (ae fW 1 (al (Y 0))))))))
def c7:Þ:=bL 1 cf
def T54:bW:=("is_list_of_asks",5,["thing"],c7)::T53
theorem lm(A:Af K "is_list_of_asks" (Ù 134) f)(t:T53%4):T54%4:=aw (aO XI Gn ["thing"] ["thing"] cf A aD (by delta cf;fin2)) t
def m5:cm:=(da (eE (aI (ay aK 1 (al (Y 0))))) (da (eE (aI (ay ar 1 (al (Y 1))))) (da (ň (fT (cC (fB (ae c7 1 (al (Y 2)))))) (Sb (dP 3 (Ú "this is no list of up to 9 asks"))) DF) (da (eE (aI (ay aB 1 (al (Y 3))))) (lD (qm [("table",0),("asks",2),("now",3)] (Lv L (c8 1)) (PR (aJ (aI (ae ce 1 (al (Y 0)))) (aJ (uOk (jm mh 4 (aJ (c8 1) (aJ (c8 0) (aJ (c8 2) (aJ (c8 3) fu)))))) fu)))))))))
def rJ:ć:=kJ 4 m5
def TW4:lE:=("along",8,4,rJ)::TW3
theorem Cj(A:Af K "along" (Ù 135) f)(t:T54%4)(b:MS%5)(a:Ğ P w K mg base TW3):Ğ P w K mg base TW4:=fw (hX XI Gn ["table","jar","asks","now"] ["table","jar","asks","now"] m5 A aD (by delta m5;fin2)) a
def iF:á:=(aM (cO 2 (ae bI 2 (bP (Y 0) (R Ø (Y 1) (X 2))))) (aM (bg (fB (R Ė (Y 2) (fC .non))) (aL (R Ø (Y 1) (X 2))) ó) (aL (Y 2))))
def cA:Þ:=bL 3 iF
def T55:bW:=("group_of",5,["table","note"],cA)::T54
theorem vY(A:Af K "group_of" (Ù 127) f)(t:T54%4):T55%4:=aw (aO XI Gn ["table","note","own"] ["table","note"] iF A aD (by delta iF;fin2)) t
def ot:cm:=(da (eE (aI (ay aK 1 (al (Y 0))))) (da (eE (aI (ay ar 1 (al (Y 1))))) (da (jV 2 (į h_ (bB 1 [("table",0)] (eQ (Y 1)) (gN 0) U (ae cA 2 (bP (Y 1) (Y 0)))))) (lD (į h_ (bB 1 [("names",2)] (eQ (ì qX (al (Y 2)))) (gN 0) U (ii (bP (Y 0) (fML RY (Y 1) (al (Y 0)))))))))))
def ou:ć:=kJ 3 ot
def TW5:lE:=("groups",7,2,ou)::TW4
theorem yX(A:Af K "groups" (Ù 128) f)(t:T55%4)(b:MS%5)(a:Ğ P w K mg base TW4):Ğ P w K mg base TW5:=fw (hX XI Gn ["table","jar","names"] ["table","jar"] ot A aD (by delta ot;fin2)) a
def fP:cm:=(lD (į h_ (ì kZ (al (cu [("table",0),("group",2)] (eQ (Y 1)) (Z (fB (R è (ae cA 2 (bP (Y 1) (Y 0))) (Y 2)))) (ae ce 1 (al (Y 0))))))))
def fQ:ć:=kJ 3 fP
def TW6:lE:=("keys_of_group",6,3,fQ)::TW5
theorem mi(A:Af K "keys_of_group" (Ù 132) f)(t:T55%4)(a:Ğ P w K mg base TW5):Ğ P w K mg base TW6:=fw (hX XI Gn ["table","jar","group"] ["table","jar","group"] fP A aD (by delta fP;fin2)) a
def kB:cm:=(lD (qm [("table",0),("jar",1)] (Lv h_ (jm ou 2 (aJ (c8 0) (aJ (c8 1) fu)))) (PR (aJ (aI (R Ø (Y 0) (X 0))) (aJ (uOk (jm fQ 3 (aJ (c8 1) (aJ (c8 2) (aJ (aI (R Ø (Y 0) (X 0))) fu))))) fu)))))
def kG:ć:=kJ 2 kB
def TW7:lE:=("by_group",8,2,kG)::TW6
theorem uF(A:Af K "by_group" (Ù 131) f)(a:Ğ P w K mg base TW6):Ğ P w K mg base TW7:=fw (hX XI Gn ["table","jar"] ["table","jar"] kB A aD (by delta kB;fin2)) a
def mj:cm:=(da (eE (aI (ay ar 1 (al (Y 0))))) (da (eE (aI (ay ar 1 (al (Y 1))))) (da (jV 2 (į L (bB 1 [] (eQ (Y 0)) (gN 0) U (ae ce 1 (al (Y 0)))))) (da (jV 3 (į L (bB 1 [] (eQ (Y 1)) (gN 0) U (ae ce 1 (al (Y 0)))))) (da (jV 4 (į L (ì kZ (al (cu [("others",3)] (eQ (Y 2)) (Z (fB (R ip (Y 0) (Y 1)))) (Y 0)))))) (da (jV 5 (į L (ì kZ (al (cu [("ones",2)] (eQ (Y 3)) (Z (fB (R ip (Y 0) (Y 1)))) (Y 0)))))) (da (jV 6 (į L (ì kZ (al (cu [("other",1),("others",3)] (eQ (Y 0)) (Z (mC (fB (R W' (ae ce 1 (al (Y 0))) (Y 2))) (fB (R ip (Y 0) (Y 1))))) (ae ce 1 (al (Y 0)))))))) (lD (Lo L (aJ (c8 4) (aJ (c8 5) (aJ (c8 6) fu))))))))))))
def mo:ć:=kJ 7 mj
def TW8:lE:=("changed",7,2,mo)::TW7
theorem vZ(A:Af K "changed" (Ù 119) f)(t:T55%4)(b:MS%5)(a:Ğ P w K mg base TW7):Ğ P w K mg base TW8:=fw (hX XI Gn ["one","other","ones","others","gone","new","unlike"] ["one","other"] mj A aD (by delta mj;fin2)) a
def ow:cm:=(da (eE (aI (ay ar 1 (al (Y 0))))) (da (eE (aI (ay aB 1 (al (Y 1))))) (da (eE (aI (ay aB 1 (al (Y 2))))) (lD (į L (bB 1 [("now",1),("far",2)] (eQ (Y 0)) (gN 0) (Z (mC (fB (ae ba 2 (bP (Y 0) (R eD (Y 1) (Y 2))))) (cC (fB (ae ba 2 (bP (Y 0) (Y 1))))))) (Y 0)))))))
def oy:ć:=kJ 3 ow
def TW9:lE:=("ending",7,3,oy)::TW8
theorem yY(A:Af K "ending" (Ù 133) f)(t:T55%4)(b:MS%5)(a:Ğ P w K mg base TW8):Ğ P w K mg base TW9:=fw (hX XI Gn ["jar","now","far"] ["jar","now","far"] ow A aD (by delta ow;fin2)) a
def fY:cm:=(da (eE (K5 (c8 6) (aJ (vG (aJ (c8 7) fu)) fu))) (eE (K5 (c8 7) (aJ (aI (Ú "zz")) fu))))
def gX:cm:=(da (jV 4 (yJ (al (Y 2)))) (da (jV 5 (PU (Lo h_ (aJ (jm kG 2 (aJ (aI (Y 0)) (aJ (aI (Y 1)) fu))) (aJ (jm oy 3 (aJ (aI (Y 1)) (aJ (aI (X 0)) (aJ (aI (X 50)) fu)))) (aJ (jm rJ 4 (aJ (aI (Y 0)) (aJ (aI (Y 1)) (aJ (c8 4) (aJ (aI (X 3)) fu))))) fu)))) (vG (aJ (jm mo 2 (aJ (aI (Y 1)) (aJ (aI (kY 1 bt 0 (Y 3) dg)) fu))) fu)))) (da (jV 6 (B6 (aJ (aI (R è (Y 4) (Y 2))) fu))) (da (yM 7 [7] (Lv h_ (c8 5)) fY) (lD (PU (c8 6) (B6 (aJ (aI (kY 1 bt 0 (Y 3) dg)) (aJ (aI (kY 1 ee 0 (Y 3) dg)) fu)))))))))
def gY:ć:=kJ 8 gX
def V7:lE:=("_law_told",9,4,gY)::TW9
theorem rK(A:Af K "_law_told" (Ù 148) f)(b:Ũ P w K mg base 1 C TO2)(a:Ğ P w K mg base TW9):Ğ P w K mg base V7:=fw (hX XI Gn ["_law_table_here","_law_jar_here","_law_asks","_law_desk","_law_held","_law_rows","_law_found","_law_told_here"] ["_law_table_here","_law_jar_here","_law_asks","_law_desk"] gX A aD (by delta gX fY;fin2)) a
def rL:cm:=(ň (Se (uB (jm gW 4 (aJ (aI (Y 0)) (aJ (aI (R eD (X 30) (R lI (X 90) (Y 6)))) (aJ (c8 4) (aJ (aI (R eD (X 20) (R lI (X 20) (Y 6)))) fu))))))) (lD (aI (fC (.bl h_)))) DF)
def Ck:ñ:=(cC (fB (R Ø (Y 7) (X 0))))
def v4:cm:=(eE (fU 1 cp 1 (c8 5) (aJ (aI (Y 2)) fu)))
def v7:cm:=(ň (uOr (uB (yI ł (aI (fC (.bl h_))) (qm [("_law_desk",4)] (HZ (iU1 (al (X 4)))) (uOk (jm bw 2 (aJ (c8 0) (aJ (c8 1) fu))))))) (fT Ck)) (lD (aI (fC (.bl h_)))) DF)
def v8:cm:=(jV 7 (jm gY 4 (aJ (aI (Y 1)) (aJ (aI (Y 2)) (aJ (c8 3) (aJ (c8 4) fu))))))
def wa:cm:=(yM 6 [6] (HZ (iU1 (al (R eD (X 1) (ae ag 3 (cL (Y 0) (X 15) (X 4))))))) rL)
def wb:cm:=(jV 5 (yK 1 bN 1 (aJ (aI (Y 1)) fu)))
def wc:cm:=(jV 4 (yK 1 bN 1 (aJ (aI (Y 1)) fu)))
def we:cm:=(jV 3 (į L (bB 1 [("_law_script",0)] (λa=>à ((al (X 2)) a) wP) (gN 0) U (ae cY 2 (bP (Y 1) (R eD (X 600) (R lI (X 10) (Y 0))))))))
def wf:cm:=(jV 2 (aI (ae eY 3 (cL (Y 0) (X 500) (X 5)))))
def wg:cm:=(jV 1 (aI (ae fL 2 (bP (Y 0) (X 0)))))
def yZ:cm:=(da wg (da wf (da we (da wc (da wb (da wa (da v8 (da v7 (da v4 (lD (PZ (lS è (jm gY 4 (aJ (aI (Y 1)) (aJ (aI (Y 2)) (aJ (c8 3) (aJ (c8 4) fu))))) (Y 7)) (PZ (aI (R è (ì gL (al (kY 1 bt 0 (Y 5) dg))) (ì gL (al (Y 2))))) (aI (R è (kY 1 ee 0 (Y 5) dg) (ii (bP (X 1) (X 0)))))))))))))))))
def Cn:Þ:=PK 8 yZ
theorem Qv{a:Yo}(A:Ń K "law" "law" (Ù 150) f a)(t:T55%4)(e:Ũ P w K mg base 1 C TO2)(d:Ī P w K mg base 1 C TV8)(b:Ğ P w K mg base V7)(g:PJ P w K mg base 1 C 7 1 bN):ö P w K mg base Ĳ 14 f a ["_law_script"] (ş K Cn 1):=PM ["_law_script","_law_table_here","_law_jar_here","_law_asks","_law_desk","_law_other","_law_k","_law_first"] ["_law_script"] yZ (by lk) (by lk) A (Ky (by lk)) (by delta yZ rL Ck v4 v7 v8 wa wb wc we wf wg;fin2)
end
def af{K:d_}{x:Str}{b:Yd}(f:O)(m:String:="law_notejar_k76_again_and_shared")(t:Nat:=1134)(c:Nat:=Nat.pred f)(a:nsM K x=Z (Z (.ref f)):=by lk)(l:K.lookup f=Z ⟨t_ "function",U,.func (Zb x x (iO b) (bS b) (au b) .none .none .none (kS m t) U (kR c) .none),#[]⟩:=by lk)(d:abb K (kR c) x=L:=by lk)(k:Yv K (.ref f)=L:=by lk):Af K x b f:=⟨a,⟨_,Hl l d k⟩,k⟩
def amf{K:d_}{x q:Str}{a:Yd}(f:O)(m:String)(t c:Nat)(l:K.lookup f=Z ⟨t_ "function",U,.func (Zb x q (iO a) (bS a) (au a) .none .none .none (kS m t) U (kR c) .none),#[]⟩:=by lk)(d:abb K (kR c) q=L:=by lk)(k:Yv K (.ref f)=L:=by lk):∃b,Ń K x q a f b:=⟨_,Hl l d k⟩
def am{K:d_}{C:O}{x q:Str}{b:Yd}{f:O}(e:∃d,Ń K x q b f d)(a:YC K (.ref C) x=Z (Z (.ref f)):=by lk)(i:ac2 K (.ref f)=L:=by lk)(k:Yv K (.ref f)=L:=by lk):Am K C q x b f:=⟨⟨a,i,k⟩,e⟩
def all_mk{l:adi}{w:v_}{K:d_}{h:O_}{j:Str->B%1}{fa:O}(X:K.In h)(G:h.Ns E_ j)(d9:j "law"=Z (.ref fa)){f1 R f3 f4 f5 f6 f7 f8 f9 q3 q2 q1 q0 p7 p6 p5 p4 p3 p2 p1 p0 o5 o4 o3 o2 o1 o0 n9 n8 n7 n6 n5 n4 n3 n2 n1 n0 m9 m8 m6 m4 m3 m2 m1 m0 l9 l6 l5 l3 l2 l1 l0 k6 k5 k4 k3 k2 k1 k0 j2 j1 j0 i9 i8 i3 i1 h9 h8 h7 h6 h5 h4 h3 h2 h1 h0 g0 f0 e9 e8 e7 e6 e5 e4 e3 e2 fl:O}(A1:Af K "is_text_of" (Ù 12) f1)(A2:Af K "is_label" (Ù 21) R)(A3:Af K "is_name" (Ù 22) f3)(A4:Af K "is_rule" (Ù 23) f4)(A5:Af K "is_table" (Ù 24) f5)(A6:Af K "need_table" (Ù 26) f6)(A7:Af K "key" (Ù 97) f7)(A8:Af K "when_last" (Ù 123) f8)(A9:Af K "later_of" (Ù 122) f9)(H0:Af K "has_no_key_twice" (Ù 105) q3)(F2:Af K "is_by_made" (Ù 104) q2)(E4:Af K "is_whole_number" (Ù 13) q1)(E3:Af K "is_moment" (Ù 47) q0)(E2:Af K "is_moment_or_none" (Ù 48) p7)(E1:Af K "is_note_name" (Ù 68) p6)(D9:Af K "is_path" (Ù 36) p5)(D5:Af K "is_reach" (Ù 70) p4)(D4:Af K "is_tuple_of" (Ù 14) p3)(D3:Af K "is_worth" (Ù 69) p2)(D2:Af K "is_note" (Ù 92) p1)(D1:Af K "is_jar" (Ù 103) p0)(D0:Af K "need_jar" (Ù 106) o5)(B3:Af K "need_no_more_than_a_jar_has" (Ù 107) o4)(B2:Af K "place_of" (Ù 121) o3)(z5:Af K "merged" (Ù 120) o2)(z3:Af K "_law_cell" (Ù 138) o1)(z2:Af K "_law_drawn" (Ù 139) o0)(z1:Af K "_law_name" (Ù 140) n9)(y9:Af K "_law_path" (Ù 142) n8)(y8:Af K "_law_ask" (Ù 143) n7)(y7:Af K "_law_jar" (Ù 144) n6)(y6:Af K "lies_within" (Ù 27) n5)(y5:Af K "need_name" (Ù 25) n4)(y4:Af K "forgotten" (Ù 110) n3)(y3:Af K "need_moment" (Ù 49) n2)(y2:Af K "has_ended" (Ù 98) n1)(y1:Af K "without_ended" (Ù 109) n0)(y0:Af K "swept" (Ù 108) m9)(x9:Af K "_law_refuses" (Ù 149) m8)(x8:Af K "is_ask" (Ù 50) m6)(x7:Af K "need_ask" (Ù 51) m4)(x6:Af K "is_written_moment" (Ù 73) m3)(x5:Af K "what_is_told" (Ù 74) m2)(x4:Af K "read_given" (Ù 75) m1)(x3:Af K "read_what_is_given" (Ù 112) m0)(x2:Af K "end_for" (Ù 95) l9)(x1:Af K "house_for" (Ù 93) l6)(x0:Af K "behind_first_dot" (Ù 29) l5)(w7:Af K "ends_longest_first" (Ù 28) l3)(w3:Af K "is_told_open" (Ù 30) l2)(w2:Af K "find_open_end" (Ù 31) l1)(w1:Af K "is_open" (Ù 88) l0)(w0:Af K "is_exact" (Ù 89) k6)(v9:Af K "is_given" (Ù 71) k5)(v6:Af K "need_given" (Ù 72) k4)(v5:Af K "need_path" (Ù 37) k3)(v3:Af K "folder" (Ù 38) k2)(v1:Af K "path_for" (Ù 94) k1)(v0:Af K "find_own_end" (Ù 32) k0)(u7:Af K "comes_from_near" (Ù 52) j2)(u6:Af K "keeps_its_mark" (Ù 90) j1)(u4:Af K "why_refused" (Ù 91) j0)(u3:Af K "made" (Ù 96) i9)(u2:Af K "put" (Ù 111) i8)(u1:Af K "lies_under" (Ù 39) i3)(s9:Af K "shadows" (Ù 115) i1)(s8:Af K "word_of" (Ù 114) h9)(s7:Af K "take_in" (Ù 117) h8)(s6:Af K "taken" (Ù 116) h7)(s5:Af K "verdict" (Ù 113) h6)(s4:Af K "_law_given" (Ù 145) h5)(s3:Af K "_law_text" (Ù 146) h4)(s2:Af K "_law_step" (Ù 147) h3)(s1:Af K "_law_table" (Ù 141) h2)(s0:Af K "is_for" (Ù 99) h1)(r8:Af K "goes" (Ù 100) h0)(r7:Af K "asks_of" (Ù 136) g0)(r6:Af K "is_list_of_asks" (Ù 134) f0)(r5:Af K "along" (Ù 135) e9)(r4:Af K "group_of" (Ù 127) e8)(r3:Af K "groups" (Ù 128) e7)(r2:Af K "keys_of_group" (Ù 132) e6)(r1:Af K "by_group" (Ù 131) e5)(r0:Af K "changed" (Ù 119) e4)(q7:Af K "ending" (Ù 133) e3)(q6:Af K "_law_told" (Ù 148) e2){C g1 g2 g3 g4 g5 g6 g7 g8 g9 e1 e0:O}(b:CK K 1 C)(G1:∃q,Ń K "__init__" "Desk.__init__" (bM (Ù 125) 0) g1 q)(mk:Mk K C g1)(G2:Am K C "Desk.do_step" "do_step" (bM (Ù 125) 2) g2)(G3:Am K C "Desk.merge" "merge" (bM (Ù 125) 7) g3)(G4:Am K C "Desk.notes" "notes" (bM (Ù 125) 1) g4)(G5:Am K C "Desk.steps" "steps" (bM (Ù 125) 11) g5)(G6:Am K C "Desk.do_and_count" "do_and_count" (bM (Ù 125) 6) g6)(G7:Am K C "Desk.forget" "forget" (bM (Ù 125) 5) g7)(G8:Am K C "Desk.move" "move" (bM (Ù 125) 10) g8)(G9:Am K C "Desk.forth" "forth" (bM (Ù 125) 9) g9)(q5:Am K C "Desk.sweep" "sweep" (bM (Ù 125) 4) e1)(q4:Am K C "Desk.give" "give" (bM (Ù 125) 3) e0)(AL:Af K "law" (Ù 150) fl)(ma:CC.all (Ua K)=L){C0 C1 C2 C3 C4 C5 C6 C8 CJ:O}(cb:caB K [0,1,2,3,4,5,6,8] [C0,C1,C2,C3,C4,C5,C6,0,C8] CJ 9=L):∃q:Yo,(∀(s:ge)(v:B),aex s q ⟨[v],[]⟩ [("_law_script",v)])/\∀f:O_,K.In f->f.Ns E_ j->ö l.prog w K j f Ĳ 14 fa q ["_law_script"] (ş K Cn 1):=by
 have e:=d9.symm.trans (aak X G AL.a);cases e;have M:=O8 X G CC ma;obtain⟨q,Fn⟩:=AL.F;refine⟨q,?_,λf _ _=>?_⟩;·obtain⟨oc,od,kV,H3,pm,an,H4,ct,H1,rfl,lk,H2⟩:=Fn.ex;exactλs v=>.of_eq rfl
 obtain⟨a,d⟩:=Ug X G cb;have N':Ũ l.prog w K j f 1 C TO0:=KW;have I':Ī l.prog w K j f 1 C TV0:=Le;have z':Ğ l.prog w K j f TW0:=Ld;have t0:HA l.prog w K j f T0:=O7;have U':Ā l.prog w K j f TE0:=Kq;have t1:=rf b X G M a d A1 t0;have t2:=vJ b X G M a d A2 t1;have t3:=yN b X G M a d A3 t2;have t4:=yO b X G M a d A4 t3;have t5:=vK b X G M a d A5 t4;have D:=rg b X G M a d A6 t5 U';have tj:=lW b X G M a d G1 mk D;have H':=mJ b X G M a d G2 I';have t6:=Qt b X G M a d A7 t5;have t7:=uq b X G M a d A8 t6;have t8:=vL b X G M a d A9 t7;have t9:=kq b X G M a d H0 t8;have d8:=rh b X G M a d F2 t9;have d7:=k7 b X G M a d E4 d8;have d6:=ur b X G M a d E3 d7;have d4:=j7 b X G M a d E2 d6;have d3:=oa b X G M a d E1 d4;have d2:=yP b X G M a d D9 d3;have d1:=vM b X G M a d D5 d2;have d0:=oX b X G M a d D4 d1;have c4:=vN b X G M a d D3 d0;have c3:=yQ b X G M a d D2 c4;have c':=Cd b X G M a d D1 c3;have T':=vO b X G M a d D0 c' D;have S':=fF b X G M a d B3 T';have b':=vP b X G M a d B2 c';have A:=Ce b X G M a d z5 b' S';have E':=oY b X G M a d G3 A H';have J':=rj b X G M a d G4 N';have m:=rm b X G M a d G5 J';have c2:=uu b X G M a d z3 b';have c1:=rn b X G M a d z2 c2;have c0:=uv b X G M a d z1 c1;have b9:=uw b X G M a d y9 c0;have b8:=vQ b X G M a d y8 b9;have b7:=vR b X G M a d y7 b8;have D':=jC b X G M a d G6 E';have k:=oZ b X G M a d y6 b7;have R':=ux b X G M a d y5 k A;have z:=uy b X G M a d y4 k R';have C':=oh b X G M a d G7 z D';have B':=rp b X G M a d G8 C';have A':=o6 b X G M a d G9 B';have Q':=o7 b X G M a d y3 k z;have b6:=uz b X G M a d y2 k;have a':=mK b X G M a d y1 b6;have y:=Gm b X G M a d y0 a' Q';have u:=o8 b X G M a d q5 y A';have y':=mL b X G M a d x9 u z';have Q:=Cf b X G M a d x8 a';have O':=vS b X G M a d x7 Q y;have b5:=j8 b X G M a d x6 Q;have P:=oj b X G M a d x5 b5;have p':=rq b X G M a d x4 P O';have o':=jG b X G M a d x3 p';have b4:=yR b X G M a d x2 P;have b3:=uA b X G M a d x1 b4;have b2:=kA b X G M a d x0 b3;have b1:=jJ b X G M a d w7 b2;have b0:=om b X G M a d w3 b1;have a9:=mM b X G M a d w2 b0;have a8:=yS b X G M a d w1 a9;have a7:=vT b X G M a d w0 a8;have p:=vU b X G M a d v9 a7;have n':=rA b X G M a d v6 p o';have m':=uC b X G M a d v5 p n';have l':=Cg b X G M a d v3 m';have k':=vV b X G M a d v1 l';have a6:=oq b X G M a d v0 p;have a5:=lh b X G M a d u7 a6;have o:=l8 b X G M a d u6 a5;have i':=o9 b X G M a d u4 o k';have h':=LG b X G M a d u3 o i';have a4:=Qu b X G M a d u2 o;have a3:=rD b X G M a d u1 a4;have n:=yT b X G M a d s9 a3;have g':=yU b X G M a d s8 n h';have f':=yV b X G M a d s7 n g';have e':=Gp b X G M a d s6 f';have g:=yW b X G M a d s5 e';have r:=rE b X G M a d q4 g u;have a2:=rF b X G M a d s4 n;have I:=uD b X G M a d s3 a2;have x':=rG b X G M a d s2 I m r y';have a1:=rH b X G M a d s1 I;have a0:=Ci b X G M a d s0 a1;have H:=LH b X G M a d r8 a0;have w':=vX b X G M a d r7 H x';have E:=lm b X G M a d r6 H;have v':=Cj b X G M a d r5 E g w';have i:=vY b X G M a d r4 E;have u':=yX b X G M a d r3 i g v';have t':=mi b X G M a d r2 i u';have s':=uF b X G M a d r1 t';have r':=vZ b X G M a d r0 i g s';have q':=yY b X G M a d q7 i g r';have d':=rK b X G M a d q6 m q';exact Qv b X G M a d Fn i m r d' tj
end G
set_option maxHeartbeats 4000000
namespace FD
open PySem.StrLaws PySem.Builtin PySem.Builtin.Str
def J(S:Nat%0):Nat%0->(Nat%0)%0->Nat%0|p,[]=>p|p,q::r=>p++(S++J S q r)
def ŵ:At d r d.length b↔b+r.length<=d.length/\(d.cps.toList.drop b).take r.length=r.cps.toList:=by unfold At;rw[subAt_eq];simp
def Co{a:Nat%0}(f:r.cps.toList=b::a){k:Nat}(h:At d r d.length k):d.cps.toList[k]?=Z b:=by
 obtain⟨_,g⟩:=ŵ.mp h;rw[f]at g;have e:=congrArg (λl=>l[0]?) g;simp![List.getElem?_cons_zero]at e;have i:0<r.length:=by show 0<r.cps.size;rw[<-Yj,f];simp
 rw[acF i]at e;simpa using e
def LJ{e:Nat%0}(m:r.cps.toList=b::e){p g:Nat%0}{a k:Nat}(j:d.cps.toList.drop a=p++g)(i:b∉p)(o:a<=k)(n:k<a+p.length):¬At d r d.length k:=by
 intro h;have f:(d.cps.toList.drop a)[k-a]?=Z b:=by rw[aeh,show a+(k-a)=k by lia];exact(Co m h)
 rw[j,w_ ()]at f;exact i (N_ f)
def xI{x b:Str}{c:Nat}{u:Nat%0}(y:b.cps.toList=c::u):∀(e:(Nat%0)%0)(p:Nat%0)(a:Nat)(d:Nat%0)(f:Nat),(∀q∈p::e,c∉q)->x.cps.toList.drop a=J b.cps.toList p e->a<=x.length->ChainG x b x.length a d f->(∀k,f<=k->¬At x b x.length k)->(partsFrom x b.length a d).map (λs=>s.cps.toList)=p::e
 |[],p,a,d,f,w,m,Q,n,D=>by
  have v:x.cps.toList.length=x.length:=rfl;have E:∀k,a<=k->¬At x b x.length k:=λk hk h=>by
   have I:(x.cps.toList.drop a)[k-a]?=Z c:=by rw[aeh,show a+(k-a)=k by lia];exact(Co y h)
   rw[m]at I;exact w p on (N_ I)
  cases d with|nil=>
   show[(strSub x a x.length).cps.toList]=[p];rw[strSub_toList,m];show[p.take _]=[p];have:p.length=x.length-a:=by have:=congrArg abG m;rw[abv]at this;exact this.symm
   rw[abj ()]      |cons k A=>exact absurd n.2.1 (E k n.1)
 |q::r,p,a,d,f,w,m,Q,n,D=>by
  have v:x.cps.toList.length=x.length:=rfl;have g:b.cps.toList.length=b.length:=rfl;have j:x.cps.toList.drop a=p++(b.cps.toList++J b.cps.toList q r):=m;have i:x.cps.toList.drop (a+p.length)=b.cps.toList++J b.cps.toList q r:=by rw[<-List.drop_drop,j,List.drop_left]
  have H:=congrArg abG i;rw[abv,X2,g]at H;have a':0<b.length:=by rw[<-g,y];simp
  have o:At x b x.length (a+p.length):=ŵ.mpr ⟨by lia,by rw[i,<-g,List.take_left]⟩;cases d with|nil=>exact absurd o (D _ (by have:f=a:=n;lia))|cons k A=>
   obtain⟨g1,g2,g3,g4⟩:=n;have ek:k=a+p.length:=by
    rcases acs k _ with h|h|h;·exact absurd g2 ((λk h1 h2=>LJ y j (w p on) h1 h2) k g1 h)
    ·exact h
    ·exact absurd o (g3 _ () h)
   subst ek;show(strSub x a _).cps.toList::(partsFrom x b.length _ A).map _=p::q::r;rw[xI y r q _ A f (λz P=>w z (pi _ P)) (by rw[<-List.drop_drop,i,<-g,List.drop_left]) () g4 D,strSub_toList,j,show a+p.length-a=p.length by lia,List.take_left]
def Cp(h:d.cps.toList=r.cps.toList):d=r:=by obtain⟨⟨d⟩⟩:=d;obtain⟨⟨r⟩⟩:=r;simp at h;rw[h]
def kH:∀{l m:Str%0},l.map (λs=>s.cps.toList)=m.map (λs=>s.cps.toList)->l=m|[],[],_=>rfl|a::l,b::m,h=>by simp![F_,adn]at h;rw[Cp h.1,kH h.2]|[],_::_,h=>by simp at h|_::_,[],h=>by simp at h
def wj{j:Nat%0}(v:r.cps.toList=b::j)(H:Zq r=1){p:Str}{e:Str%0}(o:∀q∈p::e,b∉q.cps.toList)(k:d.cps.toList=J r.cps.toList p.cps.toList (e.map λs=>s.cps.toList)):ZH d r=p::e:=by
 have i:r.cps.toList.length=r.length:=rfl;have w:d.cps.toList.length=d.length:=rfl;obtain⟨f,D,z⟩:=occ_tight d r (by rw[<-i,v];simp);have g:=xI v _ p.cps.toList 0 _ f (by
  intro q m;rcases p_.mp m with rfl|m;·exact o p on
  ·obtain⟨s,y,rfl⟩:=L_.mp m;exact o s (pi _ y)) (by exact k) (XG _) D z;have E:1<=Zq d:=by unfold Zq;split;lia;split<;>lia
 unfold ZH;split
 · rename_i u;rw[ae6,decide_eq_true_eq,decide_eq_true_eq]at u;rcases u with h|h;·cases e with|nil=>rw[Cp k]|cons q a=>have:=congrArg abG k;simp![F_,J,X2,i]at this;lia
   ·lia
 · split;·rename_i A;rw[(List.isEmpty_iff.mp A)]at g;have n:[(strSub d 0 d.length).cps.toList]=p.cps.toList::(e.map _):=g;rw[sub_whole]at n;exact kH n
   ·rw[partsBetween_eq];exact kH (by rw[g];rfl)
open L2
def xJ{d:Û}{e:Ev}{g:Type}(i:g->W)(f:g->W):∀{l:g%0},(∀a∈l,d (e.set 0 (Z (i a)))=f a%3)->Ad U d e (l.map i)=Z (l.map f)|[],_=>rfl|a::l,h=>by rw[F_,F_];unfold Ad;dsimp!;rw[h a on,(xJ i f λb j=>h b (pi _ j))]
def uG{e:ñ}{g:Û}{d:Ev}{i:Type}(j:i->W)(p:i->Bool)(f:i->W):∀{l:i%0},(∀a∈l,e (d.set 0 (Z (j a)))=p a%3/\g (d.set 0 (Z (j a)))=f a%3)->Ad (Z e) g d (l.map j)=Z ((l.filter p).map f)|[],_=>rfl|a::l,h=>by obtain⟨n,m⟩:=h a on;rw[F_];unfold Ad;dsimp!;rw[n,(uG j p f λb k=>h b (pi _ k))];cases q:p a with|true=>rw[m,Z8 q];rfl|false=>rw[Zk (by rw[q];decide)]
def xK{d:Û}{e:Ev}{g:Type}(i:g->W)(f:g->W):∀{l:g%0},(∀a∈l,d (e.set 0 (Z (i a)))=f a%3)->oQ (gN 0) U d e (l.map i)=Z (l.map f)|[],_=>rfl|a::l,h=>by rw[F_,F_];show(match d _ with|some (.ok y)=>_|_=>_)=_;rw[h a on,(xK i f λb j=>h b (pi _ j))]
def uH{d:ñ}{g:Û}{e:Ev}{i:Type}(j:i->W)(p:i->Bool)(f:i->W):∀{l:i%0},(∀a∈l,d (e.set 0 (Z (j a)))=p a%3/\g (e.set 0 (Z (j a)))=f a%3)->oQ (gN 0) (Z d) g e (l.map j)=Z ((l.filter p).map f)|[],_=>rfl|a::l,h=>by obtain⟨n,m⟩:=h a on;show(match d _ with|some (.ok L)=>_|some (.ok h_)=>_|_=>_)=_;rw[n,(uH j p f λb k=>h b (pi _ k))];cases q:p a with|true=>rw[m,Z8 q];rfl|false=>rw[Zk (by rw[q];decide)]
def j3(b f:Q->W){l:Q%0}(e:μ ε=l.map b%3)(d:l.length<=100000)(h:∀a∈l,z ((Hq À ε).set 0 (Z (b a)))=f a%3):cu À μ U z ε=.lst (l.map f)%3:=by unfold cu;rw[e];show(match Ad U z _ _ with|some g=>_|none=>_)=_;rw[xJ b f h];dsimp!;rw[if_pos ⟨by simpa using d,by simpa using d⟩]
def gF(b:Q->W)(p:Q->Bool)(f:Q->W){l:Q%0}(d:μ ε=l.map b%3)(e:l.length<=100000)(h:∀a∈l,Ξ ((Hq À ε).set 0 (Z (b a)))=p a%3/\z ((Hq À ε).set 0 (Z (b a)))=f a%3):cu À μ (Z Ξ) z ε=.lst ((l.filter p).map f)%3:=by unfold cu;rw[d];show(match Ad _ z _ _ with|some g=>_|none=>_)=_;rw[uG b p f h];dsimp!;have:=Yh p l;rw[if_pos ⟨by simp;lia,by simpa using e⟩]
def gG(b f:Q->W){l:Q%0}(e:μ ε=l.map b%3)(d:l.length<=100000)(h:∀a∈l,z ((lC 1 À ε).set 0 (Z (b a)))=f a%3):bB 1 À μ (gN 0) U z ε=.lst (l.map f)%3:=by unfold bB;rw[e];show(match oQ _ U z _ _ with|some g=>_|none=>_)=_;rw[xK b f h];dsimp!;rw[if_pos ⟨by simpa using d,by simpa using d⟩]
def mq(b:Q->W)(p:Q->Bool)(f:Q->W){l:Q%0}(d:μ ε=l.map b%3)(e:l.length<=100000)(h:∀a∈l,Ξ ((lC 1 À ε).set 0 (Z (b a)))=p a%3/\z ((lC 1 À ε).set 0 (Z (b a)))=f a%3):bB 1 À μ (gN 0) (Z Ξ) z ε=.lst ((l.filter p).map f)%3:=by unfold bB;rw[d];show(match oQ _ _ z _ _ with|some g=>_|none=>_)=_;rw[uH b p f h];dsimp!;have:=Yh p l;rw[if_pos ⟨by simp;lia,by simpa using e⟩]
def LK(h:-(2^62)<=y/\y<2^62/\-(2^62)<=Ã/\Ã<2^62):Eb [.int y,.int Ã]=rng y (Ã-y).toNat%3:=by rw[Eb,if_pos h]
def LL(h:-(2^62)<=y/\y<2^62):wP [.int y]=rng 0 y.toNat%3:=by rw[wP,if_pos h]
def LM(h:b<=1000):-(2^62)<=(1:Int)/\(1:Int)<2^62/\-(2^62)<=(b:Int)/\(b:Int)<2^62:=by lia
def Qw(h:b<=1000):Eb [.int 1,.int (b:Int)]=rng 1 ((b:Int)-1).toNat%3:=LK (LM h)
def Cq(h:b<=1000):wP [.int (b:Int)]=rng 0 b%3:=by rw[LL ()];rfl
def oz{b:Type}(p:b->Bool):∀l:b%0,kN (l.map λa=>W.bl (p a))=Z (l.map p)|[]=>rfl|a::l=>by show(match kN _ with|some bs=>Z _|none=>U)=_;rw[oz p l];rfl
mutual
def Ŭ:W->Bool|.exn _=>h_|.obj _ _=>h_|.tup a=>Ķ a|.lst a=>Ķ a|_=>L
def Ķ:W%0->Bool|[]=>L|d::a=>Ŭ d&&Ķ a
end
mutual
theorem rM:∀d:W,Ŭ d=L->Yk (dj d) (dj d)=L
 |.non,_=>by simp[dj,Yk]|.bl b,_=>by simp[dj,Yk]|.int b,_=>by simp[dj,Yk]|.str b,_=>by simp[dj,Yk]|.tup a,h=>by simp![dj,Yk];exact Ġ a (by simpa[Ŭ]using h)|.lst a,h=>by simp![dj,Yk];exact Ġ a (by simpa[Ŭ]using h)|.scr e,_=>by simp![dj,Yk];induction e with|nil=>simp[Zu]|cons n e g=>simp[Zu,Yk];exact g rfl
 |.exn _,h=>by simp[Ŭ]at h|.obj _ _,h=>by simp[Ŭ]at h
theorem Ġ:∀a:W%0,Ķ a=L->Zu (ï a) (ï a)=L
 |[],_=>by simp[ï,Zu]|d::a,h=>by
  have f:Ŭ d=L/\Ķ a=L:=by simpa[Ķ]using h
  simp![ï,Zu,n_];exact⟨rM d f.1,Ġ a f.2⟩end
def oA(a b:Str):Ÿ (.str a) (.str b)=Z (seq a b):=rfl
def Qx(a:Str):Ÿ (.str a) .non=Z h_:=rfl
def Ia(a b:Int):Ÿ (.int a) (.int b)=Z (a==b):=rfl
def xL:∀d:W,Ÿ d d=Z L\/Ÿ d d=U|.non=>.inl rfl|.bl b=>.inl (by cases b<;>rfl)|.int i=>.inl (congrArg Z ∅)|.str x=>.inl (congrArg Z (by unfold seq;simp))|.tup _=>.inr rfl|.lst _=>.inr rfl|.scr _=>.inr rfl|.exn _=>.inr rfl|.obj _ _=>.inr rfl
def Cr(b:okP m=L)(a:Ŭ m=L):Ŕ m m=.bl h_%3:=by
 unfold Ŕ;rcases xL m with e|e<;>rw[e];·rfl
 ·rw[b,rM m a];rfl
def rN(b:okP m=L)(a:Ŭ m=L):è m m=.bl L%3:=by unfold è;rcases xL m with e|e<;>rw[e];rw[b,rM m a];rfl
structure Ē(k:Nat)(d:W):Prop where
 c:XE (dj d)=L
 dp:(dj d).depth<=k
 p:Ŭ d=L
def Gq{k:Nat}:∀{a:W%0},(∀d∈a,Ē k d)->YW (ï a)=L/\ZI (ï a)<=k/\Ķ a=L|[],_=>by simp[ï,YW,ZI,Ķ]|d::a,h=>by obtain⟨g,j,f⟩:=Gq λi e=>h i (pi _ e);have b:=h d on;simp![ï,YW,ZI,Ķ,n_];exact⟨⟨b.c,g⟩,by have:=b.dp;lia,b.p,f⟩
def oE(h:∀d∈u,Ē b d):Ē (b+1) (.tup u):=by obtain⟨f,e,a⟩:=Gq h;exact⟨by simpa[dj,XE]using f,by simp[dj,abc];exact e,by simpa[Ŭ]using a⟩
def mG(h:∀d∈u,Ē b d):Ē (b+1) (.lst u):=by obtain⟨f,e,a⟩:=Gq h;exact⟨by simpa[dj,XE]using f,by simp[dj,abc];exact e,by simpa[Ŭ]using a⟩
def Ē.okP(h:Ē b m)(a:b<=64):okP m=L:=by unfold FD.okP SeqAt.shaped;rw[h.c];have:=h.dp;lia
def Ē.le(h:Ē b m)(a:b<=o):Ē o m:=⟨h.c,Xx h.dp a,h.p⟩
def jP(h:XE (.str d)=L):Ē 0 (.str d):=⟨h,by simp[dj,abc],rfl⟩
def ğ:Ē 0 (.int y):=⟨rfl,by simp[dj,abc],rfl⟩
def Š:Ē 0 (.bl H):=⟨rfl,by simp[dj,abc],rfl⟩
def Ib:Ē 0 .non:=⟨rfl,by simp[dj,abc],rfl⟩
def uI{b:Type}(f:b->W):∀l:b%0,ï (l.map f)=l.map λa=>dj (f a)|[]=>rfl|a::l=>by simp[ï,uI f l]
def Qy{f:Q->W}{l:Q%0}{p:Q->Bool}(g:Ē 5 m)(v:ik m=h_)(j:∀a∈l,Ē 5 (f a))(i:∀a∈l,Yk (dj (f a)) (dj m)=p a):W' m (.lst (l.map f))=.bl (l.any p)%3/\ip m (.lst (l.map f))=.bl (!l.any p)%3/\W' m (.tup (l.map f))=.bl (l.any p)%3/\ip m (.tup (l.map f))=.bl (!l.any p)%3:=by
 have e:ž m (l.map f)=Z (l.any p):=by
  unfold ž;have o:=g.okP ();have n:=(Gq (by intro d w;obtain⟨a,z,rfl⟩:=L_.mp w;exact j a z)).1;have k:A_ ((dj m).depth<=63)=L:=by have:=g.dp;simp;lia
  rw[o,n,k];simp![Bool.and_self,if_true];rw[uI];congr 1;clear o n k j g;induction l with|nil=>rfl|cons a l u=>simp![F_,Ze];rw[i a on,u λb y=>i b (pi _ y)]
 have q:∀h,F' m h=U:=λh=>by unfold F';rw[v];rfl
 have s:Jh m (.lst (l.map f))=U:=by cases m<;>first|exact q _|rfl
 have r:Jh m (.tup (l.map f))=U:=by cases m<;>first|exact q _|rfl
 refine⟨?_,?_,?_,?_⟩<;>simp[W',ip,Ot,s,r,e]
end FD
namespace G
open L2 FD
def mO(h:Ψ (u.map Z++XF (b-u.length) U)=Z (.rt m)):gJ b Ψ u=m%3:=by unfold gJ;rw[h]
def UU(h:Ψ (u.map Z++XF (b-u.length) U)=o%9):gJ b Ψ u=o%9:=by unfold gJ;rw[h]
def cE(F:Þ){n:Nat}{g:ê}{b:Ev}{a:W%0}{r:Rs W%1}(h:g b=a%3)(d:a.length=n)(e:F a=r):ay F n g b=r:=by unfold ay;rw[h,<-e];exact if_pos d
def WY(h:z ε=b%9):eC z ε=b%9:=by unfold eC;rw[h];rfl
def UX{a:á}(h:Ψ ε=b%9):aM Ψ a ε=b%9:=by unfold aM;rw[h];rfl
def LN(a:Int%0)(m:a.length<=63)(k:Int):∃c,eW [.scr a,.int k]=.int c%3:=by cases a with|nil=>exact⟨7*k,rfl⟩|cons n r=>
 have p:0<(n::r).length:=by simp
 have b:(0)<((n::r).length:Int):=by lia
 have o:k%((n::r).length)<((n::r).length):=aa0 _ b;have j:(k%((n::r).length)).toNat<(n::r).length:=by lia
 refine⟨(n::r)[(k%((n::r).length)).toNat]+6553*(k/((n::r).length)),?_⟩;have f:Č (n::r) (k%((n::r).length))=Z (n::r)[(k%((n::r).length)).toNat]:=by unfold Č;rw[if_pos (abO _ ()),r_ j]
 have g:lJ (.int k) (.int ((n::r).length))=.int (k%((n::r).length))%3:=by show(if 0<((n::r).length:Int)then _ else _)=_;rw[if_pos b]
 have i:lK (.int k) (.int ((n::r).length))=.int (k/((n::r).length))%3:=by show(if 0<((n::r).length:Int)/\((n::r).length:Int)<1073741824 then _ else _)=_;rw[if_pos ⟨b,()⟩]
 have h:Ø (.scr (n::r)) (.int (k%((n::r).length)))=.int (n::r)[(k%((n::r).length)).toNat]%3:=by show(match Č (n::r) _ with|some d=>_|none=>_)=_;rw[f]
 show(match gz [Z _,Z _]with|some (.nx _)=>_|some (.rt d)=>_|_=>_)=_;have e:gz [Z (.scr (n::r)),Z (.int k)]=c9 (à (à (lJ (.int k) (.int ((n::r).length))) (Ø (.scr (n::r)))) λx=>à (à (lK (.int k) (.int ((n::r).length))) (lI (.int 6553))) (eD x)) λd=>Z (.rt d):=rfl;rw[e,g,i];show(match c9 (à (Ø (.scr _) (.int _)) _) _ with|some (.nx _)=>_|some (.rt d)=>_|_=>_)=_;rw[h];lk
def dr1(c k:Int):Int:=(c%2147483563*69069+104723*(k+1))%2147483563
def dr2(c:Int):Int:=(c*c+c/3)%2147483399
def dr3(c m:Int):Int:=(c*c+c/7)%2147483647/11%m
def qp(h:(-18446744073709551616<y/\y<18446744073709551616)\/(-18446744073709551616<Ã/\Ã<18446744073709551616)):lI (.int y) (.int Ã)=.int (y*Ã)%3:=by show(if _ then _ else _)=_;rw[if_pos h]
def Qz(h:0<Ã):lJ (.int y) (.int Ã)=.int (y%Ã)%3:=by show(if _ then _ else _)=_;rw[if_pos h]
def aW(a:Int%0)(i:a.length<=63)(k m:Int)(g:0<m):∃d:Int,0<=d/\d<m/\ag [.scr a,.int k,.int m]=.int d%3:=by
 obtain⟨c,j⟩:=LN a i k;refine⟨dr3 (dr2 (dr1 c k)) m,abO _ (),aa0 _ g,?_⟩;have u:0<=dr1 c k/\dr1 c k<2147483563:=⟨abO _ (),aa0 _ ()⟩;have s:0<=dr2 (dr1 c k)/\dr2 (dr1 c k)<2147483399:=⟨abO _ (),aa0 _ ()⟩;have h:(ae eW 2 (bP (Y 0) (Y 1))) [Z (.scr a),Z (.int k),Z (.int m),U]=.int c%3:=by show(match eW _ with|some (.ok d)=>(Z _:_%1)|_=>U)=_;rw[j]
 have p:(cO 3 (R lJ (R eD (R lI (R lJ (ae eW 2 (bP (Y 0) (Y 1))) (X 2147483563)) (X 69069)) (R lI (X 104723) (R eD (Y 1) (X 1)))) (X 2147483563))) [Z (.scr a),Z (.int k),Z (.int m),U]=Z (.nx [Z (.scr a),Z (.int k),Z (.int m),Z (.int (dr1 c k))]):=by show c9 (à (à (à (à _ λx=>lJ x _) λx=>lI x _) λx=>à (lI (.int 104723) (.int _)) _) λx=>lJ x _) (λd=>Z (.nx [Z _,Z _,Z _,Z d]))=_;rw[h];show c9 (à (à (à (lJ (.int c) (.int 2147483563)) _) _) _) _=_;show c9 (à (à (lI (.int _) (.int _)) _) _) _=_;rw[qp (.inl ())];show c9 (lJ (.int _) (.int 2147483563)) _=_;rfl
 generalize r:dr1 c k=f at*;have o:(cO 3 (R lJ (R eD (R lI (Y 3) (Y 3)) (R lK (Y 3) (X 3))) (X 2147483399))) [Z (.scr a),Z (.int k),Z (.int m),Z (.int f)]=Z (.nx [Z (.scr a),Z (.int k),Z (.int m),Z (.int (dr2 f))]):=by show c9 (à (à (lI (.int f) (.int f)) _) λx=>lJ x _) _=_;rw[qp (.inl ())];show c9 (lJ (.int _) (.int 2147483399)) _=_;rfl
 generalize q:dr2 f=b at*;have n:(aL (R lJ (R lK (R lJ (R eD (R lI (Y 3) (Y 3)) (R lK (Y 3) (X 7))) (X 2147483647)) (X 11)) (Y 2))) [Z (.scr a),Z (.int k),Z (.int m),Z (.int b)]=Z (.rt (.int (dr3 b m))):=by show c9 (à (à (à (à (lI (.int b) (.int b)) _) λx=>lJ x _) λx=>lK x _) λx=>lJ x _) _=_;rw[qp (.inl ())];show c9 (à (à (lJ (.int _) (.int 2147483647)) _) _) _=_;show c9 (lJ (.int _) (.int m)) _=_;rw[Qz g];rfl
 show(match fH [Z _,Z _,Z _,U]with|some (.nx _)=>_|some (.rt d)=>_|_=>_)=_;have e:fH [Z (.scr a),Z (.int k),Z (.int m),U]=Z (.rt (.int (dr3 b m))):=by show sq _ _=_;rw[p];show sq ((cO 3 _) _) _=_;rw[o];exact n
 rw[e]
def ġ:Str%0:=[b_ "a.b",b_ "b",b_ "x.a.b",b_ "y.x.a.b",b_ "c.uk",b_ "uk",b_ "d.c.uk",b_ "e.d.c.uk",b_ "w.ck",b_ "v.w.ck",b_ "ck",b_ "g-1.a.b",b_ "7.b",b_ "p.q"]
def æ:W%0:=[.str "!w.ck",.str "*.ck",.str "*.uk",.str "a.b",.str "b",.str "c.uk",.str "q",.str "uk"]
def iK:W%0->(W%0)%0|[]=>[[]]|x::r=>(iK r).map (x::·)++iK r
def okO(o:Rs W%1):Rs W%1:=match o with|some (.ok d)=>d%3|_=>U
def jh(b:0<=y)(d:y<u.length):∃x∈u,Ø (.lst u) (.int y)=x%3:=by
 have a:y.toNat<u.length:=by lia
 refine⟨_,aaK a,?_⟩;show(match Č u y with|some y=>_|none=>_)=_;unfold Č;rw[if_pos b,r_ a]
def drL(o:Rs W%1)(l:Str%0):Rs W%1:=match c9 (à (match o with|some (.ok d)=>(d%3:Rs W%1)|_=>U) λi=>Ø (.lst (l.map W.str)) i) λd=>Z (.rt d)with|some (.nx _)=>.non%3|some (.rt d)=>d%3|_=>U
def Ic{o:Rs W%1}(g:0<=y)(f:y<E.length)(d:o=.int y%3):∃p∈E,drL o E=.str p%3:=by obtain⟨x,a,e⟩:=jh (u:=E.map W.str) g (by rw[T_];exact f);obtain⟨p,b,rfl⟩:=L_.1 a;subst d;refine⟨p,b,?_⟩;unfold drL à;dsimp!;rw[e];rfl
def oF(a:Int%0)(b:a.length<=63)(k:Int):∃p∈ġ,aU [.scr a,.int k]=.str p%3:=by obtain⟨d,g,f,e⟩:=aW a b k 14 ();rw[show aU _=drL _ ġ by lk];exact Ic g f e
def LO:ñ:=fB (R è (ae ag 3 (cL (Y 2) (R eD (Y 3) (Y 0)) (X 2))) (X 0))
def Ie(a:Int%0)(g:a.length<=63)(z:Int):∀(l:W%0)(k:Nat),∃t∈iK l,oQ (gP 0 1) (Z LO) (Y 1) [U,U,Z (.scr a),Z (.int z)] (lL k l)=Z t
 |[],k=>⟨[],by simp[iK],rfl⟩|x::r,k=>by
  obtain⟨t,f,e⟩:=Ie a g z r _;obtain⟨d,o,n,j⟩:=aW a g _ 2 ();have b:LO [Z (.int k),Z x,Z (.scr a),Z (.int z)]=à (à (okO (ag [.scr a,.int (z+k),.int 2])) λx=>è x (.int 0)) ĉ:=rfl;have i:oQ (gP 0 1) (Z LO) (Y 1) [U,U,Z (.scr a),Z (.int z)] (lL k (x::r))=(match LO [Z (.int k),Z x,Z (.scr a),Z (.int z)]with|some (.ok L)=>(match oQ (gP 0 1) (Z LO) (Y 1) [U,U,Z (.scr a),Z (.int z)] (lL (k+1) r)with|some h=>Z (x::h)|none=>U)|some (.ok h_)=>oQ (gP 0 1) (Z LO) (Y 1) [U,U,Z (.scr a),Z (.int z)] (lL (k+1) r)|_=>U):=rfl;rw[i,b,j,e];have m:d=0\/d=1:=by lia
  rcases m with rfl|rfl;·exact⟨x::t,by simp[iK,f],rfl⟩
  ·exact⟨t,by simp[iK,f],rfl⟩
def rO:∀{l t:W%0},t∈iK l->t.length<=l.length
 |[],t,h=>by simp[iK]at h;simp[h]|x::r,t,h=>by
  simp![iK,XD,L_]at h;rcases h with⟨u,a,rfl⟩|h;·have:=rO a;simp;lia
  ·have:=rO h;simp;lia
def Gr(a:Int%0)(i:a.length<=63):∃t∈iK æ,fL [.scr a,.int 0]=.tup t%3:=by
 obtain⟨t,g,e⟩:=Ie a i 0 æ 0;refine⟨t,g,?_⟩;have f:t.length<=100000:=by have:=rO g;have:æ.length=8:=rfl;lia
 have h:fL [.scr a,.int 0]=(match c9 (à (à (match oQ (gP 0 1) (Z LO) (Y 1) [U,U,Z (.scr a),Z (.int 0)] (lL 0 æ)with|some b=>if b.length<=100000/\(lL 0 æ).length<=100000 then(.lst b%3)else U|none=>U) λx=>à (Z (.ok [])) λb=>(x::b)%3) jg) λd=>Z (.rt d)with|some (.nx _)=>.non%3|some (.rt d)=>d%3|_=>U):=by lk
 rw[h,e];dsimp!;rw[if_pos ⟨f,by decide⟩];rfl
def ù:Str%0:=[b_ "/",b_ "/x",b_ "/x/",b_ "/x/y",b_ "/xy",b_ "/x/y/z.q",b_ "//",b_ "/-_.9",b_ "/x/y/"]
def wm(a:Int%0)(b:a.length<=63)(k:Int):∃p∈ù,cR [.scr a,.int k]=.str p%3:=by obtain⟨d,g,f,e⟩:=aW a b k 9 ();rw[show cR _=drL _ ù by lk];exact Ic g f e
def rP(F:Þ){f g k:Û}{e:Ev}{a b c d:W}(h:f e=a%3)(m:g e=b%3)(i:k e=c%3)(j:F [a,b,c]=d%3):ae F 3 (cL f g k) e=d%3:=mS (ac h (ac m (ac i ak))) rfl j
def rQ(a:Int%0)(b:a.length<=63)(z:Int):∃s h p O,h∈ġ/\p∈ù/\(O=W.non\/∃o∈ġ,O=.str o)/\cY [.scr a,.int z]=.tup [.bl s,.str h,.str p,O]%3:=by
 obtain⟨f,E,D,m⟩:=aW a b _ 3 ();obtain⟨o,q,d⟩:=oF a b (z+3);obtain⟨w,A,y,n⟩:=aW a b z 2 ();obtain⟨h,u,j⟩:=oF a b (z+1);obtain⟨p,r,i⟩:=wm a b (z+4);have g:∃O,(O=W.non\/∃o∈ġ,O=.str o)/\Ø (.lst [.non,.str o,.str o]) (.int f)=O%3:=by
  have v:f=0\/f=1\/f=2:=by lia
  rcases v with rfl|rfl|rfl;·exact⟨_,.inl rfl,rfl⟩
  ·exact⟨_,.inr ⟨o,q,rfl⟩,rfl⟩
  ·exact⟨_,.inr ⟨o,q,rfl⟩,rfl⟩
 obtain⟨O,g,k⟩:=g;refine⟨(w==0),h,p,O,u,r,g,io ?_⟩;show iz [Z _,Z _,U]=_;unfold iz;have e:R Ø (jk (cL (fC .non) (ae aU 2 (bP (Y 0) (R eD (Y 1) (X 3)))) (ae aU 2 (bP (Y 0) (R eD (Y 1) (X 3)))))) (ae ag 3 (cL (Y 0) (R eD (Y 1) (X 2)) (X 3))) [Z (.scr a),Z (.int z),U]=O%3:=by rw[bq (As (ac rfl (ac (dk aU rfl rfl d) (ac (dk aU rfl rfl d) ak))) (by show 3<=100000;decide)) (rP ag rfl rfl rfl m)];exact k
 rw[ax (bY e rfl)];refine dO (Ar (ac ?_ (ac (dk aU rfl rfl j) (ac (dk cR rfl rfl i) (ac rfl ak)))) (by show 4<=100000;decide));rw[bq (rP ag rfl rfl rfl n) rfl];rfl
abbrev bo(k:Bool):Rs W%1:=.bl k%3
def En:Str%0:=ġ++[b_ "q"]
def jd(h:seq d r=L):d=r:=by unfold seq at h;obtain⟨⟨a⟩⟩:=d;obtain⟨⟨b⟩⟩:=r;simp at h;rw[h]
def df{l:Q%0}{p:Q->Bool}(n:Nat)(b:(l.take n).all p=L)(a:(l.drop n).all p=L):l.all p=L:=by rw[<-List.take_append_drop n l,List.all_append,b,a];rfl
def UY(t:W%0)(n:Str):Bool:=match cW [.tup t,.str n],bI [.tup t,.str n]with|some (.ok (.str _)),.non%3=>L|some (.ok (.str _)),.str z%3=>XE (.str z)|_,_=>h_
def jn(t:W%0):Bool:=En.all λn=>UY t n
def jo:Nat->(W%0)%0|0=>iK æ|k+1=>(jo k).drop 16
def WZ:((jo 0).take 16).all jn=L:=by lk
def W0:((jo 1).take 16).all jn=L:=by lk
def W1:((jo 2).take 16).all jn=L:=by lk
def W3:((jo 3).take 16).all jn=L:=by lk
def W4:((jo 4).take 16).all jn=L:=by lk
def W5:((jo 5).take 16).all jn=L:=by lk
def W6:((jo 6).take 16).all jn=L:=by lk
def W7:((jo 7).take 16).all jn=L:=by lk
def W9:((jo 8).take 16).all jn=L:=by lk
def Xa:((jo 9).take 16).all jn=L:=by lk
def UZ:((jo 10).take 16).all jn=L:=by lk
def U0:((jo 11).take 16).all jn=L:=by lk
def U1:((jo 12).take 16).all jn=L:=by lk
def U4:((jo 13).take 16).all jn=L:=by lk
def U5:((jo 14).take 16).all jn=L:=by lk
def U6:((jo 15).take 16).all jn=L:=by lk
def Ig:(iK æ).all jn=L:=(df 16 WZ (df 16 W0 (df 16 W1 (df 16 W3 (df 16 W4 (df 16 W5 (df 16 W6 (df 16 W7 (df 16 W9 (df 16 Xa (df 16 UZ (df 16 U0 (df 16 U1 (df 16 U4 (df 16 U5 (df 16 U6 (show(jo 16).all jn=L by lk)))))))))))))))))
def Gs(d:u∈iK æ){n:Str}(e:n∈En):∃m o,cW [.tup u,.str n]=.str m%3/\(o=W.non\/∃z,o=.str z)/\bI [.tup u,.str n]=o%3:=by
 have h:=aX ((aX Ig d)) e;unfold UY at h;split at h;·rename_i m b a;exact⟨m,_,b,.inl rfl,a⟩
 ·rename_i m z b a;exact⟨m,_,b,.inr ⟨z,rfl⟩,a⟩
 ·cases h
def LP(d:u∈iK æ){n:Str}(e:n∈En){z:Str}(b:bI [.tup u,.str n]=.str z%3):XE (.str z)=L:=by
 have h:=aX ((aX Ig d)) e;unfold UY at h;rw[b]at h;split at h;·rename_i a;cases a
 ·rename_i a;cases a;exact h
 ·cases h
def Ū:Rs W%1->Bool|some (.ok (.bl L))=>L|_=>h_
def oG{o:Rs W%1}(h:Ū o=L):o=.bl L%3:=by
 unfold Ū at h;split at h;·rfl
 ·cases h
def okB:Rs W%1->Bool|some (.ok (.bl _))=>L|_=>h_
def Ih{o:Rs W%1}(h:okB o=L):∃k,o=bo k:=by
 unfold okB at h;split at h;·exact⟨_,rfl⟩
 ·cases h
def okF:Rs W%1->Bool|some (.ok (.bl h_))=>L|_=>h_
def Ct:((iK æ).all λt=>Ū (cX [.tup t]))=L:=by lk
def gH(a:u∈iK æ):cX [.tup u]=bo L:=oG (aX Ct a)
def ĵ:Str%0:=[b_ "n",b_ "safe-a",b_ "own-b",b_ "N_2",b_ "m-1",b_ "safe-",b_ "own"]
def Ņ:Str%0:=[b_ "5",b_ "",b_ "a!b~",b_ "x/y?z",b_ "123456789012",b_ "1"]
def QC:(ĵ.all λn=>Ū (aY [.str n]))=L:=by lk
def QD:(ĵ.all λn=>!(X4 n (b_ "safe-")&&X4 n (b_ "own-")))=L:=rfl
def QE:(Ņ.all λn=>Ū (cy [.str n]))=L:=by lk
def QF:(En.all λn=>Ū (bE [.str n]))=L:=by lk
def QG:(ù.all λn=>Ū (dh [.str n]))=L:=by lk
def QH:(En.all λp=>En.all λq=>okB (aR [.str p,.str q]))=L:=by lk
def V9(p:Str):Bool:=match lg [.str p]with|some (.ok (.str f))=>ù.any (λq=>seq q f)|_=>h_
def QI:(ù.all V9)=L:=by lk
def Wa(h:d∈ĵ):aY [.str d]=bo L:=oG (aX QC h)
def Xb(h:d∈ĵ):X4 d (b_ "safe-")=h_\/X4 d (b_ "own-")=h_:=by have:=aX QD h;simpa using this
def Wb(h:d∈Ņ):cy [.str d]=bo L:=oG (aX QE h)
def QJ(h:d∈En):bE [.str d]=bo L:=oG (aX QF h)
def U7(h:d∈ù):dh [.str d]=bo L:=oG (aX QG h)
def Wc(h:d∈En)(a:r∈En):∃k,aR [.str d,.str r]=bo k:=Ih (aX (aX QH h) a)
def Xc(h:d∈ù):∃f∈ù,lg [.str d]=.str f%3:=by
 have q:=aX QI h;unfold V9 at q;split at q;·rename_i f b;obtain⟨y,a,g⟩:=Z9.mp q;have e:=jd g;subst e;exact⟨y,a,b⟩
 ·cases q
def QK(h:cX [m]=bo L):aK [m]=.non%3:=by simp[aK,gJ,dZ,bg,c9,à,cC,fB,ĉ,ae,aP,dg,Y,h]
def U8(h:fW [m]=bo L):cV [m]=.non%3:=by simp[cV,gJ,i5,bg,c9,à,cC,fB,ĉ,ae,aP,dg,Y,h]
def Wd(h:iD [m]=bo L):c5 [m]=.non%3:=by simp[c5,gJ,fX,bg,c9,à,cC,fB,ĉ,ae,aP,dg,Y,h]
def za(h:aZ [m]=bo L):aB [m]=.non%3:=by simp[aB,gJ,di,bg,c9,à,cC,fB,ĉ,ae,aP,dg,Y,h]
def Xd(h:aZ [m]=bo h_):aB [m]=6%9:=by simp[aB,gJ,di,bg,c9,à,cC,fB,ĉ,ae,aP,dg,Y,fC,dP,h]
def oH(b:0<=y)(a:y<=9999):aZ [.int y]=bo L:=by
 have e:aS [.int y,.int 0,.int 9999]=bo L:=by simp[aS,bL,bc,aM,sq,bg,aL,c9,à,Đ,cC,fB,ĉ,Y,f1,R,lB,j9,gh,tz,ń,b,a]
 simp[aZ,bL,eU,aL,c9,à,ae,aP,dg,Y,fC,e]
def Mo(u:W):Prop:=u=.non\/∃i:Int,0<=i/\i<=9999/\u=.int i
def Cu(h:Mo m):aF [m]=bo L:=by
 rcases h with rfl|⟨i,b,a,rfl⟩;·simp[aF,bL,bi,aL,c9,à,ĉ,Y,fC,R,İ,Ė]
 ·simp[aF,bL,bi,aL,c9,à,ĉ,ae,aP,dg,Y,fC,R,İ,Ė,oH b a]
structure Ak(h p:Str)(O:W):Prop where
 h:h∈En
 p:p∈ù
 o:O=.non\/∃o∈ġ,O=.str o
def me(q:d∈ġ):d∈En:=R_ _ q
abbrev ĕ(s:Bool)(h p:Str)(O:W):W:=.tup [.bl s,.str h,.str p,O]
def Cv(a:Ak d r m):fW [ĕ H d r m]=bo L:=by
 have f:bQ [.tup [.bl H,.str d,.str r,m],.int 4]=bo L:=rfl;have e:=QJ (a.h);have b:=U7 a.p;rcases a.o with rfl|⟨o,g,rfl⟩;·simp[fW,bL,lc,aM,sq,bg,aL,c9,à,cC,fB,ĉ,ae,aP,dg,Y,fC,f1,R,Ø,Č,İ,jk,ì,Ė,j9,gh,f,e,b,pK,kN]
 ·simp[fW,bL,lc,aM,sq,bg,aL,c9,à,cC,fB,ĉ,ae,aP,dg,Y,fC,f1,R,Ø,Č,İ,jk,ì,Ė,j9,gh,f,e,b,(QJ (me g)),pK,kN]
def Ii(d:u∈iK æ){h p:Str}{O:W}(a:Ak h p O):∃k,∀s,aE [.tup u,ĕ s h p O]=bo k:=by
 rcases a.o with rfl|⟨o,i,rfl⟩;·exact⟨L,λs=>rfl⟩
 ·obtain⟨w,r,_,m,b⟩:=Gs d (a.h);obtain⟨v,n,_,j,e⟩:=Gs d (me i);cases q:seq o h with|true=>exact⟨L,λs=>by simp[aE,bL,bj,aM,sq,bg,aL,cO,c9,à,Đ,fB,ĉ,Y,fC,R,Ø,Č,Ė,è,oA,q]⟩|false=>
 rcases m with rfl|⟨g,rfl⟩;·exact⟨h_,λs=>by simp[aE,bL,bj,aM,sq,bg,aL,cO,c9,à,Đ,fB,ĉ,ae,aP,dg,Y,fC,R,Ø,Č,lB,Ė,sS,è,oA,q,b]⟩
 · rcases j with rfl|⟨f,rfl⟩;·exact⟨h_,λs=>by simp[aE,bL,bj,aM,sq,bg,aL,cO,c9,à,Đ,fB,ĉ,ae,aP,dg,Y,fC,R,Ø,Č,lB,Ė,sS,è,oA,Qx,q,b,e]⟩
   ·exact⟨seq g f,λs=>by simp[aE,bL,bj,aM,sq,bg,aL,cO,c9,à,Đ,fB,ĉ,ae,aP,dg,Y,fC,R,Ø,Č,lB,Ė,sS,è,oA,q,b,e]⟩
structure Gv(nm w:Str)(H P u l:W)(S:Bool)(R:Str):Prop where
 nm:nm∈ĵ
 w:w∈Ņ
 hh:H=.non\/∃n∈En,H=.str n
 pp:P=.non\/∃p∈ù,P=.str p
 u:u=.non\/∃i:Int,0<=i/\i<60/\u=.int i
 l:l=.non\/∃i:Int,0<=i/\i<30/\l=.int i
 r:R=b_ "any"\/R=b_ "near"
abbrev Ę(a w:Str)(H P u l:W)(S:Bool)(R:Str):W:=.tup [.str a,.str w,H,P,u,l,.bl S,.str R]
def Sh:Rs W%1->Bool|some (.ok (.str z))=>En.any λq=>seq q z|_=>h_
def Cw{o:Rs W%1}(h:Sh o=L):∃n∈En,o=.str n%3:=by
 unfold Sh at h;split at h;·obtain⟨y,a,b⟩:=Z9.mp h;have e:=jd b;subst e;exact⟨y,a,rfl⟩
 ·cases h
def LQ:Û:=(R Ø (fM (jt) (Y 2) (al (Ú "."))) (f1 MM (X 1)))
def LR:Û:=(Ő (fB (R ł (Ú ".") (Y 2))) (Aj (Y 2) (il (R eD (fM Ov (Y 2) (al (Ú "."))) (X 1))) kg) (Y 2))
def Gu:(ġ.all λh=>Sh (LQ [U,U,Z (.str h)]))=L:=by lk
def Gx:(ġ.all λh=>Sh (LR [U,U,Z (.str h)]))=L:=by lk
def QM(q:d∈ġ){a b:W%1}{r:Ev}:∃n∈En,LQ (a::b::Z (.str d)::r)=.str n%3:=Cw (aX Gu q)
def QN(q:d∈ġ){a b:W%1}{r:Ev}:∃n∈En,LR (a::b::Z (.str d)::r)=.str n%3:=Cw (aX Gx q)
def Gy(d:Int%0)(e:d.length<=63)(z:Int){h:Str}(r:h∈ġ):∃f w H P u l S a,Gv f w H P u l S a/\dH [.scr d,.int z,.str h]=Ę f w H P u l S a%3:=by
 obtain⟨d0,a0,b0,e0⟩:=aW d e z 7 ();obtain⟨d1,a1,b1,e1⟩:=aW d e (z+1) 5 ();obtain⟨d2,a2,b2,e2⟩:=aW d e (z+2) 6 ();obtain⟨d4,a4,b4,e4⟩:=aW d e (z+4) 3 ();obtain⟨d6,a6,b6,e6⟩:=aW d e (z+6) 3 ();obtain⟨d7,a7,b7,e7⟩:=aW d e (z+7) 60 ();obtain⟨d8,a8,b8,e8⟩:=aW d e (z+8) 3 ();obtain⟨d9,a9,b9,e9⟩:=aW d e (z+9) 30 ();obtain⟨a',f',e',Q⟩:=aW d e (z+10) 2 ();obtain⟨d',c',b',I⟩:=aW d e (z+11) 2 ();obtain⟨n3,D,e3⟩:=oF d e (z+3);obtain⟨p5,y,e5⟩:=wm d e (z+5);obtain⟨q,m0,i0⟩:=jh (u:=[.str "n",.str "safe-a",.str "own-b",.str "N_2",.str "m-1",.str "safe-",.str "n"]) a0 b0;obtain⟨p,m1,i1⟩:=jh (u:=[.str "5",.str "",.str "a!b~",.str "x/y?z",.str "123456789012"]) a1 b1;obtain⟨b,hL,eL⟩:=QM r (a:=Z (.scr d)) (b:=Z (.int z)) (r:=[Z q,Z p,U,U,U,U,U,U]);obtain⟨TL,hT,eT⟩:=QN r (a:=Z (.scr d)) (b:=Z (.int z)) (r:=[Z q,Z p,U,U,U,U,U,U]);obtain⟨o,m2,i2⟩:=jh (u:=[.non,.non,.str h,.str b,.str n3,.str TL]) a2 b2;obtain⟨m,m4,i4⟩:=jh (u:=[.non,.str "/",.str p5]) a4 b4;obtain⟨k,m6,i6⟩:=jh (u:=[.non,.non,.int d7]) a6 b6;obtain⟨j,m8,i8⟩:=jh (u:=[.non,.non,.int d9]) a8 b8;obtain⟨s,g,v⟩:=jh (u:=[.str "any",.str "near"]) c' b';have g0:∃f∈ĵ,q=.str f:=by simp![p_,J_,or_false]at m0;rcases m0 with rfl|rfl|rfl|rfl|rfl|rfl|rfl<;>exact⟨_,by simp[ĵ],rfl⟩
 have g1:∃f∈Ņ,p=.str f:=by simp![p_,J_,or_false]at m1;rcases m1 with rfl|rfl|rfl|rfl|rfl<;>exact⟨_,by simp[Ņ],rfl⟩
 have g2:o=.non\/∃n∈En,o=.str n:=by
  simp![p_,J_,or_false]at m2;rcases m2 with rfl|rfl|rfl|rfl|rfl|rfl;·exact .inl rfl
  ·exact .inl rfl
  ·exact .inr ⟨_,me r,rfl⟩
  ·exact .inr ⟨_,hL,rfl⟩
  ·exact .inr ⟨_,me D,rfl⟩
  ·exact .inr ⟨_,hT,rfl⟩
 have g4:m=.non\/∃n∈ù,m=.str n:=by
  simp![p_,J_,or_false]at m4;rcases m4 with rfl|rfl|rfl;·exact .inl rfl
  ·exact .inr ⟨_,by simp[ù],rfl⟩
  ·exact .inr ⟨_,y,rfl⟩
 have g6:k=.non\/∃i:Int,0<=i/\i<60/\k=.int i:=by
  simp![p_,J_,or_false]at m6;rcases m6 with rfl|rfl|rfl;·exact .inl rfl
  ·exact .inl rfl
  ·exact .inr ⟨_,a7,b7,rfl⟩
 have g8:j=.non\/∃i:Int,0<=i/\i<30/\j=.int i:=by
  simp![p_,J_,or_false]at m8;rcases m8 with rfl|rfl|rfl;·exact .inl rfl
  ·exact .inl rfl
  ·exact .inr ⟨_,a9,b9,rfl⟩
 have E:∃a,(a=b_ "any"\/a=b_ "near")/\s=.str a:=by
  simp![p_,J_,or_false]at g;rcases g with rfl|rfl;·exact⟨_,.inl rfl,rfl⟩
  ·exact⟨_,.inr rfl,rfl⟩
 obtain⟨f,A,rfl⟩:=g0;obtain⟨w,hw,rfl⟩:=g1;obtain⟨a,hR,rfl⟩:=E;refine⟨f,w,o,m,k,j,a'==0,a,⟨A,hw,g2,g4,g6,g8,hR⟩,?_⟩;have eB:gV=(aM _ (aM _ (EH 5 (aP _ (aP _ (aP _ (aP LQ _)))) (hU (EF LR) _)))):=rfl;unfold dH bL;rw[eB];simp[aM,sq,cO,c9,à,ae,aP,dg,Y,fC,R,ii,jk,EH,hU,EF,iP,JQ,AG,eD,e0,e1,e2,e3,e4,e5,e6,e7,e8,e9,Q,I,i0,i1,i2,i4,i6,i8,v,eL,eT,è,Ia]
def rR(h:d=b_ "any"\/d=b_ "near"):eV [.str d]=bo L/\∃r,è (.str d) (.str "near")=bo (!r):=by
 rcases h with rfl|rfl;·exact⟨rfl,L,rfl⟩
 ·exact⟨rfl,h_,rfl⟩
variable{Ω:W}{χ:Str}
def Gv.mu(g:Gv d r m π Η Ω H χ):Mo Η:=by
 rcases g.u with h|⟨i,b,e,a⟩;·exact .inl h
 ·exact .inr ⟨i,b,by lia,a⟩
def Gv.ml(g:Gv d r m π Η Ω H χ):Mo Ω:=by
 rcases g.l with h|⟨i,b,e,a⟩;·exact .inl h
 ·exact .inr ⟨i,b,by lia,a⟩
def rS{b:ñ}(a:Ξ ε=H%3)(d:b ε=Ï%3):mC Ξ b ε=(H&&Ï)%3:=by
 cases H;·exact Aq a
 ·rw[Hx a,d];rfl
def zb(a:Ξ ε=H%3):aM (bg Ξ (aL (fC m)) ó) Ψ ε=if H=L then Z (.rt m)else Ψ ε:=by
 cases H;·rw[ax (cD a)];rfl
 ·exact nM (by rw[Gg a];rfl)
def LS(e:u.map Z++XF (b-u.length) U=ε)(h:Ψ ε=Z (.rt m)):gJ b Ψ u=m%3:=by unfold gJ;rw[e,h]
def Cy(F:Þ){f:Û}{b:Ev}{a d:W}(h:f b=a%3)(e:F [a]=d%3):ay F 1 (al f) b=d%3:=cE F (ac h ak) rfl e
def LU(e:u.map Z++XF (b-u.length) U=ε)(h:Ψ ε=Z (.rt m)):bL b Ψ u=m%3:=by unfold bL;rw[e,h]
def QO(h:z ε=m%3):aL z ε=Z (.rt m):=by unfold aL;rw[h];rfl
def Gz(x:Str){k:Bool}(f:aY [.str x]=bo k)(g:Gv d r m π Η Ω H χ):iD [Ę x r m π Η Ω H χ]=bo k:=by
 have h:bQ [Ę x r m π Η Ω H χ,.int 8]=bo L:=rfl;have e:İ (R Ė (R Ø (Y 0) (X 2)) (fC .non)) (ae bE 1 (al (R Ø (Y 0) (X 2)))) [Z (Ę x r m π Η Ω H χ)]=bo L:=by
  rcases g.hh with rfl|⟨n,a,rfl⟩;·exact Oi rfl
  ·exact(Oh rfl).trans (dJ bE rfl (QJ a))
 have b:İ (R Ė (R Ø (Y 0) (X 3)) (fC .non)) (ae dh 1 (al (R Ø (Y 0) (X 3)))) [Z (Ę x r m π Η Ω H χ)]=bo L:=by
  rcases g.pp with rfl|⟨n,a,rfl⟩;·exact Oi rfl
  ·exact(Oh rfl).trans (dJ dh rfl (U7 a))
 refine LU rfl ?_;refine(zb (lN (bf (dk bQ rfl rfl h)))).trans (QO ((cg (ac (As (ac (dJ aY rfl f) (ac (dJ cy rfl (Wb g.w)) (ac e (ac b (ac (dJ aF rfl (Cu g.mu)) (ac (dJ aF rfl (Cu g.ml)) (ac (m:=.bl L) rfl (ac (dJ eV rfl ((rR g.r).1)) ak)))))))) (by show 8<=100000;decide)) ak)).trans ?_));cases k<;>rfl
def Cz(g:Gv d r m π Η Ω H χ):iD [Ę d r m π Η Ω H χ]=bo L:=Gz d (Wa g.nm) g
def word(f b a d e:Bool):W:=if f then .str "foreign"else if b then .str "open"else if a then .str "unsafe"else if d then .str "marked"else if e then .str "far"else .non
def š{h p:Str}{O:W}(z:u∈iK æ)(a:Ak h p O)(g:Gv d r m π Η Ω H χ){f e j i b:Bool}{s:Bool}(E:bh [.tup u,ĕ s h p O,Ę d r m π Η Ω H χ]=bo j)(D:aE [.tup u,ĕ s h p O]=bo i)(A:è (.str χ) (.str "near")=bo (!b))(o:(m=.non/\f=h_/\e=h_)\/∃n q k,m=.str n/\aR [.str h,.str n]=bo (!f)/\Ŕ (.str n) (.str h)=bo q/\gD [.tup u,.str n]=bo k/\e=(q&&k)):bu [.tup u,ĕ s h p O,Ę d r m π Η Ω H χ]=word f e (H&&!s) (!j) (!b&&!i)%3:=by
 refine LS rfl ?_;unfold fz;rw[ax (mR (Cy aK rfl (QK (gH z)))),ax (mR (Cy cV rfl (U8 (Cv a)))),ax (mR (Cy c5 rfl (Wd (Cz g)))),ax (bY (a:=[Z _,Z _,Z _,Z m]) rfl rfl)];refine(zb (H:=f) ?_).trans ?_
 · rcases o with⟨rfl,rfl,rfl⟩|⟨n,q,k,rfl,y,w,v,rfl⟩;·exact Aq (bf rfl)
   ·exact(lN (bf (dk aR rfl rfl y))).trans (by rw[Bool.not_not])
 cases f;rotate_left;·rfl
 refine(zb (H:=e) ?_).trans ?_
 · rcases o with⟨rfl,_,rfl⟩|⟨n,q,k,rfl,y,w,v,rfl⟩;·exact Aq (bf rfl)
   ·rw[Hx (bf rfl)];exact rS (bf ((bq rfl rfl).trans w)) (bf (dk gD rfl rfl v))
 cases e;rotate_left;·rfl
 refine(zb (rS (bf rfl) (lN (bf rfl)))).trans ?_;cases H&&!s;rotate_left;·rfl
 refine(zb (lN (bf (rP bh rfl rfl rfl E)))).trans ?_;cases !j;rotate_left;·rfl
 refine(zb (rS (bf ((bq rfl rfl).trans A)) (lN (bf (dk aE rfl rfl D))))).trans ?_;cases !b&&!i<;>rfl
def mark(b a S e d:Bool):Bool:=(b&&!S)||(a&&!(S&&(e&&d)))
def CB{h p:Str}{O:W}{e:Bool}{s:Bool}(f:d∈ĵ)(j:è π (.str "/")=bo Ï)(i:dG [.tup u,ĕ s h p O,Ę d r m π Η Ω H χ]=bo e):bh [.tup u,ĕ s h p O,Ę d r m π Η Ω H χ]=bo (!mark (X4 d (b_ "safe-")) (X4 d (b_ "own-")) H e Ï):=by have g:=Xb f;cases b:X4 d _ with
 |true=>
 rw[b]at g;have a:X4 d (b_ "own-")=h_:=by simpa using g
 rw[a];cases H<;>simp[bh,bL,bO,aM,sq,bg,aL,cO,c9,à,fB,ĉ,aP,dg,Y,fC,R,Ø,Č,fM,sW,b,mark]|false=>cases a:X4 d _ with|true=>cases H<;>cases e<;>cases Ï<;>simp[bh,bL,bO,aM,sq,bg,aL,cO,c9,à,fB,ĉ,ae,aP,dg,Y,fC,R,Ø,Č,lB,fM,sW,b,a,i,j,mark]|false=>simp[bh,bL,bO,aM,sq,bg,aL,cO,c9,à,fB,ĉ,aP,dg,Y,fC,R,Ø,Č,fM,sW,b,a,mark]
structure Wt(t:W%0)(h p:Str)(O:W)(nm w:Str)(H P u l:W)(S:Bool)(R:Str)(s:Bool)(house path:Str)(ex:Bool)(wd:W):Prop where
 hs:house∈En
 ph:path∈ù
 win:wd=.non\/∃x∈["foreign","open","unsafe","marked","far"],wd=.str (b_ x)why:bu [.tup t,ĕ s h p O,Ę nm w H P u l S R]=Z (.ok wd)hf:kz [ĕ s h p O,Ę nm w H P u l S R]=Z (.ok (.str house))hl:(H=.non/\house=h)\/H=.str house
 ix:dG [.tup t,ĕ s h p O,Ę nm w H P u l S R]=bo ex
 pf:gE [ĕ s h p O,Ę nm w H P u l S R]=Z (.ok (.str path))un:wd=.non->s=h_->S=h_
def CF(f b a d e:Bool):word f b a d e=.non\/∃x∈["foreign","open","unsafe","marked","far"],word f b a d e=.str (b_ x):=by cases f<;>cases b<;>cases a<;>cases d<;>cases e<;>first|exact .inl rfl|exact .inr ⟨_,by simp,rfl⟩|exact .inr _|exact .inr _|exact .inr _|exact .inr _
def CG{a d S s:Bool}(h:word H Ï (S&&!s) a d=.non)(b:s=h_):S=h_:=by
 subst b;cases S;·rfl
 ·cases H<;>cases Ï<;>cases h
def U9{h p:Str}{O:W}(A:u∈iK æ)(a:Ak h p O)(g:Gv d r m π Η Ω H χ)(s:Bool):∃k i ex wd,Wt u h p O d r m π Η Ω H χ s k i ex wd:=by
 obtain⟨nr,hN⟩:=Ii A a;obtain⟨_,e,Q⟩:=rR g.r;have D:∃pe,è π (.str "/")=bo pe:=by
  rcases g.pp with rfl|⟨q,_,rfl⟩;·exact⟨h_,rfl⟩
  ·exact⟨_,rfl⟩
 obtain⟨pe,D⟩:=D;have j:∃i∈ù,gE [ĕ s h p O,Ę d r m π Η Ω H χ]=.str i%3:=by
  rcases g.pp with rfl|⟨q,hq,rfl⟩;·obtain⟨f,hf,k2⟩:=Xc a.p;exact⟨f,hf,by simp[gE,gJ,i7,aM,sq,bg,aL,c9,à,fB,ĉ,ay,aP,dg,Y,fC,R,Ø,Č,Ė,k2]⟩
  ·exact⟨q,hq,rfl⟩
 obtain⟨i,w,y⟩:=j;rcases g.hh with rfl|⟨n,I,rfl⟩;·have v:dG [.tup u,ĕ s h p O,Ę d r .non π Η Ω H χ]=bo L:=rfl;have E:=š A a g (CB g.nm D v) (hN s) Q (.inl ⟨rfl,rfl,rfl⟩);exact⟨h,i,L,_,a.h,w,CF _ _ _ _ _,E,rfl,.inl ⟨rfl,rfl⟩,v,y,CG⟩
 · obtain⟨b,o,hm,_,_⟩:=Gs A I;obtain⟨wi,P⟩:=Wc (a.h) I;have z:gD [.tup u,.str n]=bo (seq b n):=by simp[gD,bL,lf,aL,c9,à,ae,aP,dg,Y,R,hm,è,oA]
   have v:dG [.tup u,ĕ s h p O,Ę d r (.str n) π Η Ω H χ]=bo (seq n h&&seq b n):=by simp[dG,bL,jX,aM,sq,bg,aL,cO,c9,à,fB,ĉ,ae,aP,dg,Y,fC,R,Ø,Č,lB,Ė,z,è,oA];cases seq n h<;>simp[aM]
   have E:=š A a g (CB g.nm D v) (hN s) Q (.inr ⟨n,!seq n h,_,rfl,by rw[P,Bool.not_not],rfl,z,rfl⟩);exact⟨n,i,_,_,I,w,CF _ _ _ _ _,E,rfl,.inr rfl,v,y,CG⟩
def je(a b:Str):(a++b).length=a.length+b.length:=aeE
def CH(a b c:Str):a++b++c=a++(b++c):=by show Str.mk (a.cps++b.cps++c.cps)=Str.mk (a.cps++(b.cps++c.cps));rw[aei]
def QP(a:Str):a++b_ ""=a:=rfl
def step(t:Str)(o:Str%1):Str:=match o with|none=>t|some y=>t++b_ "; "++y
def lr(t:Str)(o:Str%1)(B:Nat)(h:∀y,o=Z y->y.length<=B):(step t o).length<=t.length+2+B:=by cases o with|none=>show t.length<=_;lia|some y=>
 have:=h y rfl;show(t++b_ "; "++y).length<=_;rw[je,je];have e:(b_ "; ").length=2:=by decide
 lia
def oJ(a:Str):∀(l:Str%0)(x:Str),ſ a (x::l)=l.foldl (λt y=>t++a++y) x|[],x=>rfl|y::l,x=>oJ a l (x++a++y)
def j4(t:Str)(o:Str%1)(l:Str%0):(o.toList++l).foldl (λt y=>t++b_ "; "++y) t=l.foldl (λt y=>t++b_ "; "++y) (step t o):=by cases o<;>rfl
def eS:Str%1->W|none=>.non|some x=>.str x
def eO:Int%1->W|none=>.non|some x=>.int x
def is(i:Int):Str:=b_ (toString i)
def Ij(b:0<=y)(a:y<=9999):(is y).length<=10001:=by have:=PyProof.Rows.len_str_of_int y;unfold is;lia
def Va(b:0<=y)(a:y<=9999):TF [.int y]=.str (is y)%3:=by
 show(if y.natAbs.log2<1920 then _ else U)=_;rw[if_pos];·rfl
 · by_cases z:y.natAbs=0;·rw[z];decide
   ·exact(Nat.log2_lt z).mpr (Q_ (show y.natAbs<2^14 by lia) (Nat.pow_le_pow_right #v[] #v[]))
structure Vv(nm w:Str)(h p:Str%1)(u l:Int%1)(R:Str):Prop where nm:nm.length<=50w:w.length<=50h:∀x,h=Z x->x.length<=50p:∀x,p=Z x->x.length<=50u:∀i,u=Z i->0<=i/\i<=9999l:∀i,l=Z i->0<=i/\i<=9999
abbrev gv(a w:Str)(h p:Str%1)(u l:Int%1)(S:Bool)(R:Str):W:=.tup [.str a,.str w,eS h,eS p,eO u,eO l,.bl S,.str R]
def oS(a:String)(h:Str%1):Str%1:=h.map λx=>b_ a++x
def oI(a:String)(h:Int%1):Str%1:=h.map λx=>b_ a++is x
def oB(x:String)(b:Bool):Str%1:=if b then Z (b_ x)else U
def ď(a w:Str):Str:=a++b_ "="++w
def mr(R:Str):Bool:=seq R (b_ "near")
def T(a w:Str)(h p:Str%1)(u l:Int%1)(S:Bool)(R:Str):Str:=step (step (step (step (step (step (ď a w) (oS "for " h)) (oS "under " p)) (oI "until " u)) (oI "lasts " l)) (oB "safe" S)) (oB "near" (mr R))
def Vb(h:d.length+r.length<=100000):eD (.str d) (.str r)=.str (d++r)%3:=by show(if d.length+r.length<=100000 then _ else U)=_;rw[if_pos h]
def mH(h:d.length+r.length<=100000):dv (.str d) (.str r)=.str (d++r)%3:=Vb h
def qr(o:Str%1):o.toList.length<=1:=by simp
variable{Á:Str%1}
def We{a:String}(e:(b_ a).length<=10)(d:∀x,Á=Z x->x.length<=50):∀y,oS a Á=Z y->y.length<=60:=by intro y b;cases Á with|none=>cases b|some x=>cases b;rw[je];have:=d x rfl;lia
def Wf{a:String}(e:(b_ a).length<=10)(d:∀x,Ι=Z x->0<=x/\x<=9999):∀y,oI a Ι=Z y->y.length<=10020:=by intro y b;cases Ι with|none=>cases b|some x=>cases b;rw[je];have:=Ij (d x rfl).1 (d x rfl).2;lia
def Xe{x:String}(b:(b_ x).length<=10):∀y,oB x H=Z y->y.length<=60:=by intro y a;cases H with|false=>cases a|true=>cases a;lia
def QQ(h:z ε=m%3):aL z ε=Z (.rt m):=by unfold aL;rw[h];rfl
def EL(d w:Str)(h p:Str%1)(u l:Int%1)(S:Bool)(R:Str)(t:Str)(a b:W%1):Ev:=[Z (gv d w h p u l S R),Z (.str d),Z (.str w),Z (eS h),Z (eS p),Z (eO u),Z (eO l),Z (.bl S),Z (.str R),Z (.str t),a,b]
def uJ{p:Str%1}{t e:Str}{a b:W%1}:jw (gP 10 11) [11,10] aN (.tup [.str e,.non]::u) (EL d r Á p Ι Φ H χ t a b)=jw (gP 10 11) [11,10] aN u (EL d r Á p Ι Φ H χ t (Z (.str e)) (Z .non)):=rfl
def qt{p:Str%1}{t e y:Str}{a b:W%1}(h:sS m .non=bo L)(g:OO [m]=.str y%3)(j:t.length+2+e.length+1+y.length<=100000):jw (gP 10 11) [11,10] aN (.tup [.str e,m]::u) (EL d r Á p Ι Φ H χ t a b)=jw (gP 10 11) [11,10] aN u (EL d r Á p Ι Φ H χ (t++b_ "; "++e++b_ " "++y) (Z (.str e)) (Z m)):=by
 have k:(b_ "; ").length=2:=by decide
 have n:(b_ " ").length=1:=by decide
 have i:aN (EL d r Á p Ι Φ H χ t (Z (.str e)) (Z m))=Z (.nx (EL d r Á p Ι Φ H χ (t++b_ "; "++e++b_ " "++y) (Z (.str e)) (Z m))):=by
  have z:R dv (R dv (R dv (R dv (Y 9) (Ú "; ")) (Y 10)) (Ú " ")) (ì OO (al (Y 11))) (EL d r Á p Ι Φ H χ t (Z (.str e)) (Z m))=.str (t++b_ "; "++e++b_ " "++y)%3:=by exact(bq ((bq ((bq ((bq rfl rfl).trans (mH ())) rfl).trans (mH (by rw[je];lia))) rfl).trans (mH (by rw[je,je];lia))) ((cg (ac rfl ak)).trans g)).trans (mH (by rw[je,je,je];lia))
  unfold aN bg;rw[(bf h)];exact bY z rfl
 show(match aN (EL d r Á p Ι Φ H χ t _ _)with|some (.nx f)=>jw _ _ aN u f|o=>o)=_;rw[i]
def Ik(t b a y:Str)(d:b++b_ " "=a):t++b_ "; "++b++b_ " "++y=t++b_ "; "++(a++y):=by rw[CH _ b,d,CH _ a]
def QR{p:Str%1}{t f e:Str}{o:Str%1}{a b:W%1}(g:f++b_ " "=e)(h:∀x,o=Z x->x.length<=50)(m:t.length<=80000)(k:f.length<=10):∃j i,jw (gP 10 11) [11,10] aN (.tup [.str f,eS o]::u) (EL d r Á p Ι Φ H χ t a b)=jw (gP 10 11) [11,10] aN u (EL d r Á p Ι Φ H χ (step t (o.map λx=>e++x)) j i):=by cases o with|none=>exact⟨_,_,uJ⟩|some x=>have:=h x rfl;refine⟨Z (.str f),Z (.str x),(qt (m:=.str x) rfl rfl ()).trans ?_⟩;rw[Ik t f e x g];rfl
def QS{p:Str%1}{t f e:Str}{o:Int%1}{a b:W%1}(h:f++b_ " "=e)(g:∀x,o=Z x->0<=x/\x<=9999)(m:t.length<=80000)(k:f.length<=10):∃j i,jw (gP 10 11) [11,10] aN (.tup [.str f,eO o]::u) (EL d r Á p Ι Φ H χ t a b)=jw (gP 10 11) [11,10] aN u (EL d r Á p Ι Φ H χ (step t (o.map λx=>e++is x)) j i):=by cases o with|none=>exact⟨_,_,uJ⟩|some x=>have:=g x rfl;have:=Ij this.1 this.2;refine⟨Z (.str f),Z (.int x),(qt (m:=.int x) rfl (Va (g x rfl).1 (g x rfl).2) ()).trans ?_⟩;rw[Ik t f e _ h];rfl
def LV{p:Str%1}(v:Vv d r Á p Ι Φ χ):fj [gv d r Á p Ι Φ H χ]=.str (T d r Á p Ι Φ H χ)%3:=by
 have w:=v.nm;have u:=v.w;have s:(b_ "=").length=1:=by decide
 have b0:(ď d r).length<=200:=by unfold ď;rw[je,je];lia
 have b1:=lr (ď d r) (oS "for " Á) 60 (We #v[] v.h);have Q:=lr (step (ď d r) (oS "for " Á)) (oS "under " p) 60 (We #v[] v.p);have P:=lr (step (step (ď d r) (oS "for " Á)) (oS "under " p)) (oI "until " Ι) _ (Wf #v[] v.u);have I:=lr (step (step (step (ď d r) (oS "for " Á)) (oS "under " p)) (oI "until " Ι)) (oI "lasts " Φ) _ (Wf #v[] v.l);obtain⟨a1,D,q⟩:=QR (t:=ď d r) (f:=b_ "for") (rfl) v.h () #v[];obtain⟨a2,A,o⟩:=QR (t:=step (ď d r) (oS "for " Á)) (f:=b_ "under") (rfl) v.p () #v[];obtain⟨a3,z,n⟩:=QS (t:=step (step (ď d r) (oS "for " Á)) (oS "under " p)) (f:=b_ "until") (rfl) v.u () #v[];obtain⟨a4,y,m⟩:=QS (t:=step (step (step (ď d r) (oS "for " Á)) (oS "under " p)) (oI "until " Ι)) (f:=b_ "lasts") (rfl) v.l () #v[];let a:=step (step (step (step (ď d r) (oS "for " Á)) (oS "under " p)) (oI "until " Ι)) (oI "lasts " Φ);have b:jw _ _ aN [.tup _,.tup _,.tup _,.tup _] (EL d r Á p Ι Φ H χ _ U U)=Z (.nx (EL d r Á p Ι Φ H χ a U U)):=q.trans (o.trans (n.trans (m.trans rfl)));have k:a++(if H then b_ "; safe"else b_ "")=step a (oB "safe" H):=by
  cases H;·exact QP a
  ·rfl
 have E:=lr a (oB "safe" H) 60 (Xe #v[]);have i:R dv (Y 9) (Ő (fB (Y 7)) (Ú "; safe") (Ú "")) (EL d r Á p Ι Φ H χ a U U)=.str (step a (oB "safe" H))%3:=by
  rw[<-k];refine(bq rfl (by cases H<;>rfl)).trans (mH ?_);have:(if H then b_ "; safe"else b_ "").length<=10:=by cases H<;>decide
  lia
 have f:Ő (fB (R è (Y 8) (Ú "near"))) (Ú "; near") (Ú "") (EL d r Á p Ι Φ H χ a U U)=(.str (if mr χ then b_ "; near"else b_ ""))%3:=by have c:fB (R è (Y 8) (Ú "near")) (EL d r Á p Ι Φ H χ a U U)=mr χ%3:=rfl;unfold Ő;rw[c];cases mr χ<;>rfl
 have j:∀t:Str,t++(if mr χ then b_ "; near"else b_ "")=step t (oB "near" (mr χ)):=by
  intro t;cases mr χ;·exact QP t
  ·rfl
 have h:(R dv (R dv (Y 9) (Ő (fB (Y 7)) (Ú "; safe") (Ú ""))) (Ő (fB (R è (Y 8) (Ú "near"))) (Ú "; near") (Ú ""))) (EL d r Á p Ι Φ H χ a U U)=.str (T d r Á p Ι Φ H χ)%3:=by
  refine(bq i f).trans ((mH ?_).trans ?_)
  · have:(if mr χ then b_ "; near"else b_ "").length<=10:=by cases mr χ<;>decide
    lia
  ·rw[j];rfl
 refine io ?_;unfold jc;rw[ax (show Of _ _ _=Z (.nx [Z (gv d r Á p Ι Φ H χ),Z (.str d),Z (.str r),Z (eS Á),Z (eS p),U,U,U,U,U,U,U])by lk),ax (show Of _ _ _=Z (.nx [Z _,Z _,Z _,Z _,Z _,Z _,Z _,Z _,Z _,U,U,U])by lk),ax (bY (a:=EL d r Á p Ι Φ H χ (ď d r) U U) ((bq ((bq rfl rfl).trans (mH ())) rfl).trans (mH (by rw[je];lia))) rfl)];have e:Bc (gP 10 11) [11,10] (λg=>à ((bP (ii (sj (Ú "for") (Ú "under") (Ú "until") (Ú "lasts"))) (vp (Y 0) (il (X 2)) (il (X 6)))) g) ON) aN (EL d r Á p Ι Φ H χ (ď d r) U U)=Z (.nx (EL d r Á p Ι Φ H χ a U U)):=by exact b
 rw[ax e];exact QQ h
def uK(p:Str):(Nat×W)%1:=match bU [.str p]with|some (.ok (.tup [.int k,d]))=>Z (k.toNat,d)|_=>U
def eT:(Nat×W)%1->W|none=>.non|some (k,d)=>.tup [.int k,d]
def okT(p:Str):Bool:=match bU [.str p]with|some (.ok .non)=>L|some (.ok (.tup [.int k,_]))=>A_ (2<=k)&&A_ (k<8)|_=>h_
def LW(h:okT d=L):bU [.str d]=eT (uK d)%3/\∀k a,uK d=Z (k,a)->2<=k/\k<8:=by
 unfold okT at h;unfold uK;split at h;·rename_i e;rw[e];exact⟨rfl,λk a z=>by cases z⟩
 · rename_i k a e;rw[e];rw[n_,decide_eq_true_eq,decide_eq_true_eq]at h;refine⟨?_,λb f z=>?_⟩;·show _=Z (Rs.ok (W.tup _));rw[Int.toNat_of_nonneg ()]
   ·cases z;lia
 ·cases h
def G':Str:=b_ " "
def bl2:Str:=b_ "  "
def iG(b p a:Str):Bool:=seq (Zg (b++p++a) G') p&&!((b++p++a).cps.toList.contains 59)
def ī:Str:=b_ ""
def okS(p:Str):Bool:=iG ī p ī&&(iG G' p ī&&(iG bl2 p bl2&&(iG ī p bl2&&(iG bl2 p ī&&A_ (p.length<=200)))))
def Wg(p:Str):Bool:=okT p&&okS p
def Xf:Str%0:=[b_ "x=y",b_ "until",b_ "for A",b_ "under b",b_ "lasts 99999",b_ "SAFE",b_ "",b_ "safe near",b_ "until  7"]
def QT:Str%0:=[b_ "until 17",b_ "under /q",b_ "lasts 4",b_ "for q.r"]
def wn(n:Nat):Int%0:=(y_ n).map λi:Nat=>(i:Int)
def allP:Str%0:=En.map (λh=>b_ "for "++h)++(ù.map (λh=>b_ "under "++h)++((wn 60).map (λi=>b_ "until "++is i)++((wn 30).map (λi=>b_ "lasts "++is i)++([b_ "safe",b_ "near"]++(Xf++QT)))))
def LX:allP.all Wg=L:=by lk
def tS(p:Str)(k:Nat)(s:Str):Bool:=match uK p with|some (j,.str z)=>j==k&&seq z s|_=>h_
def tI(p:Str)(k:Nat)(i:Int):Bool:=match uK p with|some (j,.int z)=>j==k&&z==i|_=>h_
def QU(h:tS d b r=L):uK d=Z (b,.str r):=by
 unfold tS at h;generalize uK d=o at h⊢;rcases o with _|⟨j,a⟩;·cases h
 ·cases a with|str z=>have e:=h;rw[n_]at e;rw[jd e.2,abx e.1]|_=>cases h
def QV(h:tI d b y=L):uK d=Z (b,.int y):=by
 unfold tI at h;generalize uK d=o at h⊢;rcases o with _|⟨j,a⟩;·cases h
 ·cases a with|int z=>have e:=h;rw[n_]at e;rw[abx e.2,abx e.1]|_=>cases h
def QW:(En.all λh=>tS (b_ "for "++h) 2 h)=L:=by lk
def QX:(ù.all λh=>tS (b_ "under "++h) 3 h)=L:=by lk
def QY:((wn 60).all λi=>tI (b_ "until "++is i) 4 i)=L:=by lk
def QZ:((wn 30).all λi=>tI (b_ "lasts "++is i) 5 i)=L:=by lk
def Vc(q:d∈En):uK (b_ "for "++d)=Z (2,.str d):=QU (aX QW q)
def Vd(q:d∈ù):uK (b_ "under "++d)=Z (3,.str d):=QU (aX QX q)
def Ve(q:y∈wn 60):uK (b_ "until "++is y)=Z (4,.int y):=QV (aX QY q)
def Vf(q:y∈wn 30):uK (b_ "lasts "++is y)=Z (5,.int y):=QV (aX QZ q)
def put(a:W%0)(p:Str):W%0:=match uK p with|none=>a|some (k,d)=>a.set k d
def LY(a:W%0)(p:Str):(put a p).length=a.length:=by unfold put;split<;>simp
def uL:∀l:Str%0,é (l.map W.str)=L|[]=>rfl|x::l=>by show(ĩ _&&é _)=L;rw[uL l];rfl
def ER(x:Str)(d e:W)(a b:W%1):Ev:=[Z (.str x),Z d,Z e,U,a,b]
def LZ{b:W%1}(h:okT r=L)(q:u.length=8):∃p,bV (ER d m π (Z (.str r)) b) u=Z (.nx (ER d m π (Z (.str r)) p) (put u r)):=by
 obtain⟨e,j⟩:=LW h;refine⟨Z (eT (uK r)),?_⟩;have n:iP 5 (ae bU 1 (al (Y 4))) (ER d m π (Z (.str r)) b) u=Z (.nx (ER d m π (Z (.str r)) (Z (eT (uK r)))) u):=by unfold iP;rw[dJ bU rfl e];rfl
 show(match iP 5 _ _ u with|some (.nx f g)=>(oIf _ _ MO) f g|o=>o)=_;rw[n];unfold put;match i:uK r with|none=>rfl|some (k,a)=>have:=j k a i;show(if 0<=(k:Int)/\(k:Int)<u.length then Z _ else U)=_;rw[if_pos ⟨by lia,by lia⟩];rfl
def CI{x:Str}{d i:W}:∀(g:Str%0)(f:W%0)(a b:W%1),(∀p∈g,okT p=L)->f.length=8->qU 4 [4,5] bV (g.map W.str) (ER x d i a b) f=Z (.nx (ER x d i U U) (g.foldl put f))|[],f,a,b,_,_=>rfl|p::g,f,a,b,h,m=>by obtain⟨r,e⟩:=LZ (h p on) m;show(match bV (ER x d i _ U) f with|some (.nx j k)=>qU 4 _ bV _ j k|o=>o)=_;rw[e];exact CI g _ _ r (λq n=>h q (pi _ n)) (by rw[LY];exact m)
def Si(d w:Str):Bool:=okS (ď d w)&&(match sZ (ď d w) [.str "="]with|some (.ok (.tup [.str a,.str b,.str c]))=>seq a d&&(seq b (b_ "=")&&seq c w)|_=>h_)&&(Ū (aY [.str d])&&Ū (cy [.str w]))
def xM:(ĵ.all λn=>Ņ.all λw=>Si n w)=L:=by lk
def ő(a w:Str):W%0:=[.str a,.str w,.non,.non,.non,.non,.bl h_,.str "any"]
def L4{h:Str%0}(w:d.length<=100000)(s:r∈ĵ)(y:χ∈Ņ)(u:ZH d (b_ ";")=E)(hq:E.length<=100)(A:E.map (λq=>Zg q G')=ď r χ::h)(H:∀q∈E,q.length<=1000)(D:∀p∈h,okT p=L):aT [.str d]=.tup (h.foldl put (ő r χ))%3:=by
 have n:=aX (p:=(Si r)) (aX xM s) y;unfold Si at n;simp![n_]at n;obtain⟨⟨_,j⟩,P,I⟩:=n;have Q:sZ (ď r χ) [.str "="]=.tup [.str r,.str "=",.str χ]%3:=by
  split at j;·rename_i a b c e;simp![n_]at j;rw[e,jd j.1,jd j.2.1,jd j.2.2]
  ·cases j
 have v:bB 1 [] (eQ (fM (jt) (Y 0) (al (Ú ";")))) (gN 0) U (fM (pO) (Y 0) (al (Ú " "))) [Z (.str d),U,U,U,U,U]=.lst ((ď r χ::h).map W.str)%3:=by
  have k:eQ (fM (jt) (Y 0) (al (Ú ";"))) [Z (.str d),U,U,U,U,U]=E.map W.str%3:=by
   have z:fM (jt) (Y 0) (al (Ú ";")) [Z (.str d),U,U,U,U,U]=.lst (E.map W.str)%3:=by show(if(b_ ";").length≠0/\d.length<=100000/\(ZH d _).length<=100000 then _ else U)=_;rw[if_pos ⟨by decide,w,by rw[u];lia⟩,u]
   unfold eQ;rw[z];rfl
  have e:=gG (À:=[]) (z:=fM (pO) (Y 0) (al (Ú " "))) W.str (λq=>W.str (Zg q G')) k () λq o=>by show(if q.length<=100000 then _ else U)=_;rw[if_pos (by have:=H q o;lia)];rfl
  rw[e,<-A,XS];rfl
 let f:W:=.lst ((ď r χ::h).map W.str);let T3:W:=.tup [.str r,.str "=",.str χ];have c1:(Đ (fB (R è (R Ø (Y 2) (X 1)) (Ú ""))) (Đ (cC (fB (ae aY 1 (al (R Ø (Y 2) (X 0)))))) (cC (fB (ae cy 1 (al (R Ø (Y 2) (X 2)))))))) (ER d f T3 U U)=h_%3:=by unfold Đ;show(Đ _ _) _=_;unfold Đ cC;rw[bf (dJ aY rfl (oG P)),bf (dJ cy rfl (oG I))];rfl
 have i:eQ (Aj (Y 1) (il (X 1)) kg) (ER d f T3 U U)=h.map W.str%3:=by
  have z:Aj (Y 1) (il (X 1)) kg (ER d f T3 U U)=.lst (h.map W.str)%3:=by show Z _=_;congr 3;show(((ď r χ::h).map W.str).drop (min 1 ((ď r χ::h).map W.str).length)).take (((ď r χ::h).map W.str).length-min 1 ((ď r χ::h).map W.str).length)=_;rw[Nat.min_eq_left ∅,F_,List.drop_succ_cons,List.drop_zero,abj ∅]
  unfold eQ;rw[z];rfl
 have m:DD 4 [4,5] (eQ (Aj (Y 1) (il (X 1)) kg)) bV (ER d f T3 U U) (ő r χ)=Z (.nx (ER d f T3 U U) (h.foldl put (ő r χ))):=by unfold DD;rw[i];show(if é _=L then _ else U)=_;rw[if_pos (uL h)];exact CI h _ U U D rfl
 refine mO ?_;show ef [Z _,U,U,U,U,U]=_;unfold ef;rw[ax (cD ((rfl))),ax (bY (a:=[Z _,Z f,U,U,U,U]) v rfl),ax (bY (a:=ER d f T3 U U) Q rfl),ax (cD c1)];unfold EH;rw[show(aP _ _) _=ő r χ%3 from rfl];show(match(hU _ _) (ER d f T3 U U) _ with|some (.nx a' b')=>Z _|some (.rt g)=>Z _|none=>U)=_;unfold hU;rw[m];rfl
def jQ(a b:Str):(a++b).cps.toList=a.cps.toList++b.cps.toList:=Array.toList_append
def pb(b a:Str):Str->Str->Str%0->Str%0|pre,x,[]=>[pre++x++ī]|pre,x,y::l=>(pre++x++b)::pb b a a y l
def xN(b a:Str):∀(l:Str%0)(pre x:Str),∃q r,pb b a pre x l=q::r|[],_,_=>⟨_,_,rfl⟩|_::_,_,_=>⟨_,_,rfl⟩
def JS:Str%0->Nat%0|[]=>[]|q::r=>J [59] q.cps.toList (r.map λs=>s.cps.toList)
def CL(a x y:Str)(l:Str%0):ſ a (x::y::l)=x++a++ſ a (y::l):=by show aew a _=x++a++aew a _;rw[adq,adq];rfl
def Q0{d b a:Str}(g:d.cps.toList=b.cps.toList++59::a.cps.toList):∀(l:Str%0)(pre x:Str),pre.cps.toList++(ſ d (x::l)).cps.toList=JS (pb b a pre x l)|[],pre,x=>by show pre.cps.toList++x.cps.toList=(pre++x++ī).cps.toList;rw[jQ,jQ];show _=_++[];simp|y::l,pre,x=>by have f:=Q0 g l a y;obtain⟨q,r,e⟩:=xN b a l a y;rw[CL,jQ,jQ,g];show _=JS ((pre++x++b)::pb b a a y l);rw[e]at f⊢;show _=(pre++x++b).cps.toList++([59]++J _ q.cps.toList _);rw[show J _ q.cps.toList _=JS (q::r)from rfl,<-f,jQ,jQ];simp
def Ű(b a p:Str):Bool:=iG ī p b&&(iG ī p ī&&(iG a p b&&iG a p ī))
def oK(h:iG d r χ=L):Zg (d++r++χ) G'=r/\59∉(d++r++χ).cps.toList:=by unfold iG at h;rw[n_]at h;exact⟨jd h.1,by simpa using h.2⟩
def CM{b a:Str}:∀(l:Str%0)(pre x:Str),(iG pre x b=L/\iG pre x ī=L)->(∀p∈l,Ű b a p=L)->(pb b a pre x l).map (λq=>Zg q G')=x::l/\∀q∈pb b a pre x l,59∉q.cps.toList
 |[],pre,x,f,_=>by obtain⟨h,g⟩:=oK f.2;exact⟨by show[Zg _ G']=[x];rw[h],λq d=>by rw[S_.mp d];exact g⟩|y::l,pre,x,f,i=>by
  obtain⟨h,g⟩:=oK f.1;have e:=i y on;unfold Ű at e;simp![n_]at e;obtain⟨m,k⟩:=CM l a y ⟨e.2.2.1,e.2.2.2⟩ λp j=>i p (pi _ j);refine⟨by show Zg _ G'::(pb b a a y l).map _=_;rw[h,m],λq d=>?_⟩;rcases p_.mp d with rfl|d;·exact g
  ·exact k q d
def xO{d a:Str}(i:d.length<=2)(g:a.length<=2):∀(l:Str%0)(pre x:Str),pre.length<=2->x.length<=200->(∀p∈l,p.length<=200)->(pb d a pre x l).length=l.length+1/\∀q∈pb d a pre x l,q.length<=300
 |[],pre,x,e,h,_=>⟨rfl,λq b=>by
  rw[S_.mp b,je,je];have:ī.length=0:=by decide
  lia⟩|y::l,pre,x,e,h,f=>by
  obtain⟨k,j⟩:=xO i g l a y g (f y on) λp e=>f p (pi _ e);refine⟨by show(pb d a a y l).length+1=_;rw[k];rfl,λq b=>?_⟩;rcases p_.mp b with rfl|b;·rw[je,je];lia
  ·exact j q b
def xP(a:Str)(d:a.length<=10):∀(l:Str%0)(x:Str),(∀p∈l,p.length<=200)->(l.foldl (λt y=>t++a++y) x).length<=x.length+l.length*210|[],x,_=>by simp|y::l,x,h=>by have b:=xP a d l (x++a++y) λp e=>h p (pi _ e);have f:=h y on;rw[je,je]at b;show(l.foldl _ (x++a++y)).length<=_;rw[Xu];lia
def oM{b w:Str}(D:d.cps.toList=r.cps.toList++59::χ.cps.toList)(g:d.length<=10)(Q:r.length<=2)(P:χ.length<=2)(i:b∈ĵ)(A:w∈Ņ)(f:Ű r χ (ď b w)=L)(j:(ď b w).length<=200)(I:∀p∈E,Ű r χ p=L)(n:∀p∈E,p.length<=200)(hn:E.length<=50)(H:∀p∈E,okT p=L):aT [.str (ſ d (ď b w::E))]=.tup (E.foldl put (ő b w))%3:=by
 obtain⟨q,a,e⟩:=xN r χ E ī _;unfold Ű at f;simp![n_]at f;obtain⟨v,u⟩:=CM E ī _ ⟨f.1,f.2.1⟩ I;obtain⟨m,k⟩:=xO Q P E ī _ #v[] j n;have o:=Q0 D E ī (ď b w);rw[e]at o v u m k;have y:(ſ d (ď b w::E)).cps.toList=J (b_ ";").cps.toList q.cps.toList (a.map λs=>s.cps.toList):=by have z:ī.cps.toList=[]:=rfl;exact o
 refine L4 ?_ i A (wj (j:=[]) (rfl) (by lk) u y) (by rw[m];lia) v (λs h=>by have:=k s h;lia) H;rw[oJ];have:=xP d g E (ď b w) n;lia
structure Gw(nm w:Str)(h p:Str%1)(u l:Int%1)(S:Bool)(R:Str):Prop where
 nm:nm∈ĵ
 w:w∈Ņ
 h:∀x,h=Z x->x∈En
 p:∀x,p=Z x->x∈ù
 u:∀i,u=Z i->0<=i/\i<60l:∀i,l=Z i->0<=i/\i<30r:R=b_ "any"\/R=b_ "near"
def Q1(g:Gv d r m π Η Ω H χ):∃h p i j,Gw d r h p i j H χ/\Ę d r m π Η Ω H χ=gv d r h p i j H χ:=by
 have y:∃h,m=eS h/\∀x,h=Z x->x∈En:=by
  rcases g.hh with rfl|⟨n,a,rfl⟩;·exact⟨U,rfl,λx e=>by cases e⟩
  ·exact⟨Z n,rfl,λx e=>by cases e;exact a⟩
 have w:∃h,π=eS h/\∀x,h=Z x->x∈ù:=by
  rcases g.pp with rfl|⟨n,a,rfl⟩;·exact⟨U,rfl,λx e=>by cases e⟩
  ·exact⟨Z n,rfl,λx e=>by cases e;exact a⟩
 have v:∃h,Η=eO h/\∀x,h=Z x->0<=x/\x<60:=by
  rcases g.u with rfl|⟨n,f,b,rfl⟩;·exact⟨U,rfl,λx e=>by cases e⟩
  ·exact⟨Z n,rfl,λx e=>by cases e;exact⟨f,b⟩⟩
 have u:∃h,Ω=eO h/\∀x,h=Z x->0<=x/\x<30:=by
  rcases g.l with rfl|⟨n,f,b,rfl⟩;·exact⟨U,rfl,λx e=>by cases e⟩
  ·exact⟨Z n,rfl,λx e=>by cases e;exact⟨f,b⟩⟩
 obtain⟨h,rfl,s⟩:=y;obtain⟨p,rfl,q⟩:=w;obtain⟨Η,rfl,o⟩:=v;obtain⟨Ω,rfl,k⟩:=u;exact⟨h,p,Η,Ω,⟨g.nm,g.w,s,q,o,k,g.r⟩,rfl⟩
def rT:(ĵ.all λx=>A_ (x.length<=50))=L/\(Ņ.all λx=>A_ (x.length<=50))=L/\(En.all λx=>A_ (x.length<=50))=L/\(ù.all λx=>A_ (x.length<=50))=L:=⟨rfl,rfl,rfl,rfl⟩
def CN:(ĵ.all λx=>XE (.str x))=L/\(Ņ.all λx=>XE (.str x))=L/\(En.all λx=>XE (.str x))=L/\(ù.all λx=>XE (.str x))=L:=⟨by lk,by lk,by lk,by lk⟩
def Vg{p:Str%1}(g:Gw d r Á p Ι Φ H χ):Vv d r Á p Ι Φ χ:=⟨by simpa using aX rT.1 g.nm,by simpa using aX rT.2.1 g.w,λx e=>by simpa using aX rT.2.2.1 (g.h x e),λx e=>by simpa using aX rT.2.2.2 (g.p x e),λi e=>by have:=g.u i e;lia,λi e=>by have:=g.l i e;lia⟩
def Vh(o:Int%1):Ē 0 (eO o):=by cases o;exact Ib;exact ğ
def Q3(a b:Int%1):Yk (dj (eO a)) (dj (eO b))=A_ (a=b):=by cases a<;>cases b<;>simp[eO,dj,Yk];rw[Yt];simp
def PL(h p:Str%1)(u l:Int%1)(S:Bool)(R:Str):Str%0:=(oS "for " h).toList++((oS "under " p).toList++((oI "until " u).toList++((oI "lasts " l).toList++((oB "safe" S).toList++((oB "near" (mr R)).toList++[])))))
def Q4{p:Str%1}:ſ (b_ "; ") (ď d r::PL Á p Ι Φ H χ)=T d r Á p Ι Φ H χ:=by rw[oJ];unfold PL;rw[j4,j4,j4,j4,j4,j4];rfl
def m7(d:0<=y)(a:y<b):y∈wn b:=by exact L_.mpr ⟨y.toNat,X5.mpr (),by lia⟩
def Q5{p:Str%1}(g:Gw d r Á p Ι Φ H χ):∀x∈PL Á p Ι Φ H χ,x∈allP:=by
 intro x a;simp![PL,XD,Option.mem_toList,J_,or_false]at a;rcases a with e|e|e|e|e|e;·refine R_ _ ?_;cases Á with|none=>cases e|some y=>cases e;exact L_.mpr ⟨y,g.h y rfl,rfl⟩
 ·refine q_ _ (R_ _ ?_);cases p with|none=>cases e|some y=>cases e;exact L_.mpr ⟨y,g.p y rfl,rfl⟩
 ·refine q_ _ (q_ _ (R_ _ ?_));cases Ι with|none=>cases e|some y=>cases e;exact L_.mpr ⟨y,m7 (g.u y rfl).1 (g.u y rfl).2,rfl⟩
 ·refine q_ _ (q_ _ (q_ _ (R_ _ ?_)));cases Φ with|none=>cases e|some y=>cases e;exact L_.mpr ⟨y,m7 (g.l y rfl).1 (g.l y rfl).2,rfl⟩
 · refine q_ _ (q_ _ (q_ _ (q_ _ (R_ _ ?_))));unfold oB at e;split at e;·cases e;simp
   ·cases e
 · refine q_ _ (q_ _ (q_ _ (q_ _ (R_ _ ?_))));unfold oB at e;split at e;·cases e;simp
   ·cases e
structure Ptk(x:Str):Prop where
 t:okT x=L
 q1:Ű ī G' x=L
 q2:Ű ī ī x=L
 q3:Ű bl2 bl2 x=L
 l:x.length<=200n:59∉x.cps.toList
def Q6(h:okS d=L):Ű ī G' d=L/\Ű ī ī d=L/\Ű bl2 bl2 d=L/\d.length<=200/\59∉d.cps.toList:=by unfold okS at h;simp![n_,decide_eq_true_eq]at h;obtain⟨a,b,j,i,g,f⟩:=h;unfold Ű;simp![n_];refine⟨⟨a,a,b,b⟩,⟨a,a,a,a⟩,⟨i,a,j,g⟩,f,?_⟩;have:=(oK a).2;rw[jQ,jQ]at this;intro e;exact this (R_ _ (q_ _ e))
def ptk(a:d∈allP):Ptk d:=by have h:=aX LX a;unfold Wg at h;rw[n_]at h;obtain⟨i,g,f,e,b⟩:=Q6 h.2;exact⟨h.1,i,g,f,e,b⟩
def L5(b:d∈ĵ)(e:r∈Ņ):okS (ď d r)=L:=by have a:=aX (aX xM b) e;unfold Si at a;simp![n_]at a;exact a.1.1
def L6(e:d∈ĵ)(f:r∈Ņ)(b:∀x∈E,x∈allP)(g:E.length<=50):aT [.str (ſ (b_ "; ") (ď d r::E))]=.tup (E.foldl put (ő d r))%3/\aT [.str (ſ (b_ ";") (ď d r::E))]=.tup (E.foldl put (ő d r))%3/\aT [.str (ſ (b_ "  ;  ") (ď d r::E))]=.tup (E.foldl put (ő d r))%3:=by obtain⟨f1,R,i,h,j⟩:=Q6 (L5 e f);exact⟨oM (rfl) #v[] #v[] #v[] e f f1 h (λx a=>(ptk (b x a)).q1) (λx a=>(ptk (b x a)).l) g λx a=>(ptk (b x a)).t,oM (rfl) #v[] #v[] #v[] e f R h (λx a=>(ptk (b x a)).q2) (λx a=>(ptk (b x a)).l) g λx a=>(ptk (b x a)).t,oM (rfl) #v[] #v[] #v[] e f i h (λx a=>(ptk (b x a)).q3) (λx a=>(ptk (b x a)).l) g λx a=>(ptk (b x a)).t⟩
def Q7{p:Str%1}:(PL Á p Ι Φ H d).length<=6:=by have f1:=qr (oS "for " Á);have a:=qr (oS "under " p);have g:=qr (oI "until " Ι);have f:=qr (oI "lasts " Φ);have e:=qr (oB "safe" H);have b:=qr (oB "near" (mr d));simp[PL];lia
def gs(o:Str%1)(c:W):W:=match o with|none=>c|some x=>.str x
def gi(o:Int%1)(c:W):W:=match o with|none=>c|some x=>.int x
def gb(o:Bool)(c d:W):W:=if o then d else c
def Xg(j:∀x,Á=Z x->x∈En)(h:Str%0)(a b c d e f g i:W):((oS "for " Á).toList++h).foldl put [a,b,c,d,e,f,g,i]=h.foldl put [a,b,gs Á c,d,e,f,g,i]:=by cases Á with|none=>rfl|some x=>show h.foldl put _=_;unfold put;rw[Vc (j x rfl)];rfl
def Xh(j:∀x,Á=Z x->x∈ù)(h:Str%0)(a b c d e f g i:W):((oS "under " Á).toList++h).foldl put [a,b,c,d,e,f,g,i]=h.foldl put [a,b,c,gs Á d,e,f,g,i]:=by cases Á with|none=>rfl|some x=>show h.foldl put _=_;unfold put;rw[Vd (j x rfl)];rfl
def Xi(j:∀x,Ι=Z x->0<=x/\x<60)(h:Str%0)(a b c d e f g i:W):((oI "until " Ι).toList++h).foldl put [a,b,c,d,e,f,g,i]=h.foldl put [a,b,c,d,gi Ι e,f,g,i]:=by cases Ι with|none=>rfl|some x=>show h.foldl put _=_;unfold put;rw[Ve (m7 (j x rfl).1 (j x rfl).2)];rfl
def Xj(j:∀x,Ι=Z x->0<=x/\x<30)(h:Str%0)(a b c d e f g i:W):((oI "lasts " Ι).toList++h).foldl put [a,b,c,d,e,f,g,i]=h.foldl put [a,b,c,d,e,gi Ι f,g,i]:=by cases Ι with|none=>rfl|some x=>show h.foldl put _=_;unfold put;rw[Vf (m7 (j x rfl).1 (j x rfl).2)];rfl
def Xk(h:Str%0)(a b c d e f g i:W):((oB "safe" H).toList++h).foldl put [a,b,c,d,e,f,g,i]=h.foldl put [a,b,c,d,e,f,gb H g (.bl L),i]:=by cases H with|false=>rfl|true=>show h.foldl put _=_;unfold put;rfl
def Xl(k:Bool)(h:Str%0)(a b c d e f g i:W):((oB "near" k).toList++h).foldl put [a,b,c,d,e,f,g,i]=h.foldl put [a,b,c,d,e,f,g,gb k i (.str "near")]:=by cases k with|false=>rfl|true=>show h.foldl put _=_;unfold put;rfl
def Q8{p:Str%1}(g:Gw d r Á p Ι Φ H χ)(a b c h e f k i:W):(PL Á p Ι Φ H χ).foldl put [a,b,c,h,e,f,k,i]=[a,b,gs Á c,gs p h,gi Ι e,gi Φ f,gb H k (.bl L),gb (mr χ) i (.str "near")]:=by unfold PL;rw[Xg g.h,Xh g.p,Xi g.u,Xj g.l,Xk,Xl];rfl
def Q9{p:Str%1}(g:Gw d r Á p Ι Φ H χ):gb (mr χ) (.str "any") (.str "near")=.str χ:=by rcases g.r with e|e<;>rw[e]<;>rfl
def Il(o:Str%1):gs o .non=eS o:=rfl
def Im(o:Int%1):gi o .non=eO o:=rfl
def Xm(S:Bool):gb S (.bl h_) (.bl L)=.bl S:=by cases S<;>rfl
def Vi{p:Str%1}(g:Gw d r Á p Ι Φ H χ):W.tup ((PL Á p Ι Φ H χ).foldl put (ő d r))=gv d r Á p Ι Φ H χ:=by unfold ő;rw[Q8 g,Q9 g,Il,Il,Im,Im,Xm]
def L7(i:Int):aF [.int i]=bo (A_ (0<=i)&&A_ (i<=9999)):=by
 have e:aS [.int i,.int 0,.int 9999]=bo (A_ (0<=i)&&A_ (i<=9999)):=by
  by_cases a:0<=i;·simp[aS,bL,bc,aM,sq,bg,aL,c9,à,Đ,cC,fB,ĉ,Y,f1,R,lB,j9,gh,tz,ń,a]
  ·simp[aS,bL,bc,aM,sq,bg,aL,c9,à,Đ,cC,fB,ĉ,Y,f1,R,lB,j9,gh,tz,ń,a]
 have b:aZ [.int i]=bo (A_ (0<=i)&&A_ (i<=9999)):=by simp[aZ,bL,eU,aL,c9,à,ae,aP,dg,Y,fC,e]
 simp[aF,bL,bi,aL,c9,à,ĉ,ae,aP,dg,Y,fC,R,İ,Ė,b]
def Ra{p:Str%1}(g:Gw d r Á p Ι Φ H χ):aT [.str (T d r Á p Ι Φ H χ)]=gv d r Á p Ι Φ H χ%3:=by have:=(L6 g.nm g.w (Q5 g) (Xx Q7 ())).1;rw[Q4,Vi g]at this;exact this
abbrev ntn(f w a:Str)(g:Bool)(d:Str)(e:W)(S:Bool)(R:Str)(b:Int):W:=.tup [.str f,.str w,.str a,.bl g,.str d,e,.bl S,.str R,.int b,.int b]
def Vj(h:Ē b m)(a:b<=64):Ŕ m m=.bl h_%3:=Cr (h.okP a) h.p
def Io(u l:W)(a:Int):W:=match l with|.int i=>.int (if 9999<a+i then 9999 else a+i)|_=>u
def Rb(g:Gv d r m π Η Ω H χ):jI [Ę d r m π Η Ω H χ,.int y]=Io Η Ω y%3:=by
 rcases g.l with rfl|⟨i,i0,a,rfl⟩;·simp[jI,bL,jH,aM,sq,bg,aL,c9,à,fB,ĉ,Y,fC,R,Ø,Č,Ė,Io]
 ·simp[jI,bL,jH,aM,sq,bg,aL,c9,à,fB,ĉ,aP,dg,Y,fC,R,Ø,Č,ì,Ė,eD,R6,Io]
def Rc(g:Gv d r m π Η Ω H χ)(a:0<=y):Mo (Io Η Ω y):=by
 rcases g.l with rfl|⟨i,i0,b,rfl⟩;·exact g.mu
 ·refine .inr ⟨_,?_,?_,rfl⟩<;>split<;>lia
def Ip{h p:Str}{O:W}{e f:Str}{i:Bool}(n:u∈iK æ)(a:Ak h p O)(g:Gv d r m π Η Ω H χ)(k:0<=y)(j:y<=9999)(b:Wt u h p O d r m π Η Ω H χ Ï e f i .non):eZ [.tup u,ĕ Ï h p O,Ę d r m π Η Ω H χ,.int y]=ntn d r e i f (Io Η Ω y) H χ y%3:=by simp[eZ,gJ,rB,aM,sq,bg,aL,eC,c9,à,fB,ĉ,ae,ay,aP,dg,Y,fC,R,Ø,Č,ii,sS,(QK (gH n)),(U8 (Cv (H:=Ï) a)),(Wd (Cz g)),(za (oH k j)),b.why,b.hf,b.ix,b.pf,(Rb (y:=y) g)]
namespace J
def xQ{b:ñ}(d:Ξ ε=H%3)(a:b ε=Ï%3):Đ Ξ b ε=(H||Ï)%3:=by
 unfold Đ;rw[d];cases H;·exact a
 ·rfl
def L7(i:Int):aZ [.int i]=bo (A_ (0<=i)&&A_ (i<=9999)):=by
 have e:aS [.int i,.int 0,.int 9999]=bo (A_ (0<=i)&&A_ (i<=9999)):=by
  by_cases a:0<=i;·simp[aS,bL,bc,aM,sq,bg,aL,c9,à,Đ,cC,fB,ĉ,Y,f1,R,lB,j9,gh,tz,ń,a]
  ·simp[aS,bL,bc,aM,sq,bg,aL,c9,à,Đ,cC,fB,ĉ,Y,f1,R,lB,j9,gh,tz,ń,a]
 simp[aZ,bL,eU,aL,c9,à,ae,aP,dg,Y,fC,e]
def oH(b:0<=y)(a:y<=9999):aZ [.int y]=bo L:=by rw[L7];simp[b,a]
def rR(h:d=b_ "any"\/d=b_ "near"):eV [.str d]=bo L/\∃r,è (.str d) (.str "any")=bo r/\è (.str d) (.str "near")=bo (!r):=by
 rcases h with rfl|rfl;·exact⟨rfl,L,rfl,rfl⟩
 ·exact⟨rfl,h_,rfl,rfl⟩
structure aj where
 nm:Str
 w:Str
 house:Str
 ex:Bool
 path:Str
 ends:Int%1
 S:Bool
 R:Str
 md:Int
 us:Int
deriving DecidableEq
def ä(n:aj):W:=.tup [.str n.nm,.str n.w,.str n.house,.bl n.ex,.str n.path,eO n.ends,.bl n.S,.str n.R,.int n.md,.int n.us]
def ek(n:aj):W:=.tup [.str n.nm,.str n.house,.str n.path]
def key(n:aj):Str%0:=[n.nm,n.house,n.path]
structure fm(n:aj):Prop where
 nm:n.nm∈ĵ
 w:n.w∈Ņ
 house:n.house∈En
 path:n.path∈ù
 R:n.R=b_ "any"\/n.R=b_ "near"ends:∀i,n.ends=Z i->0<=i/\i<=9999mk0:0<=n.md
 mu:n.md<=n.us
 us:n.us<=200
variable{Α:aj}
def Vk(g:fm Α):Mo (eO Α.ends):=by cases h:Α.ends with|none=>exact .inl rfl|some i=>exact .inr ⟨i,(g.ends i h).1,by have:=(g.ends i h).2;lia,rfl⟩
def Re(g:fm Α):gq [ä Α]=bo L:=by have a:bQ [ä Α,.int 10]=bo L:=rfl;unfold ä at a⊢;simp[gq,bL,k8,aM,sq,bg,aL,c9,à,Đ,cC,fB,ĉ,ae,aP,dg,Y,fC,f1,R,Ø,Č,jk,ì,j9,gh,a,(oH g.mk0 (by have:=g.mu;have:=g.us;lia)),(oH (Int.le_trans g.mk0 g.mu) (by have:=g.us;lia)),Wa g.nm,Wb g.w,QJ g.house,U7 g.path,(Cu (Vk g)),(rR g.R).1,pK,kN,ń,g.mu]
def ü:Str%0:=ĵ++(Ņ++(En++(ù++[b_ "any",b_ "near"])))
def CN:(ü.all λx=>XE (.str x))=L:=by lk
def oN(h:d∈ü):XE (.str d)=L:=aX CN h
def sRx(g:fm Α):Α.R∈ü:=by unfold ü;rcases g.R with h|h<;>rw[h]<;>simp
def uM(g:fm Α):Ē 1 (ä Α):=by
 refine oE λd a=>?_;simp![p_,J_,or_false]at a;rcases a with rfl|rfl|rfl|rfl|rfl|rfl|rfl|rfl|rfl|rfl;·exact jP (oN (by simp[ü,g.nm]))
 ·exact jP (oN (by simp[ü,g.w]))
 ·exact jP (oN (by simp[ü,g.house]))
 ·exact Š
 ·exact jP (oN (by simp[ü,g.path]))
 ·exact Vh _
 ·exact Š
 ·exact jP (oN (sRx g))
 ·exact ğ
 ·exact ğ
def zc(g:fm Α):Ē 1 (ek Α):=by
 refine oE λd a=>?_;simp![p_,J_,or_false]at a;rcases a with rfl|rfl|rfl;·exact jP (oN (by simp[ü,g.nm]))
 ·exact jP (oN (by simp[ü,g.house]))
 ·exact jP (oN (by simp[ü,g.path]))
def Iq(a b:aj):Yk (dj (ek a)) (dj (ek b))=A_ (key a=key b):=by rw[Yt];simp[ek,key,dj,ï,Yk,Zu]
def L8(a b:aj):Yk (dj (ä a)) (dj (ä b))=A_ (a=b):=by rw[Yt];have e:=Q3 a.ends b.ends;cases a;cases b;simp[ä,dj,ï,Yk,Zu,e]
def L9{b:aj}(g:fm Α)(f:fm b):è (ek Α) (ek b)=bo (A_ (key Α=key b))/\Ŕ (ek Α) (ek b)=bo (!A_ (key Α=key b)):=by
 have e:=(zc g).okP ();have d:=(zc f).okP ();have a:=Iq Α b;have h:Ÿ (ek Α) (ek b)=U:=rfl;constructor;·unfold è;rw[e,d,a];rfl
 ·unfold Ŕ;rw[e,d,a];rfl
def Ď(n:aj)(a:Int):Bool:=match n.ends with|none=>h_|some i=>A_ (i<=a)
def ej(a:aj%0):W:=.tup (a.map ä)
structure ě(js:aj%0):Prop where
 g:∀n∈js,fm n
 s:∀i(h:i+1<js.length),js[i].md<=js[i+1].md
 k:(js.map key).Nodup
 l:js.length<=20
def xR{a:Type}{o:Rs Q%1}{k:Q->Rs a%1}(h:o=Ò%3):à o k=k Ò:=by rw[h];rfl
def rV:∀(n:Nat)(lo:Int),rng lo n=(y_ n).map λi:Nat=>W.int (lo+(i:Int))
 |0,lo=>rfl|n+1,lo=>by
  rw[adb];show W.int lo::rng _ n=_;rw[rV n _];simp![F_,XS];congr 1;·simp
  ·congr 1;funext i;congr 1;lia
def CO{f g:kP}{a:Ev}{b:W%0}(h:f ε u=Z (.nx a b)):hU f g ε u=g a b:=by unfold hU;rw[h]
def wo(h:ε[b]?=Z (Z (.lst u))):eQ (Y b) ε=u%3:=by unfold eQ Y;rw[h];rfl
variable{i:aj%0}
def gI(h:ε[b]?=Z (Z (ej i))):eQ (Y b) ε=i.map ä%3:=by unfold eQ Y;rw[h];rfl
def CP(b:∀o∈i,fm o):Ē 2 (.lst (i.map ä)):=mG λd e=>by obtain⟨x,a,rfl⟩:=L_.mp e;exact uM (b x a)
def Vl(b:∀o∈i,fm o):Ē 2 (ej i):=oE λd e=>by obtain⟨x,a,rfl⟩:=L_.mp e;exact uM (b x a)
def nil_eq(b:∀o∈i,fm o):è (.lst (i.map ä)) (.lst [])=bo i.isEmpty:=by cases i with|nil=>lk|cons o rest=>have a:okP (.lst [])=L:=rfl;unfold è;rw[show Ÿ _ _=U from rfl,((CP b).okP ()),a];simp[dj,ï,Yk,Zu]
def uN:∀l:Int%0,é (l.map W.int)=L|[]=>rfl|i::l=>by show(ĩ _&&é _)=L;rw[uN l];rfl
def CQ(a b:Int):dv (.int a) (.int b)=.int (a+b)%3:=rfl
structure JI(B:Nat)(js:aj%0)(now:Int):Prop where
 g:∀n∈js,fm n
 s:js.Pairwise λa b=>a.md<=b.md
 k:(js.map key).Nodup
 l:js.length<=B
 n0:0<=now
 n1:now<=3*B
 m:∀n∈js,n.md<=now
 u:∀n∈js,n.us<=now+4
def JI.keep(J:JI b i y)(e:0<=Ã)(d:Ã<4):JI (b+1) i (y+Ã):=⟨J.g,J.s,J.k,by have:=J.l;lia,by have:=J.n0;lia,by have:=J.n1;lia,λn a=>by have:=J.m n a;lia,λn a=>by have:=J.u n a;lia⟩
def JI.add(J:JI b i y)(u:0<=Ã)(s:Ã<4)(g:fm Α)(p:Α.us<=y+Ã+4)(n:Α.md=y+Ã)(r:i.filter (λo=>A_ (key o=key Α))=[]):JI (b+1) (i++[Α]) (y+Ã):=by
 have q:∀o∈i,key o≠key Α:=λo k e=>by have:o∈i.filter (λo=>A_ (key o=key Α)):=XB.mpr ⟨k,by simp[e]⟩;rw[r]at this;cases this
 refine⟨λx f=>?_,?_,?_,by have:=J.l;simp;lia,by have:=J.n0;lia,by have:=J.n1;lia,λx f=>?_,λx f=>?_⟩
 · rcases XD.mp f with h|h;·exact J.g x h
   ·rw[S_.mp h];exact g
 ·refine adI.mpr ⟨J.s,aa7 ..,λa m d j=>?_⟩;rw[S_.mp j,n];have:=J.m a m;lia
 ·rw[YE];refine Zj.mpr ⟨J.k,by simp,λa m d j e=>?_⟩;obtain⟨o,k,rfl⟩:=L_.mp m;simp![F_,ab1,S_]at j;exact q o k (e.trans j)
 · rcases XD.mp f with h|h;·have:=J.m x h;lia
   ·rw[S_.mp h,n];lia
 · rcases XD.mp f with h|h;·have:=J.u x h;lia
   ·rw[S_.mp h];exact p
def JI.jar(J:JI b i y)(d:b<=20):ě i:=⟨J.g,λa h=>ZF.mp J.s a _ () h (),J.k,by have:=J.l;lia⟩
def jb(b:Int%0)(z m a:Int):Ev:=[Z (.scr b),Z (.int z),Z (.int m),U,Z (.int a),U,U,U,U,U,U,U,U,U,U,U]
def cJ:ñ:=(fB (R è (cu [("_law_note",15)] (eQ (Y 3)) (Z (fB (R è (ii (cL (R Ø (Y 0) (X 0)) (R Ø (Y 0) (X 2)) (R Ø (Y 0) (X 4)))) (ii (cL (R Ø (Y 1) (X 0)) (R Ø (Y 1) (X 2)) (R Ø (Y 1) (X 4))))))) (Y 0)) (jk dg)))
def Vm(d:∀o∈i,fm o)(g:fm Α)(j:i.length<=20)(f:ε[3]?=Z (Z (.lst (i.map ä))))(b:ε[15]?=Z (Z (ä Α))):cJ ε=Z (.ok (i.filter (λo=>A_ (key o=key Α))).isEmpty):=by
 have e:Hq [("_law_note",15)] ε=[U,Z (ä Α)]:=by simp[Hq,b]
 have h:=gF (Ξ:=(fB (R è (ii (cL (R Ø (Y 0) (X 0)) (R Ø (Y 0) (X 2)) (R Ø (Y 0) (X 4)))) (ii (cL (R Ø (Y 1) (X 0)) (R Ø (Y 1) (X 2)) (R Ø (Y 1) (X 4))))))) (z:=Y 0) ä _ ä (wo f) () λo a=>⟨by rw[e];exact bf ((bq rfl rfl).trans (L9 (d o a) g).1),rfl⟩;exact bf ((bq h rfl).trans (nil_eq λo a=>d o (XB.mp a).1))
def CS(e:Int%0)(g:e.length<=63)(z m d k:Int){B:Nat}{p:aj%0}(J:JI B p d)(hB:B<=10):∃u v q,bH ((jb e z m d).set 5 (Z (.int k))) (p.map ä)=Z (.nx u (v.map ä))/\fgt [5,6,7,8,9,10,11,12,13,14,15] u=jb e z m q/\JI (B+1) v q:=by
 obtain⟨b,hh⟩:∃b,b=z+1+14*k:=⟨_,rfl⟩;obtain⟨f,a0,b0,e0⟩:=aW e g b 4 ();obtain⟨d1,a1,b1,e1⟩:=aW e g (b+1) 4 ();obtain⟨d2,a2,b2,e2⟩:=aW e g (b+2) 3 ();obtain⟨H,a4,b4,e4⟩:=aW e g (b+4) 2 ();obtain⟨d6,a6,b6,e6⟩:=aW e g (b+6) 2 ();obtain⟨d7,a7,b7,e7⟩:=aW e g (b+7) 60 ();obtain⟨d8,a8,b8,e8⟩:=aW e g (b+8) 2 ();obtain⟨d9,a9,b9,e9⟩:=aW e g (b+9) 3 ();obtain⟨h,c',b',a'⟩:=aW e g (b+10) 5 ();obtain⟨n3,Q,e3⟩:=oF e g (b+3);obtain⟨p5,I,e5⟩:=wm e g (b+5);obtain⟨x1,m1,i1⟩:=jh (u:=[.str "n",.str "m-1",.str "safe-a",.str "N_2"]) a1 b1;obtain⟨x2,m2,i2⟩:=jh (u:=[.str "5",.str "",.str "a!b~"]) a2 b2;obtain⟨x6,m6,i6⟩:=jh (u:=[.non,.int d7]) a6 b6;obtain⟨x9,m9,i9⟩:=jh (u:=[.str "any",.str "any",.str "near"]) a9 b9;have g1:∃s∈ĵ,x1=.str s:=by simp![p_,J_,or_false]at m1;rcases m1 with rfl|rfl|rfl|rfl<;>exact⟨_,by simp[ĵ],rfl⟩
 have g2:∃s∈Ņ,x2=.str s:=by simp![p_,J_,or_false]at m2;rcases m2 with rfl|rfl|rfl<;>exact⟨_,by simp[Ņ],rfl⟩
 have g6:∃o:Int%1,(∀i,o=Z i->0<=i/\i<=9999)/\x6=eO o:=by
  simp![p_,J_,or_false]at m6;rcases m6 with rfl|rfl;·exact⟨U,by simp,rfl⟩
  ·exact⟨Z d7,λi hi=>by cases hi;lia,rfl⟩
 have g9:∃a,(a=b_ "any"\/a=b_ "near")/\x9=.str a:=by
  simp![p_,J_,or_false]at m9;rcases m9 with rfl|rfl|rfl;·exact⟨_,.inl rfl,rfl⟩
  ·exact⟨_,.inl rfl,rfl⟩
  ·exact⟨_,.inr rfl,rfl⟩
 obtain⟨s,P,rfl⟩:=g1;obtain⟨w,hw,rfl⟩:=g2;obtain⟨o,ho,rfl⟩:=g6;obtain⟨a,hR,rfl⟩:=g9;let n:aj:=⟨s,w,n3,H==0,p5,o,d8==0,a,d+f,d+f+h⟩;have q0:=J.n0;have q1:=J.n1;have gn:fm n:=⟨P,hw,me Q,I,hR,ho,by show 0<=d+f;lia,by show d+f<=d+f+h;lia,by show d+f+h<=200;lia⟩;let j:Ev:=[Z (.scr e),Z (.int z),Z (.int m),U,Z (.int (d+f)),Z (.int k),Z (.int b),Z (.str s),Z (.str w),Z (eO o),Z (.bl (H==0)),Z (.tup [.str s,.str w,.str n3,.bl (H==0),.str p5]),Z (.str a),Z (.bl (d8==0)),Z (.int (d+f+h)),Z (ä n)];have D:=Vm (ε:=j.set 3 (Z (.lst (p.map ä)))) J.g gn (by have:=J.l;lia) rfl rfl;have A:lI (.int 14) (.int k)=.int (14*k)%3:=qp (.inl ());have y:bH ((jb e z m d).set 5 (Z (.int k))) (p.map ä)=JP 3 cJ (EF (Y 15)) MO j (p.map ä):=by have eB:bH=(hU (iP 6 (R dv (R dv (Y 1) (X 1)) (R lI (X 14) (Y 5)))) (hU (iP 4 (R dv (Y 4) (ae ag 3 (cL (Y 0) (Y 6) (X 4))))) (hU (iP 7 (R Ø (jk (sj (Ú "n") (Ú "m-1") (Ú "safe-a") (Ú "N_2"))) (ae ag 3 (cL (Y 0) (R dv (Y 6) (X 1)) (X 4))))) (hU (iP 8 (R Ø (jk (cL (Ú "5") (Ú "") (Ú "a!b~"))) (ae ag 3 (cL (Y 0) (R dv (Y 6) (X 2)) (X 3))))) (hU (iP 9 (R Ø (jk (bP (fC .non) (ae ag 3 (cL (Y 0) (R dv (Y 6) (X 7)) (X 60))))) (ae ag 3 (cL (Y 0) (R dv (Y 6) (X 6)) (X 2))))) (hU (iP 10 (R è (ae ag 3 (cL (Y 0) (R dv (Y 6) (X 4)) (X 2))) (X 0))) (hU (iP 11 (ii (sk (Y 7) (Y 8) (ae aU 2 (bP (Y 0) (R dv (Y 6) (X 3)))) (Y 10) (ae cR 2 (bP (Y 0) (R dv (Y 6) (X 5))))))) (hU (iP 12 (R Ø (jk (cL (Ú "any") (Ú "any") (Ú "near"))) (ae ag 3 (cL (Y 0) (R dv (Y 6) (X 9)) (X 3))))) (hU (iP 13 (R è (ae ag 3 (cL (Y 0) (R dv (Y 6) (X 8)) (X 2))) (X 0))) (hU (iP 14 (R dv (Y 4) (ae ag 3 (cL (Y 0) (R dv (Y 6) (X 10)) (X 5))))) (hU (iP 15 (R dv (Y 11) (ii (sk (Y 9) (Y 13) (Y 12) (Y 4) (Y 14))))) (JP 3 cJ (EF (Y 15)) MO)))))))))))):=rfl;rw[eB];subst hh;simp[jb,hU,iP,AG,à,ae,aP,dg,Y,fC,R,ii,jk,CQ,A,e0,e1,e2,e3,e4,e5,e6,e7,e8,e9,a',i1,i2,i6,i9,è,oA,Ia,j,ä,n];simp[dv]
 rw[y];cases E:(p.filter (λo=>A_ (key o=key n)))with|nil=>rw[E]at D;refine⟨j,p++[n],d+f,?_,rfl,J.add a0 b0 gn (by show d+f+h<=d+f+4;lia) rfl E⟩;unfold JP;rw[D];show(if(p.map ä).length<100000 then _ else _)=_;rw[if_pos (by have:=J.l;simp;lia)];show Z (Fo.nx _ (p.map ä++[ä n]))=_;simp|cons c r=>rw[E]at D;refine⟨j,p,d+f,?_,rfl,J.keep a0 b0⟩;unfold JP;rw[D];rfl
def xS(i:Int%0)(u:i.length<=63)(z m:Int):∀(f:Int%0)(q:Ev)(b:Int)(B:Nat)(j:aj%0),B+f.length<=10->fgt [5,6,7,8,9,10,11,12,13,14,15] q=jb i z m b->JI B j b->∃d a,qU 5 [5,6,7,8,9,10,11,12,13,14,15] bH (f.map W.int) q (j.map ä)=Z (.nx (jb i z m a) (d.map ä))/\JI (B+f.length) d a|[],q,b,B,j,_,h,J=>⟨j,b,by show Z _=_;rw[h],J⟩|k::f,q,b,B,j,v,h,J=>by simp![Xu]at v;obtain⟨g,d,a,e,p,A⟩:=CS i u z m b k J ();obtain⟨s,n,w,y⟩:=xS i u z m f g a _ d () p A;refine⟨s,n,?_,by rw[Xu,show B+(f.length+1)=B+1+f.length by lia];exact y⟩;show(match bH _ _ with|some (.nx g r)=>qU 5 _ bH _ g r|o=>o)=_;rw[h,e];exact w
def Ir(a:Int%0)(s:a.length<=63)(z:Int)(m:Nat)(w:m<=8):∃f b,eY [.scr a,.int z,.int m]=ej f%3/\ě f/\f.length<=m/\JI m f b:=by
 obtain⟨d,A,y,v⟩:=aW a s z (m+1) ();obtain⟨c,rfl⟩:∃c:Nat,d=(c):=⟨d.toNat,by lia⟩;have u:wP [.int (c)]=((y_ c).map λi:Nat=>(i:Int)).map W.int%3:=by rw[Cq (),rV];simp
 obtain⟨f,b,e,J⟩:=xS a s z m ((y_ c).map _) (jb a z m 0) 0 0 [] (by simp;lia) rfl ⟨by simp,abm,by simp,by simp,by lia,by lia,by simp,by simp⟩;have n:((y_ c).map λi:Nat=>(i:Int)).length=c:=by simp
 rw[n]at J;have D:=J.l;refine⟨f,b,(io ?_),J.jar (),by lia,⟨J.g,J.s,J.k,by lia,J.n0,by have:=J.n1;lia,J.m,J.u⟩⟩;have k:(λj=>à ((al (ae ag 3 (cL (Y 0) (Y 1) (R dv (Y 2) (X 1))))) j) wP) (jb a z m 0)=((y_ c).map λi:Nat=>(i:Int)).map W.int%3:=by
  have h:(al (ae ag 3 (cL (Y 0) (Y 1) (R dv (Y 2) (X 1))))) (jb a z m 0)=Z (.ok [.int (c)]):=by simp[à,aP,dg,ae,fC,Y,R,jb,CQ,v]
  exact(xR h).trans u
 have p:DD 5 [5,6,7,8,9,10,11,12,13,14,15] (λj=>à ((al (ae ag 3 (cL (Y 0) (Y 1) (R dv (Y 2) (X 1))))) j) wP) bH (jb a z m 0) []=Z (.nx (jb a z m b) (f.map ä)):=by unfold DD;rw[k];show(if é _=L then _ else U)=_;rw[if_pos (uN _)];exact e
 have g:(hU (iP 4 (X 0)) (hU (DD 5 [5,6,7,8,9,10,11,12,13,14,15] (λj=>à ((al (ae ag 3 (cL (Y 0) (Y 1) (R dv (Y 2) (X 1))))) j) wP) bH) (JQ 3 (ì jg (al (Y 3)))))) [Z (.scr a),Z (.int z),Z (.int m),U,U,U,U,U,U,U,U,U,U,U,U,U] []=Z (.rt (ej f)):=by rw[CO (show iP 4 _ _ []=Z (.nx (jb a z m 0) [])from rfl),CO p];exact rfl
 exact(congrArg (λo=>match o with|some (Fo.nx q r)=>Z (Fl.nx (List.set q 3 (Z (W.lst r))))|some (Fo.rt d)=>Z (Fl.rt d)|none=>U) g)
def fR(n:aj):ce [ä n]=ek n%3:=rfl
def uO:∀a:aj%0,keysOf (a.map ek)=Z (a.map key)|[]=>rfl|n::a=>by show(match cw _,keysOf _ with|some k,Z b=>Z _|_,_=>U)=_;rw[uO a];rfl
def GA(J:ě i):cH [ej i]=bo L:=by
 have e:=J.l;have b:qW [.lst (i.map ek)]=.int (i.length)%3:=by show(match keysOf _ with|some a=>if a.Nodup/\a.length<=20 then(Z _:_%1)else U|none=>U)=_;rw[uO];dsimp!;rw[if_pos ⟨J.k,by simp;lia⟩,T_]
 refine io ?_;unfold cG;rw[ax (bY (gG ä ek (gI rfl) () λn d=>dJ ce rfl (fR n)) rfl)];refine dO ((bq ((cg (ac rfl ak)).trans b) (by show Z _=_;rw[T_])).trans ?_);show Z _=_;simp
def all_map(p:Q->Bool)(l:Q%0):pK [.lst (l.map λa=>W.bl (p a))]=bo (l.all p):=by unfold pK;dsimp!;rw[oz p l];dsimp!;rw[List.all_map];rfl
def rW(l:Q%0):pK [.lst (l.map λ_=>W.bl L)]=bo L:=by rw[all_map _ l];simp
def Rf(h:b<i.length):Ø (ej i) (.int b)=ä i[b]%3:=by show(match Č (i.map ä) (b)with|some d=>_|none=>_)=_;unfold Č;simp[h]
def Rg(n:aj):Ø (ä n) (.int 8)=.int n.md%3:=rfl
def Rh(a:aj%0)(d:a.length<=20):(λb=>à ((bP (X 1) (ì gL (al (Y 0)))) b) Eb) [Z (ej a)]=((y_ (a.length-1)).map λi:Nat=>W.int (1+(i:Int)))%3:=by
 have h:(bP (X 1) (ì gL (al (Y 0)))) [Z (ej a)]=Z (.ok [.int 1,.int a.length]):=by simp[à,aP,dg,ì,fC,Y,ej,gL]
 refine(xR h).trans ?_;rw[Qw (),rV,show((a.length:Int)-1).toNat=a.length-1 by lia]
def Wh:Û:=(R ń (R Ø (R Ø (Y 1) (R DC (Y 0) (X 1))) (X 8)) (R Ø (R Ø (Y 1) (Y 0)) (X 8)))
def Ma(J:ě i){a:Nat}(b:a+1<i.length):Wh [Z (.int (1+(a:Int))),Z (ej i)]=.bl L%3:=by
 have d:=J.s a b;have f:R Ø (Y 1) (R DC (Y 0) (X 1)) [Z (.int (1+(a))),Z (ej i)]=ä i[a]%3:=by have q:=Rf (i:=i) (b:=a) ();rw[show(a)=1+(a:Int)-1 by lia]at q;exact q
 have e:R Ø (Y 1) (Y 0) [Z (.int (1+(a))),Z (ej i)]=ä i[a+1]%3:=by have q:=Rf b;rw[show((a+1:Nat))=1+(a:Int)by lia]at q;exact q
 exact(bq ((bq f rfl).trans (Rg _)) ((bq e rfl).trans (Rg _))).trans (by simp[ń,d])
def Vn(J:ě i):cu [("notes",0)] (λb=>à ((bP (X 1) (ì gL (al (Y 0)))) b) Eb) U Wh [Z (ej i)]=.lst ((y_ (i.length-1)).map λ_=>W.bl L)%3:=j3 _ _ (Rh i J.l) (by have:=J.l;rw[aaq];lia) λa d=>Ma J (by have:=X5.mp d;lia)
def Mb(J:ě i):gT [ej i]=bo L:=io (dO ((cg (ac (Vn J) ak)).trans (rW _)))
def t_a(J:ě i):cu [] (eQ (Y 0)) U (ae gq 1 (al (Y 0))) [Z (ej i)]=.lst (i.map λ_=>W.bl L)%3:=j3 ä _ (gI rfl) (by have:=J.l;lia) λn a=>dJ gq rfl (Re (J.g n a))
def t_b(J:ě i):(Đ (cC (fB (f1 (j9 vo) (Y 0)))) (fB (R ŝ (ì gL (al (Y 0))) (X 20)))) [Z (ej i)]=h_%3:=by
 have a:¬(20<(i.length:Int)):=by have:=J.l;lia
 simp[Đ,cC,fB,f1,R,j9,vo,Y,à,ĉ,ì,aP,dg,fC,ej,gL,S8,a]
def t_c(J:ě i):ì pK (al (cu [] (eQ (Y 0)) U (ae gq 1 (al (Y 0))))) [Z (ej i)]=bo L:=(cg (ac (t_a J) ak)).trans (rW i)
def t_d(J:ě i):k9 [Z (ej i)]=Z (.rt (.bl L)):=by unfold k9;rw[ax (cD (t_b J)),ax (cD (lN (bf (t_c J))))];refine dO ?_;rw[Oj (dJ gT rfl (Mb J))];exact dJ cH rfl (GA J)
def ls(J:ě i):jW [ej i]=bo L:=io (t_d J)
abbrev zz1:ê:=(sk (Y 0) (Y 1) (Y 2) (Y 3) (Y 4))
abbrev zz2:ê:=(sj (Y 0) (Y 2) (Y 3) (Y 4))
def j5(n:aj)(k:Int):ba [ä n,.int k]=bo (Ď n k):=by cases h:n.ends<;>simp[ba,bL,iX,aL,c9,à,ĉ,Y,fC,R,Ø,Č,lB,sS,ä,eO,Ď,h,ń]
def Mc:(ù.all λp=>ù.all λq=>okB (bR [.str p,.str q]))=L:=by lk
def Vo(h:d∈ù)(a:r∈ù):∃k,bR [.str d,.str r]=bo k:=Ih (aX (aX Mc h) a)
def KE(p q:Str):Bool:=Ū (aR [.str p,.str q])
def unB(p q:Str):Bool:=Ū (bR [.str p,.str q])
def GB(h:d∈En)(a:r∈En):aR [.str d,.str r]=bo (KE d r):=by obtain⟨k,e⟩:=Wc h a;unfold KE;rw[e];cases k<;>rfl
def Ri(h:d∈ù)(a:r∈ù):bR [.str d,.str r]=bo (unB d r):=by obtain⟨k,e⟩:=Vo h a;unfold unB;rw[e];cases k<;>rfl
def Sj(o N:aj)(a:Int):Bool:=o.S&&(!Ď o a&&(seq o.nm N.nm&&((KE N.house o.house||KE o.house N.house)&&unB N.path o.path)))
def i0(n:aj):Ø (ä n) (.int 0)=.str n.nm%3:=rfl
def i2(n:aj):Ø (ä n) (.int 2)=.str n.house%3:=rfl
def i4(n:aj):Ø (ä n) (.int 4)=.str n.path%3:=rfl
def i6(n:aj):Ø (ä n) (.int 6)=.bl n.S%3:=rfl
def uP(a:Ξ ε=H%3):aM (bg Ξ (aL (fC (.bl h_))) ó) Ψ ε=if H=L then Z (.rt (.bl h_))else Ψ ε:=by unfold aM bg;rw[a];cases H<;>rfl
def uQ{b:ñ}(d:Ξ ε=H%3)(a:b ε=Ï%3):mC Ξ b ε=(H&&Ï)%3:=by
 unfold mC;rw[d];cases H;·rfl
 ·exact a
def iH(a:Ξ ε=H%3):cC Ξ ε=(!H)%3:=by unfold cC;rw[a];rfl
def zd{N:aj}(b:fm Α)(d:fm N)(a:Int):jM [ä Α,ä N,.int a]=bo (Sj Α N a):=by refine io ?_;unfold li;rw[uP (xQ (iH (bf ((bq rfl rfl).trans (i6 Α)))) (xQ (bf (dk ba rfl rfl (j5 Α a))) (bf ((bq (m:=.str Α.nm) (π:=.str N.nm) rfl rfl))))),uP (uQ (iH (bf (dk aR rfl rfl (GB d.house b.house)))) (iH (bf (dk aR rfl rfl (GB b.house d.house))))),QQ (dk bR rfl rfl (Ri d.path b.path))];unfold Sj;cases Α.S<;>cases Ď Α a<;>cases seq Α.nm N.nm<;>cases KE N.house Α.house<;>cases KE Α.house N.house<;>rfl
def any_map(p:Q->Bool)(l:Q%0):Ki [.lst (l.map λa=>W.bl (p a))]=bo (l.any p):=by show(match kN _ with|some bs=>Z _|none=>U)=_;rw[oz];simp
def wv(b:W)(s:Bool)(e:aj%0)(N:aj)(a:Int):W:=match b with|.non=>if(!s&&e.any λo=>Sj o N a)=L then .str "shadowed"else if Ď N a=L then .str "gone"else .str "kept"|d=>d
def Iu(a:Ξ ε=H%3):aM (bg Ξ (aL (fC m)) ó) Ψ ε=if H=L then Z (.rt m)else Ψ ε:=by unfold aM bg;rw[a];cases H<;>rfl
def Rj{w:Str}{l:W}{R:Str}{b f:Str}{n:Bool}{g:W}(a:Wt u d r m χ w π Η Ω l H R Ï b f n g)(k:g≠.non):bp [.tup u,ej i,ĕ Ï d r m,Ę χ w π Η Ω l H R,.int y]=g%3:=by
 obtain⟨x,j⟩:∃x,g=.str x:=by
  rcases a.win with e|⟨x,_,e⟩;·exact absurd e k
  ·exact⟨_,e⟩
 subst j;refine mO ?_;show fg [Z _,Z _,Z _,Z _,Z _,U,U]=_;unfold fg;have h:ay bu 3 (cL (Y 0) (Y 2) (Y 3)) [Z _,Z (ej i),Z _,Z _,Z (.int y),U,U]=Z _:=cE bu (ac rfl (ac rfl (ac rfl ak))) rfl a.why;rw[ax (bY h rfl)];rfl
def Rk{w:Str}{l:W}{b:Str}{f h:Str}{j:Bool}(z:u∈iK æ)(a:Ak d r m)(g:Gv χ w π Η Ω l H b)(v:0<=y)(s:y<=9999)(e:Wt u d r m χ w π Η Ω l H b Ï f h j .non)(D:ä Α=ntn χ w f j h (Io Ω l y) H b y)(I:fm Α)(E:∀n∈i,fm n)(Q:i.length<=20):bp [.tup u,ej i,ĕ Ï d r m,Ę χ w π Η Ω l H b,.int y]=wv .non Ï i Α y%3:=by
 have k:=Ip z a g v s e;rw[<-D]at k;refine mO ?_;show fg [Z _,Z _,Z _,Z _,Z _,U,U]=_;unfold fg;have q:ay bu 3 (cL (Y 0) (Y 2) (Y 3)) [Z _,Z (ej i),Z _,Z _,Z (.int y),U,U]=Z _:=cE bu (ac rfl (ac rfl (ac rfl ak))) rfl e.why;rw[ax (bY q rfl)];simp![aaZ,aaY];rw[ax (cD ((rfl)))];have p:ay eZ 4 (sj (Y 0) (Y 2) (Y 3) (Y 4)) [Z _,Z (ej i),Z _,Z _,Z _,Z .non,U]=Z _:=cE eZ (ac rfl (ac rfl (ac rfl (ac rfl ak)))) rfl k;rw[ax (bY p rfl)];simp![aaZ,aaY];have P:(mC (cC (fB (R Ø (Y 2) (X 0)))) (fB (ì Ki (al (cu [("now",4),("note",6)] (eQ (Y 1)) U (ae jM 3 (cL (Y 0) (Y 2) (Y 1)))))))) [Z (.tup u),Z (ej i),Z (ĕ Ï d r m),Z (Ę χ w π Η Ω l H b),Z (.int y),Z .non,Z (ä Α)]=(!Ï&&i.any λo=>Sj o Α y)%3:=by exact uQ (iH (bf rfl)) (bf ((cg (ac (j3 ä _ (gI rfl) () λo A=>rP jM rfl rfl rfl (zd (E o A) I y)) ak)).trans (any_map _ _)))
 rw[Iu P];rw[Iu (bf (dk ba rfl rfl (j5 Α y)))];show _=Z (Fl.rt (if(!Ï&&i.any _)=L then .str "shadowed"else if Ď Α y=L then .str "gone"else .str "kept"));split;·rfl
 ·split<;>rfl
def MT(a:aj%0)(n:aj):aj%0:=match a.filter (λo=>A_ (key o=key n))with|[]=>a++[n]|o::_=>a.map λx=>if key x=key n then{n with md:=o.md}else x
def Rl(m:∀o∈i,fm o)(s:fm Α)(v:i.length<=20):Go [ej i,ä Α]=ej (MT i Α)%3:=by have k:∀o∈i,∀(r:Ev),(fB (R è (ae ce 1 (al (Y 0))) (ae ce 1 (al (Y 1))))) (Z _::Z _::r)=Z _:=λo f r=>bf ((bq (dJ ce rfl (fR o)) (dJ ce rfl (fR Α))).trans (L9 (m o f) s).1);have b:=mq (À:=[("note",1)]) (μ:=eQ (Y 0)) (z:=Y 0) (ε:=[Z _,Z _,U,U]) ä _ ä (gI rfl) () λo f=>⟨k o f [],rfl⟩;unfold MT;cases g:i.filter _ with
 |nil=>
 rw[g]at b;refine io (m:=ej (i++[Α])) ?_;show vW [Z _,Z _,U,U]=_;unfold vW;rw[ax (bY b rfl)];refine nM ?_;refine dO ?_;have j:i.length+1<=100000:=by lia
 simp[à,aP,dg,Y,R,ii,ej,dv,j]|cons o rest=>
 rw[g]at b;refine io (m:=ej (i.map _)) ?_;show vW [Z _,Z _,U,U]=_;unfold vW;rw[ax (bY b rfl)];simp![aaZ,aaY];have h:(fB (R è (Y 2) (jk dg))) [Z (ej i),Z (ä Α),Z (.lst ((o::rest).map ä)),U]=h_%3:=by
  have p:Ē 2 (.lst ((o::rest).map ä)):=mG λd q=>by
   obtain⟨x,e,rfl⟩:=L_.mp q;have:x∈i.filter (λo=>A_ (key o=key Α)):=by rw[g];exact e
   exact uM (m x (XB.mp this).1)
  have n:okP (.lst [])=L:=rfl;have i4:è (.lst ((o::rest).map ä)) (.lst [])=bo h_:=by unfold è;rw[show Ÿ _ _=U from rfl,(p.okP ()),n];simp[dj,ï,Yk,Zu]
  exact bf i4
 rw[ax (cD h)];rw[ax (bY (by lk) rfl)];simp![aaZ,aaY];refine dO ?_;have u:=j3 (À:=[("note",1),("newer",3)]) (μ:=eQ (Y 0)) (z:=(Ő _ (Y 2) (Y 0))) (ε:=[Z (ej i),Z _,Z (.lst ((o::rest).map ä)),Z _]) ä (λx=>ä (if key x=key Α then{Α with md:=o.md}else x)) (gI rfl) () λx e=>by
  have t:=k x e [Z (ä {Α with md:=o.md})];by_cases a:key x=key Α;·rw[if_pos a];rw[decide_eq_true a]at t;exact(Tp t)
  ·rw[if_neg a];rw[decide_eq_false a]at t;exact(Tq t)
 rw[cg (ac u ak)];show Z _=_;simp[ej]
def Ŵ(b:aj%0)(a:Int):aj%0:=b.filter λn=>!Ď n a
def qu(b:i.length<=20):bJ [ej i,.int y]=ej (Ŵ i y)%3:=by refine io ?_;refine dO ?_;exact(cg (ac (gF ä _ ä (gI rfl) () λn a=>⟨iH (bf (dk ba rfl rfl (j5 n y))),rfl⟩) ak))
def E8(T:W)(f:aj%0)(A g:W)(a:Int)(e d b:W%1):Ev:=[Z T,Z (ej f),Z A,Z g,Z (.int a),e,d,b]
def rX(d:i.length<=20)(b:bp [m,ej i,π,Η,.int y]=Ω%3){f:á}{r:Fl%1}(h:f (E8 m i π Η y (Z Ω) (Z (ej (Ŵ i y))) U)=r):aM (cO 5 (ay bp 5 zz1)) (aM (cO 6 (ae bJ 2 (bP (Y 1) (Y 4)))) f) (E8 m i π Η y U U U)=r:=by have a:cO 5 (ay bp 5 zz1) (E8 m i π Η y U U U)=Z (.nx (E8 m i π Η y _ U U)):=bY (cE bp (ac rfl (ac rfl (ac rfl (ac rfl (ac rfl ak))))) rfl b) rfl;rw[ax a,ax (bY (dk bJ rfl rfl (qu d)) rfl)];exact h
def CT:(Ŵ i y).length<=i.length:=Yh _ _
def qv(b:i.length<=20)(a:bp [m,ej i,π,Η,.int y]=Ω%3)(d:è Ω (.str "kept")=bo h_)(e:è Ω (.str "gone")=bo h_):c6 [m,ej i,π,Η,.int y]=ej (Ŵ i y)%3:=by refine mO ?_;refine rX b a ?_;rw[ax (cD (bf ((bq rfl rfl).trans d))),ax (cD (bf ((bq rfl rfl).trans e)))];rfl
def CU(a:i.length<=20)(e:∀n∈i,fm n)(f:fm Α)(b:bp [m,ej i,π,Η,.int y]=.str "kept"%3)(g:eZ [m,π,Η,.int y]=ä Α%3):c6 [m,ej i,π,Η,.int y]=ej (MT (Ŵ i y) Α)%3:=by refine mO ?_;refine rX a b ?_;refine nM ?_;rw[Gg (bf ((bq rfl rfl).trans (rfl)))];exact dO (dk Go rfl (cE eZ (ac rfl (ac rfl (ac rfl (ac rfl ak)))) rfl g) (Rl (λo d=>e o (XB.mp d).1) f (Xx CT a)))
def Vq{o:aj}(a:fm o)(b:fm Α):Ŕ (ek o) (ek Α)=bo (!A_ (key o=key Α)):=(L9 a b).2
def CV(a:i.length<=20)(g:∀n∈i,fm n)(h:fm Α)(d:bp [m,ej i,π,Η,.int y]=.str "gone"%3)(j:eZ [m,π,Η,.int y]=ä Α%3):c6 [m,ej i,π,Η,.int y]=ej ((Ŵ i y).filter λo=>!A_ (key o=key Α))%3:=by have k:(Ŵ i y).length<=20:=Xx CT a;refine mO ?_;refine rX a d ?_;rw[ax (cD (bf ((bq rfl rfl).trans (rfl))))];refine nM ?_;rw[Gg (bf ((bq rfl rfl).trans (rfl)))];have b:cO 7 (ae ce 1 (al (ay eZ 4 zz2))) (E8 m i π Η y _ _ U)=Z (.nx (E8 m i π Η y (Z (.str "gone")) (Z (ej (Ŵ i y))) _)):=bY (dJ ce (cE eZ (ac rfl (ac rfl (ac rfl (ac rfl ak)))) rfl j) (fR Α)) rfl;rw[ax b];refine dO ?_;have e:(cu [("ended",7)] (eQ (Y 6)) (Z (fB (R Ŕ (ae ce 1 (al (Y 0))) (Y 1)))) (Y 0)) (E8 m i π Η y (Z (.str "gone")) _ (Z _))=.lst (((Ŵ i y).filter _).map ä)%3:=gF ä _ ä (gI rfl) () λo f=>⟨bf ((bq (dJ ce rfl (fR o)) rfl).trans (Vq (g o (XB.mp f).1) h)),rfl⟩;exact(cg (ac e ak))
def ze(h:jW [m]=bo L):ar [m]=.non%3:=by simp[ar,gJ,gu,bg,c9,à,cC,fB,ĉ,ae,aP,dg,Y,h]
def Xn(h:jW [m]=bo h_):ar [m]=5%9:=by simp[ar,gJ,gu,bg,c9,à,cC,fB,ĉ,ae,aP,dg,Y,fC,dP,h]
def dY(F:Þ){a:W}{f:Û}{b:Ev}(d:f b=a%3)(h:F [a]=.non%3):eC (ay F 1 (al f)) b=Z (.nx b):=mR (cE F (ac d ak) rfl h)
def dX(F:Þ){a:W}{f:Û}{d:Ev}(e:f d=a%3)(h:F [a]=b%9):eC (ay F 1 (al f)) d=b%9:=WY (cE F (ac e ak) rfl h)
def E6(T a A X N:W)(x:W%1):Ev:=[Z T,Z a,Z A,Z X,Z N,x]
def rwy{N:W}(g:cX [m]=bo L)(f:jW [Ω]=bo L)(e:fW [π]=bo L){a:W}(d:aT [Η]=a%3)(h:aZ [N]=bo L):aC [m,Ω,π,Η,N]=a%3:=mO (by show bz (E6 m Ω π Η N U)=_;unfold bz;rw[ax (dY aK rfl (QK g)),ax (dY ar rfl (ze f)),ax (dY cV rfl (U8 e))];have b:cO 5 (ay aT 1 (al (Y 3))) (E6 m Ω π Η N U)=Z _:=bY (cE aT (ac rfl ak) rfl d) rfl;rw[ax b,ax (dY aB rfl (za h))];rfl)
def E7(T:W)(e:aj%0)(A X:W)(a:Int)(d b:W%1):Ev:=[Z T,Z (ej e),Z A,Z X,Z (.int a),d,b]
def Md{b a:_}(g:b.length<=20){e d:W%1}:fB (ì Ki (al (cu [("now",4)] (eQ (Y 1)) U (R ŝ (R Ø (Y 0) (X 9)) (Y 1))))) (E7 m b π Η a e d)=(b.any λo=>A_ (o.us>a))%3:=by exact bf ((cg (ac (j3 ä _ (gI rfl) () λo f=>(bq (m:=.int o.us) (π:=.int a) rfl rfl)) ak)).trans (any_map _ _))
def s5T{b a d:_}(e:aC [m,ej b,π,Η,.int a]=d%3):cO 5 (ay aC 5 zz1) (E7 m b π Η a U U)=Z (.nx (E7 m b π Η a (Z d) U)):=bY (cE aC (ac rfl (ac rfl (ac rfl (ac rfl (ac rfl ak))))) rfl e) rfl
def uR(a:aj%0):gL [ej a]=.int (a.length:Nat)%3:=by simp[gL,ej]
def Iw(h:gL [m]=.int y%3)(a:y<=20):aH [m]=.non%3:=by
 show(match aQ [Z m]with|some (.nx _)=>Z _|some (.rt m)=>Z _|some (.exc c)=>Z _|none=>U)=_;unfold aQ;have g:ŝ (.int y) (.int 20)=.bl h_%3:=by show Z (Rs.ok (W.bl (decide _)))=_;rw[decide_eq_false ()]
 rw[cD (bf ((bq ((cg (ac rfl ak)).trans h) rfl).trans g))]
def GC{b a d:_}(j:b.length<=20)(g:aC [m,ej b,π,Η,.int a]=d%3)(h:(b.any λo=>A_ (o.us>a))=h_)(f:c6 [m,ej b,π,d,.int a]=ej i%3)(k:i.length<=20):jY [m,ej b,π,Η,.int a]=ej i%3:=mO (by show lj (E7 m b π Η a U U)=_;unfold lj;rw[ax (s5T g)];have c:=Md (m:=m) (π:=π) (Η:=Η) (a:=a) (e:=Z d) (d:=U) j;rw[h]at c;rw[ax (cD c)];have e:cO 6 (ay c6 5 (sk (Y 0) (Y 1) (Y 2) (Y 5) (Y 4))) (E7 m b π Η a _ U)=Z (.nx (E7 m b π Η a (Z d) _)):=bY (cE c6 (ac rfl (ac rfl (ac rfl (ac rfl (ac rfl ak))))) rfl f) rfl;rw[ax e,ax (dY aH rfl (Iw (uR i) ()))];rfl)
def Vr(g:Gv d r m π Η Ω H χ)(a:0<=y):∃e:Int%1,eO e=Io Η Ω y/\∀i,e=Z i->0<=i/\i<=9999:=by
 rcases Rc g a with q|⟨i,k,h,q⟩;·exact⟨U,q.symm,λi f=>by cases f⟩
 ·exact⟨Z i,q.symm,λj b=>by cases b;exact⟨k,h⟩⟩
def Me{w:Str}{l:W}{R:Str}{b f:Str}{h:Bool}{j:W}(g:Gv χ w π Η Ω l H R)(a:Wt u d r m χ w π Η Ω l H R Ï b f h j)(i:0<=y)(k:y<=200):∃N:aj,ä N=ntn χ w b h f (Io Ω l y) H R y/\fm N/\N.us=y/\N.md=y:=by obtain⟨e,n,o⟩:=Vr g i;refine⟨⟨χ,w,b,h,f,e,H,R,y,y⟩,?_,⟨g.nm,g.w,a.hs,a.ph,g.r,o,i,Int.le_refl _,k⟩,rfl,rfl⟩;show W.tup [.str χ,.str w,.str b,.bl h,.str f,eO e,.bl H,.str R,.int y,.int y]=_;rw[n]
structure JS(now:Int)(Y:aj%0):Prop where
 g:∀n∈Y,fm n
 s:Y.Pairwise λa b=>a.md<=b.md
 k:(Y.map key).Nodup
 u:∀n∈Y,n.us<=now
def JS.jar(h:JS y i)(l:i.length<=20):ě i:=⟨h.g,λa b=>ZF.mp h.s a _ () b (),h.k,l⟩
def JS.nil{a:Int}:JS a []:=⟨by simp,.nil,by simp,by simp⟩
def JS.later(h:JS y i)(q:y<=Ã):JS Ã i:=⟨h.g,h.s,h.k,λn a=>by have:=h.u n a;lia⟩
def JS.filt(p:aj->Bool)(h:JS y i):JS y (i.filter p)where g:=λn q=>h.g n (XB.mp q).1;s:=h.s.sublist abR;k:=h.k.sublist (abR.map key);u:=λn q=>h.u n (XB.mp q).1
def JS.put(h:JS y i)(k:fm Α)(hu:Α.us=y)(hm:Α.md=y):JS y (MT i Α)/\(MT i Α).length<=i.length+1:=by
 unfold MT;split
 · rename_i w;have P:∀x∈i,key x≠key Α:=λx v e=>by have:x∈i.filter (λo=>A_ (key o=key Α)):=XB.mpr ⟨v,by simpa using e⟩;rw[w]at this;cases this
   refine⟨⟨λn q=>?_,?_,?_,λn q=>?_⟩,by simp⟩
   · rcases XD.mp q with q|q;·exact h.g n q
     ·rw[S_.mp q];exact k
   ·refine adI.mpr ⟨h.s,aa7 ..,λa s b u=>?_⟩;rw[S_.mp u];have:=h.u a s;have:=(h.g a s).mu;lia
   · rw[YE];refine Zj.mpr ⟨h.k,aa7 ..,λa s b u e=>?_⟩;obtain⟨x,v,rfl⟩:=L_.mp s;have:b=key Α:=by simpa using u
     exact P x v (e.trans this)
   · rcases XD.mp q with q|q;·exact h.u n q
     ·rw[S_.mp q];lia
 · rename_i f r1 w;have p:f∈i.filter (λo=>A_ (key o=key Α)):=by rw[w];exact on
   have m:=(XB.mp p).1;have r:key f=key Α:=by simpa using(XB.mp p).2
   have one:∀z∈i,key z=key Α->z=f:=λz g e=>by
    obtain⟨d,H,rfl⟩:=ad4 g;obtain⟨j,E,A⟩:=ad4 m;have D:=ZF.mp h.k;rcases acs d j with q|q|q;·exact(D d j (by simpa using H) (by simpa using E) q (by rw[Z6,Z6,A,r,e])).elim
    ·subst q;exact A
    ·exact(D j d (by simpa using E) (by simpa using H) q (by rw[Z6,Z6,A,r,e])).elim
   have md:∀z∈i,(if key z=key Α then({Α with md:=f.md})else z).md=z.md:=λz g=>by
    split;·rename_i e;rw[one z g e]
    ·rfl
   have Q:∀z∈i,key (if key z=key Α then({Α with md:=f.md})else z)=key z:=λz g=>by
    split;·rename_i e;exact e.symm
    ·rfl
   have I:=h.g f m;have u1:=h.u f m;refine⟨⟨λn q=>?_,?_,?_,λn q=>?_⟩,by simp⟩
   · obtain⟨z,g,rfl⟩:=L_.mp q;split;·exact⟨k.nm,k.w,k.house,k.path,k.R,k.ends,I.mk0,by show f.md<=Α.us;have:=I.mu;lia,k.us⟩
     ·exact h.g z g
   ·rw[abk];exact h.s.imp_of_mem λ{a b}ha hb q=>by rw[md a ha,md b hb];exact q
   ·rw[XS];have e:i.map (key∘λz=>if key z=key Α then({Α with md:=f.md})else z)=i.map key:=YU Q;rw[e];exact h.k
   · obtain⟨z,g,rfl⟩:=L_.mp q;split;·show Α.us<=y;lia
     ·exact h.u z g
def j':Str%0:=[b_ "foreign",b_ "open",b_ "unsafe",b_ "marked",b_ "far",b_ "shadowed",b_ "gone",b_ "kept"]
def CW:∀x:Str,x∈[b_ "foreign",b_ "open",b_ "unsafe",b_ "marked",b_ "far",b_ "shadowed"]->è (.str x) (.str "kept")=bo h_/\è (.str x) (.str "gone")=bo h_:=by intro x a;simp![p_,J_,or_false]at a;rcases a with rfl|rfl|rfl|rfl|rfl|rfl<;>exact⟨rfl,rfl⟩
def Mf{w:Str}{l:W}{R:Str}(s:u∈iK æ)(a:Ak d r m)(g:Gv χ w π Η Ω l H R)(k:JS y i)(f:i.length<=20)(q:0<=y)(P:y<=200):∃(x:Str)(n:aj%0),x∈j'/\bp [.tup u,ej i,ĕ Ï d r m,Ę χ w π Η Ω l H R,.int y]=.str x%3/\c6 [.tup u,ej i,ĕ Ï d r m,Ę χ w π Η Ω l H R,.int y]=ej n%3/\JS y n/\n.length<=i.length+1:=by
 obtain⟨D,I,ex,wd,b⟩:=U9 s a g Ï;have sl:(Ŵ i y).length<=i.length:=CT;have j:JS y (Ŵ i y):=k.filt _;rcases b.win with rfl|⟨x,h,rfl⟩
 · obtain⟨N,E,gN,z,A⟩:=Me g b q P;have v:=Ip s a g q () b;rw[<-E]at v;have e:=Rk s a g q () b E gN k.g f;unfold wv at e;dsimp only at e;split at e;·obtain⟨p,o⟩:=CW (b_ "shadowed") ∅;exact⟨_,_,by simp[j'],e,qv f e p o,j,by lia⟩
   · split at e;·exact⟨_,_,by simp[j'],e,CV f k.g gN e v,j.filt _,Xx (Yh _ _) ()⟩
     ·obtain⟨Q,l2⟩:=j.put gN z A;exact⟨_,_,by simp[j'],e,CU f k.g gN e v,Q,by lia⟩
 ·have e:=Rj (i:=i) (y:=y) b ∅;obtain⟨p,o⟩:=CW x (by simp![p_,J_,or_false]at h⊢;rcases h with d|d|d|d|d<;>simp[d]);exact⟨x,_,by simp![p_,J_,or_false]at h;rcases h with d|d|d|d|d<;>simp[j',d],e,qv f e p o,j,by lia⟩
def Mg(g:Gv d r m π Η Ω H χ):∃X:Str,fj [Ę d r m π Η Ω H χ]=.str X%3/\aT [.str X]=Ę d r m π Η Ω H χ%3:=by obtain⟨h,p,b,f,a,e⟩:=Q1 g;exact⟨_,by rw[e];exact LV (Vg a),by rw[e];exact Ra a⟩
def vdo{b:Str}(h:u∈iK æ)(a:Ak d r m)(j:aT [.str χ]=π%3)(n:ě i)(g:0<=y)(f:y<=9999)(k:bp [.tup u,ej i,ĕ H d r m,π,.int y]=.str b%3):fZ [.tup u,ej i,ĕ H d r m,.str χ,.int y]=.str b%3:=by refine mO ?_;show iE [Z _,Z _,Z _,Z _,Z _,U]=_;unfold iE;have e:cO 5 (ay aC 5 (sk (Y 0) (Y 1) (Y 2) (Y 3) (Y 4))) [Z _,Z _,Z _,Z _,Z _,U]=Z (.nx [Z _,Z _,Z (ĕ H d r m),Z _,Z _,Z π]):=bY (cE aC (ac rfl (ac rfl (ac rfl (ac rfl (ac rfl ak))))) rfl (rwy (gH h) (ls n) (Cv a) j (oH g f))) rfl;rw[ax e];exact dO (cE bp (ac rfl (ac rfl (ac rfl (ac rfl (ac rfl ak))))) rfl k)
def GD{w:Str}{l:W}{R:Str}{X:Str}(j:u∈iK æ)(a:Ak d r m)(g:Gv χ w π Η Ω l H R)(k:aT [.str X]=Ę χ w π Η Ω l H R%3)(f:JS y i)(D:i.length<=19)(h:0<=y)(n:y<=200):∃(x:Str)(e:aj%0),x∈j'/\fZ [.tup u,ej i,ĕ Ï d r m,.str X,.int y]=.str x%3/\jY [.tup u,ej i,ĕ Ï d r m,.str X,.int y]=ej e%3/\JS y e/\e.length<=i.length+1:=by
 have b:i.length<=20:=by lia
 obtain⟨x,e,q,z,v,A,p⟩:=Mf j a g f b h n;have lt:(i.any λo=>A_ (o.us>y))=h_:=by rw[aeD];intro o s;have:=f.u o s;lia
 exact⟨x,e,q,vdo j a k (f.jar b) h () z,GC b (rwy (gH j) (ls (f.jar b)) (Cv a) k (oH h ())) lt v (),A,p⟩
def Mh(e:JS y i)(a:i.length<=20){k:Int}(d:0<=k)(b:k<=9999):iY [ej i,.int k]=ej (Ŵ i k)%3:=by refine mO ?_;unfold lb;rw[ax (dY ar rfl (ze (ls (e.jar a)))),ax (dY aB rfl (za (oH d b)))];exact dO (dk bJ rfl rfl (qu a))
open TS
def Vj(h:Ē b m)(a:b<=64):Ŕ m m=.bl h_%3:=Cr (h.okP a) h.p
def qw:∀a:(W%0)%0,qc (a.map W.tup)=Z a|[]=>rfl|r::a=>by show(qc _).map _=_;rw[qw a];rfl
def qz:∀a:Str%0,cw (a.map W.str)=Z a|[]=>rfl|k::a=>by show(cw _).map _=_;rw[qz a];rfl
def zg(r:Q->W%0)(f:Nat%0)(m:∀a,Ĉ (r a)=f)(k:j6 f=L)(j:∀a,DE (r a)=L){d:Q%0}(i:d.length<64):kZ [.lst (d.map λa=>.tup (r a))]=.lst ((isortB (λa b=>!Ċ (r b) (r a)) d).map λa=>.tup (r a))%3:=by
 have p:(d.map λa=>W.tup (r a))=(d.map r).map W.tup:=by rw[XS];rfl
 have o:((isortB (λa b=>!Ċ (r b) (r a)) d).map λa=>W.tup (r a))=(isortB (λa b=>!Ċ b a) (d.map r)).map W.tup:=by rw[<-sort_map r d λ_ _ _ _=>rfl,XS];rfl
 rw[p,o];show(match qc _ with|some e=>if gO e=L then Z _ else U|none=>U)=_;rw[qw];dsimp!;rw[if_pos];unfold gO;rw[n_,XQ];refine⟨by simpa using i,λq g=>?_⟩;obtain⟨n,h,rfl⟩:=L_.mp g;cases d with|nil=>simp at h|cons x d=>simp[m,k,j]
def Rm(n:aj):W%0:=[.str n.nm,.str n.house,.str n.path]
def MU(d:aj%0):W:=.lst ((isortB (λa b=>!Ċ (Rm b) (Rm a)) d).map ek)
def mw(a:i.length<64):kZ [.lst (i.map ek)]=MU i%3:=zg Rm [1,1,1] (λ_=>rfl) rfl (λ_=>rfl) a
def rY(b:∀n∈i,fm n):Ē 2 (MU i):=mG λd e=>by obtain⟨n,a,rfl⟩:=L_.mp e;rw[(isortB_perm _ _).mem_iff]at a;exact zc (b n a)
def pc(a:aj%0)(n:aj):Bool:=a.any λm=>A_ (key m=key n)
def Wi(a:aj%0)(n:aj):Bool:=a.any λm=>A_ (m=n)
def Wj(d:∀m∈i,fm m)(e:fm Α):W' (ek Α) (.lst (i.map ek))=bo (pc i Α)/\ip (ek Α) (.lst (i.map ek))=bo (!pc i Α):=by have:=Qy ((zc e).le ()) rfl (λa b=>(zc (d a b)).le ()) λa _=>Iq a Α;exact⟨this.1,this.2.1⟩
def Xo(d:∀m∈i,fm m)(e:fm Α):ip (ä Α) (ej i)=bo (!Wi i Α):=(Qy ((uM e).le ()) rfl (λa b=>(uM (d a b)).le ()) λa _=>L8 a Α).2.2.2
def rS{b:ñ}(d:Ξ ε=H%3)(a:b ε=Ï%3):mC Ξ b ε=(H&&Ï)%3:=by unfold mC;rw[d];cases H with|true=>exact a|false=>rfl
def rZ(b a:aj%0):aj%0:=b.filter λn=>!pc a n
def unN(b a:aj%0):aj%0:=b.filter λn=>pc a n&&!Wi a n
variable{ψ:aj%0}
def uS(h:∀n∈i,fm n):∀n∈rZ i ψ,fm n:=λn a=>h n (XB.mp a).1
def GE(h:∀n∈i,fm n):∀n∈unN i ψ,fm n:=λn a=>h n (XB.mp a).1
def r9:(rZ i ψ).length<=i.length:=Yh _ _
def CY:(unN i ψ).length<=i.length:=Yh _ _
def xT(m:i.length<=50)(f:∀n∈i,fm n)(e:∀n∈ψ,fm n)(k:ε[b]?=Z (Z (.lst (i.map ek))))(j:ε[o]?=Z (Z (.lst (ψ.map ek)))):ì kZ (al (cu [(d,o)] (eQ (Y b)) (Z (fB (R ip (Y 0) (Y 1)))) (Y 0))) ε=MU (rZ i ψ)%3:=by
 have h:∀a,(Hq [(d,o)] ε).set 0 (Z a)=[Z a,Z (.lst (ψ.map ek))]:=λa=>by simp[Hq,j]
 exact(cg (ac (gF ek _ ek (wo k) () λn g=>⟨by rw[h];exact bf ((bq rfl rfl).trans (Wj e (f n g)).2),rfl⟩) ak)).trans (mw (by have:=r9 (i:=i) (ψ:=ψ);show(rZ i ψ).length<64;lia))
def wl(n:aj):Int%0:=[n.us,n.md]
def iI(a b:aj):aj:=if HV (wl b) (wl a)=L then b else a
def Rn(n:aj):cQ [ä n]=.tup [.int n.us,.int n.md]%3:=rfl
def Ro(a b:aj):gtT (.tup [.int b.us,.int b.md]) (.tup [.int a.us,.int a.md])=bo (HV (wl b) (wl a)):=rfl
def later_of(a b:aj):iw [ä a,ä b]=ä (iI a b)%3:=by have d:fB (R gtT (ae cQ 1 (al (Y 1))) (ae cQ 1 (al (Y 0)))) [Z _,Z _]=Z _:=bf ((bq (dJ cQ rfl (Rn b)) (dJ cQ rfl (Rn a))).trans (Ro a b));refine io ?_;show iu [Z _,Z _]=_;unfold iu iI;cases h:HV _ _ with|true=>rw[h]at d;exact nM (Gg d)|false=>rw[h]at d;rw[ax (cD d)];rfl
def Ĥ(l:aj%0):Kv:=l.map λn=>(key n,ä n)
def qA(l:aj%0)(m:aj):aj%0:=if pc l m=L then l.map (λo=>if key o=key m then m else o)else l++[m]
def Ix(l:aj%0)(m:aj):HX (Ĥ l) (key m) (ä m)=Ĥ (qA l m):=by
 have e:((Ĥ l).any λp=>A_ (p.1=key m))=pc l m:=by unfold Ĥ pc;rw[List.any_map];rfl
 unfold HX qA;rw[e];split
 · unfold Ĥ;rw[XS,XS];apply YU;intro o _;simp![abA];split;·rename_i h;rw[h]
   ·rfl
 ·simp[Ĥ]
def zl(l:aj%0)(n:aj):aj%1:=l.find? λo=>A_ (key o=key n)
def Iy(n:aj):∀l:aj%0,BN (Ĥ l) (key n)=(zl l n).map ä
 |[]=>rfl|o::l=>by
  unfold BN Ĥ zl at*;simp![F_,List.find?_cons];by_cases h:key o=key n;·simp[h]
  ·simp![h];exact(Iy n l)
def se{o:aj}(h:zl i Α=Z o):key o=key Α/\o∈i:=by exact⟨by simpa using(ae5 h),List.mem_of_find?_eq_some h⟩
def jR(a b:aj):iI a b=a\/iI a b=b:=by
 unfold iI;split;·exact .inr rfl
 ·exact .inl rfl
def DG(l:aj%0)(n:aj):aj:=iI ((zl l n).getD n) n
def sf(l:aj%0)(n:aj):key (DG l n)=key n:=by
 unfold DG;rcases jR _ n with e|e;·rw[e];cases h:zl l n with|none=>rfl|some o=>exact(se h).1
 ·rw[e]
def zm(l:aj%0)(n:aj):aj%0:=qA l (DG l n)
def ng(l:aj%0)(m:aj):(qA l m).length<=l.length+1:=by
 unfold qA;split;·simp
 ·simp
def E5(x y:W)(z:W%1):Ev:=[Z x,Z y,U,z,U]
def Rp(x y:W)(n:aj)(l:aj%0)(h:l.length<1000):dD (E5 x y (Z (ä n))) (Ĥ l)=Z (E5 x y (Z (ä n)),Ĥ (qA l n)):=by unfold dD KM;show(if(Ĥ l).length<100000 then Z (E5 x y _,HX _ (key n) _)else U)=_;rw[if_pos (by simp[Ĥ];lia),Ix]
def Iz(x y:W):∀(a l:aj%0)(z:W%1),l.length+a.length<1000->∃b,ui 3 dD (a.map ä) (E5 x y z) (Ĥ l)=Z (E5 x y b,Ĥ (a.foldl qA l))|[],l,z,_=>⟨z,rfl⟩|n::a,l,z,h=>by simp![Xu]at h;have g:=ng l n;obtain⟨b,e⟩:=Iz x y a (qA l n) _ ();refine⟨b,?_⟩;show(match dD (E5 x y _) _ with|some (d,f)=>ui 3 dD _ d f|none=>U)=_;rw[Rp x y n l ()];exact e
def Rq(x y:W)(n:aj)(l:aj%0)(h:l.length<1000):dF (E5 x y (Z (ä n))) (Ĥ l)=Z (E5 x y (Z (ä n)),Ĥ (zm l n)):=by
 have e:ae ce 1 (al (Y 3)) (E5 x y (Z _))=Z _:=dJ ce rfl (fR n);have b:KL (ae ce 1 (al (Y 3))) (Y 3) (E5 x y (Z (ä n))) (Ĥ l)=Z (ä ((zl l n).getD n)):=by unfold KL;show Z ((BN _ (key n)).getD _)=_;rw[Iy];cases zl l n<;>rfl
 have a:qj iw (KL (ae ce 1 (al (Y 3))) (Y 3)) (Y 3) (E5 x y (Z (ä n))) (Ĥ l)=Z (ä (DG l n)):=by unfold qj;rw[b];show(match iw _ with|some (.ok d)=>Z d|_=>U)=_;rw[later_of];rfl
 unfold dF KM;rw[a];show(if(Ĥ l).length<100000 then Z (E5 x y _,HX _ (key n) _)else U)=_;rw[if_pos (by simp[Ĥ];lia),<-sf l n,Ix];rfl
def IA(x y:W):∀(a l:aj%0)(z:W%1),l.length+a.length<1000->∃b,ui 3 dF (a.map ä) (E5 x y z) (Ĥ l)=Z (E5 x y b,Ĥ (a.foldl zm l))|[],l,z,_=>⟨z,rfl⟩|n::a,l,z,h=>by simp![Xu]at h;have g:=ng l (DG l n);obtain⟨b,e⟩:=IA x y a _ _ (by show(qA l (DG l n)).length+_<_;lia);refine⟨b,?_⟩;show(match dF (E5 x y _) _ with|some (d,f)=>ui 3 dF _ d f|none=>U)=_;rw[Rq x y n l ()];exact e
def DH(n:aj):W%0:=[.int n.md,ek n]
def Ŧ(a b:aj):Bool:=Ċ (DH a) (DH b)
def GF(d:aj%0):aj%0:=isortB (λa b=>!Ŧ b a) d
def place_of(n:aj):dz [ä n]=.tup (DH n)%3:=rfl
def CZ:∀a:aj%0,kl dz (a.map ä)=Z (a.map DH)|[]=>rfl|n::a=>by show(match dz _,kl dz _ with|some (.ok (.tup d)),Z b=>Z _|_,_=>U)=_;rw[CZ a];rfl
def C7(h:i.length<64):gO (i.map DH)=L:=by unfold gO;rw[n_,decide_eq_true_eq,XQ];refine⟨by simpa using h,λr a=>?_⟩;obtain⟨n,b,rfl⟩:=L_.mp a;cases i with|nil=>simp at b|cons x i=>rfl
def Mi(n:aj):ĩ (ä n)=L:=by unfold ä;cases h:n.ends<;>simp[ĩ,é,eO]
def lu:∀a:aj%0,é (a.map ä)=L|[]=>rfl|n::a=>by simp[é,Mi n,lu a]
def xU:∀a:aj%0,é ((a.map DH).map W.tup)=L|[]=>rfl|n::a=>by have:=xU a;simp![F_,é,n_];exact⟨rfl,this⟩
def zh(d:aj%0):nU (d.map DH) (d.map ä)=(GF d).map ä:=by
 unfold nU GF;have e:(d.map DH).zip (d.map ä)=d.map λn=>(DH n,ä n):=by rw[List.zip_map']
 rw[e,<-TS.sort_map (i:=λa b=>!Ŧ b a) _ d λ_ _ _ _=>rfl,XS];rfl
def GG(h:i.length<64):xu dz (i.map ä)=.lst ((GF i).map ä)%3:=by unfold xu;rw[CZ];dsimp!;rw[if_pos ⟨C7 h,lu i,xU i⟩,zh]
def sh(a:aj%0):(GF a).length=a.length:=(isortB_perm _ a).length_eq
def Ŏ(b a:aj%0):aj%0:=a.foldl zm (b.foldl qA [])
def IB:∀(a l:aj%0),(a.foldl qA l).length<=l.length+a.length:=by intro a;induction a with|nil=>intro l;simp|cons n a b=>intro l;have:=b (qA l n);have d:=ng l n;simp![abN,Xu];lia
def Rt:∀(a l:aj%0),(a.foldl zm l).length<=l.length+a.length:=by intro a;induction a with|nil=>intro l;simp|cons n a b=>intro l;have:=b (zm l n);have d:(zm l n).length<=l.length+1:=ng l _;simp![abN,Xu];lia
def Rv(a b:aj%0):(Ŏ a b).length<=a.length+b.length:=by have d:=IB a [];have e:=Rt b (a.foldl qA []);simp at d;unfold Ŏ;lia
def uT(f:ě i)(e:ě ψ)(p:(Ŏ i ψ).length<=20):fG [ej i,ej ψ]=ej (GF (Ŏ i ψ))%3:=mO (by
 have o:=f.l;have n:=e.l;obtain⟨d,m⟩:=Iz _ _ i [] U (by simp;lia);have a:=IB i [];obtain⟨b,k⟩:=IA _ _ ψ (i.foldl qA []) d (by simp at a;lia);have j:KN 3 (Y 0) dD (([Z (ej i),Z _,U,U,U]).set 2 U) []=Z _:=m;have h:KN 3 (Y 1) dF (E5 _ (ej ψ) d) _=Z (E5 _ _ b,Ĥ (Ŏ i ψ)):=k;have g:qk dz (E5 (ej i) (ej ψ) b) (Ĥ (Ŏ i ψ))=Z (.lst ((GF (Ŏ i ψ)).map ä)):=by unfold qk;rw[show(Ĥ _).map _=(Ŏ i ψ).map ä by unfold Ĥ;rw[XS];rfl,GG ()]
 show iy [Z _,Z _,U,U,U]=_;unfold iy;rw[ax (dY ar rfl (ze (ls f))),ax (dY ar rfl (ze (ls e)))];unfold BP;rw[j];dsimp!;rw[h];dsimp!;unfold Pk;rw[g];dsimp!;rw[ax (dY aH rfl (Iw (y:=((GF (Ŏ i ψ)).length)) (by simp[gL]) (by rw[sh];lia)))];rfl)
def uZ(d:aj%0)(a:aj):aj:=match d.filter (λb=>A_ (key b=key a))with|b::_=>iI a b|[]=>a
def wp(a:aj):iI a a=a:=by unfold iI;split<;>rfl
def GH(d:aj%0)(a:aj):key (uZ d a)=key a:=by
 unfold uZ;split
 · rename_i b r h;have:=(XB.mp (by rw[h];exact on)).2;rcases jR a b with e|e;·rw[e]
   ·rw[e];simpa using this
 ·rfl
def xV(d:aj%0)(a:aj):uZ d a=a\/uZ d a∈d:=by
 unfold uZ;split
 · rename_i b r h;rcases jR a b with e|e;·exact .inl e
   ·rw[e];exact .inr (XB.mp (by rw[h];exact on)).1
 ·exact .inl rfl
def Ă:pc i Α=L↔key Α∈i.map key:=by unfold pc;simp![Z9,decide_eq_true_eq,L_]
def zi(h:i.map key=ψ.map key)(n:aj):pc i n=pc ψ n:=by rw[Yt,Ă,Ă,h]
def C9(h:key Α∉i.map key):i.filter (λb=>A_ (key b=key Α))=[]:=by rw[List.filter_eq_nil_iff];intro b d a;exact h (L_.mpr ⟨b,d,by simpa using a⟩)
def uU(h:key Α∉i.map key):uZ i Α=Α:=by unfold uZ;rw[C9 h]
def Da:∀(a l:aj%0),((l++a).map key).Nodup->a.foldl qA l=l++a
 |[],l,_=>by simp|n::a,l,h=>by
  have b:pc l n=h_:=by cases q:pc l n with|false=>rfl|true=>exfalso;rw[Ă]at q;rw[YE]at h;exact(Zj.mp h).2.2 _ q _ on rfl
  show a.foldl qA _=_;have e:qA l n=l++[n]:=by unfold qA;rw[b];rfl
  rw[e,Da a _ (by simpa using h)];simp
def Db(h:key Α∉i.map key):zl i Α=U:=by unfold zl;rw[ach];intro o a b;exact h (L_.mpr ⟨o,a,by simpa using b⟩)
def Dc(f:(i.map key).Nodup){a b:aj}(j:a∈i)(g:b∈i)(h:key a=key b):a=b:=by induction i with|nil=>cases j|cons x i k=>
 rw[F_,Ys]at f;rcases p_.mp j with rfl|e
 · rcases p_.mp g with rfl|d;·rfl
   ·exact absurd (L_.mpr ⟨b,d,h.symm⟩) f.1
 · rcases p_.mp g with rfl|d;·exact absurd (L_.mpr ⟨a,e,h⟩) f.1
   ·exact k f.2 e d
def wq:∀(d l:aj%0),(d.map key).Nodup->(l.map key).Nodup->d.foldl zm l=l.map (uZ d)++rZ d l
 |[],l,_,_=>by
  have e:l.map (uZ [])=l:=by exact List.map_id l
  simp[rZ,e]|n::d,l,j,p=>by
  rw[F_,Ys]at j;show d.foldl zm _=_;by_cases f:key n∈l.map key
  · have e:zm l n=l.map λo=>if key o=key n then iI o n else o:=by
     obtain⟨r,g,i⟩:=L_.mp f;have D:zl l n=Z r:=by cases q:zl l n with|none=>unfold zl at q;rw[ach]at q;exact absurd (by simpa using i) (q r g)|some o=>rw[Dc p (se q).2 g ((se q).1.trans i.symm)]
     have v:DG l n=iI r n:=by unfold DG;rw[D];rfl
     unfold zm qA;rw[if_pos (by rw[Ă,sf];exact f)];apply YU;intro o s;rw[sf];by_cases h:key o=key n;·rw[if_pos h,if_pos h,v,Dc p s g (h.trans i.symm)]
     ·rw[if_neg h,if_neg h]
    have k:(l.map λo=>if key o=key n then iI o n else o).map key=l.map key:=by
     rw[XS];apply YU;intro o _;simp![abA];split
     · rename_i h;rcases jR o n with q|q;·rw[q]
       ·rw[q,h]
     ·rfl
    rw[e,wq d _ j.2 (by rw[k];exact p),XS];congr 1
    · apply YU;intro o _;simp![abA];by_cases h:key o=key n
      · rw[if_pos h];have w:key (iI o n)=key n:=by
         rcases jR o n with q|q;·rw[q,h]
         ·rw[q]
        rw[uU (by rw[w];exact j.1)];unfold uZ;rw[Z8 (by simp[h])]
      ·rw[if_neg h];unfold uZ;rw[Zk (by simpa using YH h)]
    ·show d.filter _=(n::d).filter _;rw[Zk (by simp[(Ă.mpr f)])];apply act;intro m _;rw[zi k m]
  · have e:zm l n=l++[n]:=by
     have v:DG l n=n:=by unfold DG;rw[Db f];exact wp n
     have u:pc l n=h_:=by cases q:pc l n with|false=>rfl|true=>exact absurd (Ă.mp q) f
     unfold zm qA;rw[v,u];rfl
    rw[e,wq d _ j.2 (by rw[YE];exact Zj.mpr ⟨p,by simp,λa E b y z=>by simp![F_,ab1,S_]at y;exact f (by rw[<-y,<-z];exact E)⟩),YE,F_,ab1,uU j.1];have u:pc l n=h_:=by cases q:pc l n with|false=>rfl|true=>exact absurd (Ă.mp q) f
    have I:l.map (uZ d)=l.map (uZ (n::d)):=by apply YU;intro o s;unfold uZ;rw[Zk (by simp![decide_eq_true_eq];exactλz=>f (by rw[z];exact L_.mpr ⟨o,s,rfl⟩))]
    have H:rZ d (l++[n])=rZ d l:=by
     apply act;intro m A;have:pc (l++[n]) m=pc l m:=by
      unfold pc;rw[List.any_append];have:([n].any λo=>A_ (key o=key m))=h_:=by simp![Ze,List.any_nil,acG,decide_eq_false_iff_not];exactλz=>j.1 (by rw[z];exact L_.mpr ⟨m,A,rfl⟩)
      rw[this,acG]
     rw[this]
    rw[I,H];show _=l.map _++(n::d).filter _;rw[Z8 (by simp[u])];simp[rZ]
def xW(a:(i.map key).Nodup)(b:(ψ.map key).Nodup):Ŏ i ψ=i.map (uZ ψ)++rZ ψ i:=by unfold Ŏ;rw[Da i [] (by simpa using a),adm,wq ψ i b a]
def IC(f:(i.map key).Nodup)(d:(ψ.map key).Nodup):((Ŏ i ψ).map key).Nodup:=by rw[xW f d,YE,XS];have e:i.map (key∘uZ ψ)=i.map key:=YU λa _=>GH ψ a;rw[e];refine Zj.mpr ⟨f,List.Nodup.sublist (List.Sublist.map _ abR) d,λa j b h z=>?_⟩;obtain⟨n,g,rfl⟩:=L_.mp h;have:=(XB.mp g).2;subst z;rw[Ă.mpr j]at this;cases this
def GI(g:(i.map key).Nodup)(f:(ψ.map key).Nodup)(k:∀n∈i,fm n)(d:∀n∈ψ,fm n):∀n∈Ŏ i ψ,fm n:=by
 intro n b;rw[xW g f]at b;rcases XD.mp b with h|h
 · obtain⟨a,j,rfl⟩:=L_.mp h;rcases xV ψ a with e|e;·rw[e];exact k a j
   ·exact d _ e
 ·exact d n (XB.mp h).1
def ID{g:Type}{d:g->g->Bool}(k:∀a b c,d a b=L->d b c=L->d a c=L)(x:g):∀l:g%0,(∀y∈l,d x y=L\/d y x=L)->l.Pairwise (λa b=>d a b=L)->(uY (λa b=>!d b a) x l).Pairwise (λa b=>d a b=L)
 |[],_,_=>by simp[uY]|y::l,m,h=>by
  unfold uY;rw[Xy]at h;split
  · rename_i i;have f:d x y=L:=by
     rcases m y on with q|q;·exact q
     ·rw[q]at i;cases i
    rw[Xy,Xy];refine⟨λz e=>?_,h⟩;rcases p_.mp e with rfl|e;·exact f
    ·exact k _ _ _ f (h.1 z e)
  · rename_i i;have j:d y x=L:=by simpa using i
    rw[Xy];refine⟨λz e=>?_,ID k x l (λz e=>m z (pi _ e)) h.2⟩;rcases p_.mp ((jx _ x l).mem_iff.mp e)with rfl|e;·exact j
    ·exact h.1 z e
def Dd{e:Type}{d:e->e->Bool}(f:∀a b c,d a b=L->d b c=L->d a c=L):∀l:e%0,l.Pairwise (λa b=>d a b=L\/d b a=L)->(isortB (λa b=>!d b a) l).Pairwise (λa b=>d a b=L)|[],_=>.nil|x::l,h=>by rw[Xy]at h;exact ID f x _ (λy g=>h.1 y ((isortB_perm _ l).mem_iff.mp g)) (Dd f l h.2)
def Rw{b:aj}(h:key Α≠key b):oR (key Α) (key b)=L\/oR (key b) (key Α)=L:=by cases q:oR _ _ with|true=>exact .inl rfl|false=>cases a:oR _ _ with|true=>exact .inr rfl|false=>exact absurd (vB (xs:=key Α) (ys:=key b) rfl q a) h
def Vs(d:(i.map key).Nodup):i.Pairwise (λa b=>key a≠key b):=by unfold List.Nodup at d;rw[abk]at d;exact d
def Rx{b c:aj}(h:Ŧ Α b=L)(a:Ŧ b c=L):Ŧ Α c=L:=By h a
def De(a b:aj):Ŧ a b=if a.md=b.md then oR (key a) (key b)else A_ (a.md<b.md):=by
 have f:cw [W.str a.nm,.str a.house,.str a.path]=Z (key a):=rfl;have e:cw [W.str b.nm,.str b.house,.str b.path]=Z (key b):=rfl;unfold Ŧ DH ek;simp![Ċ,Ř,Ĭ,f,e,beq_iff_eq];split
 · by_cases d:key a=key b;·simp[d,Bu]
   ·simp[d]
 ·rfl
def Ry{b:aj}(h:key Α≠key b):Ŧ Α b=L\/Ŧ b Α=L:=by
 rw[De,De];by_cases a:Α.md=b.md;·rw[if_pos a,if_pos a.symm];exact Rw h
 · rw[if_neg a,if_neg (YH a)];rcases Int.lt_or_gt_of_ne a with q|q;·exact .inl (decide_eq_true q)
   ·exact .inr (decide_eq_true q)
def Rz{b:aj}(h:Ŧ Α b=L):Α.md<=b.md:=by
 rw[De]at h;split at h;·lia
 ·lia
def Mj(d:(i.map key).Nodup):(GF i).Pairwise (λa b=>Ŧ a b=L):=Dd (d:=Ŧ) (λa b c h e=>Rx h e) i ((Vs d).imp λ{a b}h=>Ry h)
def ý(b a:aj%0):aj%0:=GF (Ŏ b a)
def ĳ:Α∈ý i ψ↔Α∈Ŏ i ψ:=(isortB_perm _ _).mem_iff
def GJ(b:(i.map key).Nodup)(a:(ψ.map key).Nodup):((ý i ψ).map key).Nodup:=((isortB_perm _ _).map key).nodup_iff.mpr (IC b a)
def GK(e:(i.map key).Nodup)(d:(ψ.map key).Nodup):(ý i ψ).Pairwise (λa b=>Ŧ a b=L):=Mj (IC e d)
def GL(f:JS y i)(d:JS y ψ):JS y (ý i ψ)where
 g:=λn j=>GI f.k d.k f.g d.g n (ĳ.mp j);s:=(GK f.k d.k).imp λ{a b}q=>Rz q;k:=GJ f.k d.k;u:=λn j=>by
  have h:=ĳ.mp j;rw[xW f.k d.k]at h;rcases XD.mp h with q|q
  · obtain⟨a,m,rfl⟩:=L_.mp q;rcases xV ψ a with e|e;·rw[e];exact f.u a m
    ·exact d.u _ e
  ·exact d.u n (XB.mp q).1
def Df(b:JS y i)(a:JS y ψ)(l:i.length+ψ.length<=20):fG [ej i,ej ψ]=ej (ý i ψ)%3/\JS y (ý i ψ)/\(ý i ψ).length<=i.length+ψ.length:=by have q:=Rv i ψ;exact⟨uT (b.jar ()) (a.jar ()) (),GL b a,by unfold ý;rw[sh];lia⟩
def Xp(h:bE [.str d]=bo L):ci [.str d]=.non%3:=by simp[ci,gJ,fI,bg,c9,à,cC,fB,ĉ,ae,aP,dg,Y,h]
def Xq(a:aj%0)(h:Str):aj%0:=a.filter λn=>!KE n.house h
def GM(b:JS y i)(d:i.length<=20){h:Str}(a:h∈En):cT [ej i,.str h]=ej (Xq i h)%3:=by refine mO ?_;unfold fJ;rw[ax (dY ar rfl (ze (ls (b.jar d)))),ax (dY ci rfl (Xp (QJ a)))];refine dO ?_;exact(cg (ac (gF ä _ ä (gI rfl) () λn e=>⟨iH (bf (dk aR rfl rfl (GB (b.g n e).house a))),rfl⟩) ak))
def az{a:î}{K:cm}(h:È j θ=Z (.nx a ο)):da È K j θ=K ο a:=by unfold da;rw[h];rfl
def qB{K:cm}(h:È j θ=Z (.exc b ο)):da È K j θ=Z (.exc b ο):=by unfold da;rw[h];rfl
def wt{K:cm}(h:È j θ=Z (.rt Ë ο)):da È K j θ=Z (.rt Ë ο):=by unfold da;rw[h];rfl
def bG{a:î}(h:τ j θ=Z (.ok Ë ο))(e:θ.set b (Z Ë)=a):jV b τ j θ=Z (.nx a ο):=by unfold jV;rw[h,<-e];rfl
def RA(h:τ j θ=Z (.exc o ο)):jV b τ j θ=Z (.exc o ο):=by unfold jV;rw[h];rfl
def si(h:τ j θ=Z (.exc b ο)):eE τ j θ=Z (.exc b ο):=by unfold eE;rw[h];rfl
def bK(h:τ j θ=Z (.ok Ë ο)):eE τ j θ=Z (.nx θ ο):=by unfold eE;rw[h];rfl
def cB(h:τ j θ=Z (.ok Ë ο)):lD τ j θ=Z (.rt Ë ο):=by unfold lD;rw[h];rfl
def Dg(h:τ j θ=Z (.exc b ο)):lD τ j θ=Z (.exc b ο):=by unfold lD;rw[h];rfl
def ah(h:z (ċ j θ)=m%3)(a:pl m=L):aI z j θ=Z (.ok (.inl m) j):=by unfold aI;rw[h];exact if_pos a
def wu(h:z (ċ j θ)=b%9):aI z j θ=Z (.exc b j):=by unfold aI;rw[h]
def aV(h:θ[b]?=Z (Z Ë)):c8 b j θ=Z (.ok Ë j):=by unfold c8;rw[h]
def ai{a:Ý}(h:τ j θ=Z (.ok Ë ο))(b:Χ ο θ=Z (.ok Ο a)):aJ τ Χ j θ=Z (.ok (Ë::Ο) a):=by unfold aJ fq;rw[h];dsimp!;rw[b]
def Dh(h:τ j θ=Z (.exc b ο)):aJ τ Χ j θ=Z (.exc b ο):=by unfold aJ fq;rw[h]
def xX{a:Ý}(h:τ j θ=Z (.ok Ë ο))(d:Χ ο θ=Z (.exc b a)):aJ τ Χ j θ=Z (.exc b a):=by unfold aJ fq;rw[h];dsimp!;rw[d]
def cr{a:Ý}{g:Uv%0}(h:τ j θ=Z (.ok (.inr Δ) ο))(d:ο[Δ]?=Z (.obj b g))(f:Χ ο θ=Z (.ok Ο a))(e:Ο.length=o):fU b Ð o τ Χ j θ=Ð a (.inr Δ::Ο):=by unfold fU fq;rw[h];dsimp!;rw[d];dsimp!;rw[if_pos rfl,f];exact if_pos e
def Di{a:Ý}{e:Nat}(h:τ j θ=Z (.ok (.inr Δ) ο))(d:ο[Δ]?=Z (.obj b Ο))(f:Χ ο θ=Z (.exc e a)):fU b Ð o τ Χ j θ=Z (.exc e a):=by unfold fU fq;rw[h];dsimp!;rw[d];dsimp!;rw[if_pos rfl,f]
def ww{K:cm}{p:oW}(h:p j θ=Z (.ok L ο)):ň p È K j θ=È ο θ:=by unfold ň;rw[h];rfl
def uV{K:cm}{p:oW}(h:p j θ=Z (.ok h_ ο)):ň p È K j θ=K ο θ:=by unfold ň;rw[h];rfl
def iJ(h:Ξ (ċ j θ)=H%3):fT Ξ j θ=Z (.ok H j):=by unfold fT;rw[h]
def du(h:È j (Ο.map Z++XF (b-Ο.length) U)=Z (.rt Ë ο)):kJ b È j Ο=Z (.ok Ë ο):=by unfold kJ;rw[h]
def Dj(h:È j (Ο.map Z++XF (b-Ο.length) U)=Z (.nx θ ο)):kJ b È j Ο=Z (.ok (.inl .non) ο):=by unfold kJ;rw[h]
def uW(h:È j (Ο.map Z++XF (b-Ο.length) U)=Z (.exc o ο)):kJ b È j Ο=Z (.exc o ο):=by unfold kJ;rw[h]
def wx(h:τ j θ=Z (.ok (.inr Δ) ο))(a:ο[Δ]?=Z (.obj b Ο))(d:Ο[o]?=Z Ë):K1 b o τ j θ=Z (.ok Ë ο):=by unfold K1 fq Us;rw[h];dsimp!;rw[a];dsimp!;rw[if_pos rfl,d]
def mx{e:Ý}{a:ë}{d:Uv%0}(i:τ j θ=Z (.ok Ë ο))(h:a ο θ=Z (.ok (.inr Δ) e))(f:e[Δ]?=Z (.obj b Ο))(g:F0 b o Ë Ο=Z d):zk b o a τ j θ=Z (.nx θ (e.set Δ (.obj b d))):=by unfold zk FY;rw[i];dsimp!;rw[h];dsimp!;rw[f];dsimp!;rw[if_pos rfl,g]
def wy{d:Ý}{a:W%0}(h:τ j θ=Z (.ok (.inr b) ο))(e:ο[b]?=Z (.lst u))(g:Χ ο θ=Z (.ok [.inl m] d))(i:d[b]?=Z (.lst a))(f:a.length<100000):K5 τ Χ j θ=Z (.ok (.inl .non) (d.set b (.lst (a++[m])))):=by unfold K5 fq;rw[h];dsimp!;rw[e];rw[g];dsimp!;rw[i];exact if_pos f
def nh:B6 fu j θ=Z (.ok (.inr j.length) (j++[ò.lst []])):=rfl
abbrev Sp:=Str×aj%0
def Ō(s:Sp):W:=.tup [.str s.1,ej s.2]
def ř(T:W)(b:aj%0)(d a:Sp%0):W:=.obj 1 [T,ej b,.lst (d.map Ō),.lst (a.map Ō)]
def Ś(T:W)(d:aj%0)(a b:Nat):ò:=.obj 1 [.inl T,.inl (ej d),.inr a,.inr b]
structure DA(S:Ý)(n:Nat)(T:W)(js:aj%0)(ds us:Sp%0)(a b:Nat):Prop where
 o:S[n]?=Z (Ś T js a b)d:S[a]?=Z (.lst (ds.map Ō))u:S[b]?=Z (.lst (us.map Ō))na:n≠a
 nb:n≠b
 ab:a≠b
structure Ch(S S':Ý)(n a b:Nat):Prop where
 l:S.length<=S'.length
 h:∀c,c<S.length->c≠n->c≠a->c≠b->S'[c]?=S[c]?
variable{Μ Æ:Sp%0}
def DA.vw(h:DA j b m i Μ Æ o Δ):vw j (.inr b)=Z (ř m i Μ Æ):=by unfold FD.vw;dsimp!;rw[h.o];simp[Ś,vwL,vw1,h.d,h.u,ř]
def pk{l:Q%0}(h:l[b]?=Z Ò):b<l.length:=(u_.mp h).1
def Ch.refl:Ch j j b o Δ:=⟨o_ _,λ_ _ _ _ _=>rfl⟩
def Ch.trans{i:Ý}{a:Nat}(h:Ch j ο b o Δ)(g:Ch ο i b o a)(m:a=Δ\/j.length<=a):Ch j i b o Δ:=⟨Xx h.l g.l,λc k f e d=>by have n:=h.l;rw[g.h c () f e (by rcases m with rfl|q<;>first|exact d|lia)];exact h.h c k f e d⟩
def lz:bt [ř m i Μ Æ]=ej i%3:=rfl
def xY:ee [ř m i Μ Æ]=.tup [.int (Μ.length:Nat),.int (Æ.length:Nat)]%3:=by simp[ee,gJ,fV,aL,c9,à,ii,aP,dg,ì,f1,sr,Y,ř,gL]
def jS(a:aj%0):pl (ej a)=L:=by exact lu a
def RB(a:aj%0):ĩ (ej a)=L:=by exact lu a
def Ml(s:Sp):ĩ (Ō s)=L:=by simp[Ō,ĩ,é,RB]
def Ľ(h:DA j b m i Μ Æ o Δ)(w:Str)(s:Μ.length<1000):∃a,bZ j [.inr b,.inl (.str w),.inl (ej ψ)]=Z (.ok (.inl .non) a)/\DA a b m ψ (Μ++[(w,i)]) [] o j.length/\Ch j a b o Δ:=by
 have n:=pk h.o;have d:=pk h.d;refine⟨(((j.set o (.lst ((Μ++[(w,i)]).map Ō)))++[ò.lst []]).set b (Ś m i o j.length)).set b (Ś m ψ o j.length),?_,⟨?_,?_,?_,h.na,by lia,by lia⟩,⟨by simp,λc p e q _=>?_⟩⟩
 · refine Dj (θ:=[b%6,.str w%7,ej ψ%7]) ?_;show cP j [Z _,Z _,Z _]=_;unfold cP;have g:ċ j [b%6,.str w%7,ej ψ%7]=[Z (ř m i Μ Æ),Z (.str w),Z (ej ψ)]:=by simp![ċ,F_,Option.bind_some];rw[h.vw];rfl
   rw[az (bK (wy (wx (aV rfl) h.o rfl) h.d (ai (ah (m:=Ō (w,i)) (by rw[g];rfl) (Ml _)) rfl) h.d (by simpa using())))];have k:(j.set o (.lst (Μ.map Ō++[Ō (w,i)]))++[ò.lst []])[b]?=Z (Ś m i o Δ):=by rw[w_ (by simpa using n),z_ (YH h.na)];exact h.o
   have r:zk 1 3 (c8 0) (B6 fu) (j.set o (.lst (Μ.map Ō++[Ō (w,i)]))) [b%6,.str w%7,ej ψ%7]=Z (.nx [b%6,.str w%7,ej ψ%7] ((j.set o (.lst (Μ.map Ō++[Ō (w,i)]))++[ò.lst []]).set b (Ś m i o j.length))):=by have:=mx (o:=3) (d:=[.inl m,.inl (ej i),.inr o,.inr j.length]) (a:=c8 0) (θ:=[Z _,.str w%7,ej ψ%7]) nh (aV rfl) k (by simp[F0]);exact this
   rw[az r];have f:(Y 2) (ċ ((j.set o (.lst (Μ.map Ō++[Ō (w,i)]))++[ò.lst []]).set b (Ś m i o j.length)) [b%6,.str w%7,_%7])=ej ψ%3:=rfl;rw[(mx (d:=[.inl m,.inl (ej ψ),.inr o,.inr j.length]) (ah f (jS ψ)) (aV rfl) (K_ (by simp;lia)) (rfl))];simp[Ś]
 ·exact K_ (by simp;lia)
 ·rw[z_ h.na,z_ h.na,w_ (by simpa using d)];exact K_ d
 ·rw[z_ (),z_ (),G_ ∅];simp
 ·rw[z_ (YH e),z_ (YH e),w_ (by simpa using p),z_ (YH q)]
def Did(S:Ý)(n:Nat)(T:W)(f:aj%0)(g:Sp%0)(a b:Nat)(e:aj%0)(w:Str)(v:W)(r:Ru Uv%1):Prop:=∃d,r=Z (.ok (.inl v) d)/\DA d n T e (g++[(w,f)]) [] a S.length/\Ch S d n a b
def GN(h:ε[0]?=Z (Z (ř m i Μ Æ))):f1 (sr 1 1) (Y 0) ε=ej i%3:=by unfold f1 Y;rw[h];rfl
def Wl(h:ε[0]?=Z (Z (ř m i Μ Æ))):f1 (sr 1 0) (Y 0) ε=m%3:=by unfold f1 Y;rw[h];rfl
def GO(h:DA j b m i Μ Æ o Δ)(a:θ[0]?=Z (b%6)):(ċ j θ)[0]?=Z (Z (ř m i Μ Æ)):=by unfold ċ;rw[P_,a];show Z (vw j (.inr b))=_;rw[h.vw]
def xZ(h:DA j b m i Μ Æ o Δ)(w:Str)(d:Μ.length<1000):Did j b m i Μ o Δ ψ w (.int ((i.length:Int)-(ψ.length:Int))) (bX j [.inr b,.inl (.str w),.inl (ej ψ)]):=by obtain⟨f,e,D,C⟩:=Ľ h w d;refine⟨f,du ?_,D,C⟩;show bF j [Z _,Z _,Z _,U]=_;unfold bF;rw[az (bG (a:=[Z _,Z _,Z _,Z _]) (ah ((bq ((cg (ac (GN (GO h rfl)) ak)).trans (uR i)) ((cg (ac rfl ak)).trans (uR ψ)))) rfl) rfl)];have a:fU 1 bZ 2 (c8 0) (aJ (aI (Y 1)) (aJ (aI (Y 2)) fu)) j [Z _,_%7,_%7,.int ((i.length)-(ψ.length))%7]=Z _:=(cr (aV rfl) h.o (ai (ah rfl rfl) (ai (ah rfl (jS ψ)) rfl)) rfl).trans e;rw[az (bK a)];exact cB (ah rfl rfl)
def cE2(F:Þ){f g:Û}{d:Ev}{a b:W}{r:Rs W%1}(h:f d=a%3)(i:g d=b%3)(e:F [a,b]=r):ay F 2 (bP f g) d=r:=cE F (ac h (ac i ak)) rfl e
def GP(h:DA j b m i Μ Æ o Δ)(a:Μ.length<1000){k:Int}(e:iY [ej i,.int k]=ej ψ%3):Did j b m i Μ o Δ ψ "sweep" (.int ((i.length:Int)-(ψ.length:Int))) (cZ j [.inr b,.inl (.int k)]):=by obtain⟨f,d,D,C⟩:=xZ h "sweep" a;refine⟨f,du ?_,D,C⟩;exact cB ((cr (aV rfl) h.o (ai (ah rfl rfl) (ai (ah (cE2 iY (GN (GO h rfl)) rfl e) (jS ψ)) rfl)) rfl).trans d)
def Dk(h:DA j b m i Μ Æ o Δ)(a:Μ.length<1000){k:Str}(e:cT [ej i,.str k]=ej ψ%3):Did j b m i Μ o Δ ψ "forget" (.int ((i.length:Int)-(ψ.length:Int))) (cz j [.inr b,.inl (.str k)]):=by obtain⟨f,d,D,C⟩:=xZ h "forget" a;refine⟨f,du ?_,D,C⟩;exact cB ((cr (aV rfl) h.o (ai (ah rfl rfl) (ai (ah (cE2 cT (GN (GO h rfl)) rfl e) (jS ψ)) rfl)) rfl).trans d)
def ya(h:DA j b m i Μ Æ o Δ)(d:Μ.length<1000){a:aj%0}(e:fG [ej i,ej a]=ej ψ%3):Did j b m i Μ o Δ ψ "merge" (.int (ψ.length:Nat)) (cp j [.inr b,.inl (ej a)]):=by obtain⟨g,f,D,C⟩:=Ľ h "merge" d;refine⟨g,du ?_,D,C⟩;show d5 j [Z _,Z _,U]=_;unfold d5;rw[az (bG (ah (cE2 fG (GN (GO h rfl)) rfl e) (jS ψ)) rfl)];exact Yy (az (bK ((cr (aV rfl) h.o (ai (ah rfl rfl) (ai (ah rfl (jS ψ)) rfl)) rfl).trans f))) (cB (ah ((cg (ac rfl ak)).trans (uR ψ)) rfl))
def cE5(F:Þ){f g k m q:Û}{i:Ev}{a b c d e:W}{r:Rs W%1}(h:f i=a%3)(s:g i=b%3)(j:k i=c%3)(p:m i=d%3)(o:q i=e%3)(n:F [a,b,c,d,e]=r):ay F 5 (sk f g k m q) i=r:=cE F (ac h (ac s (ac j (ac p (ac o ak))))) rfl n
def Mm(h:DA j b m i Μ Æ o Δ)(g:Μ.length<1000){A X:W}{a:Int}{w:Str}(r:pl A=L)(q:pl X=L)(e:jY [m,ej i,A,X,.int a]=ej ψ%3)(k:fZ [m,ej i,A,X,.int a]=.str w%3):Did j b m i Μ o Δ ψ "give" (.str w) (gU j [.inr b,.inl A,.inl X,.inl (.int a)]):=by obtain⟨p,n,D,C⟩:=Ľ h "give" g;refine⟨p,du ?_,D,C⟩;show fK j [Z _,Z _,Z _,Z _,U,U]=_;unfold fK;have f:=GO (θ:=[Z _,A%7,X%7,.int a%7,U,U]) h rfl;have d:=GO (θ:=[Z _,A%7,X%7,.int a%7,ej ψ%7,U]) h rfl;rw[az (bG (a:=[Z _,Z _,Z _,Z _,Z _,U]) (ah (cE5 jY (Wl f) (GN f) rfl rfl rfl e) (jS ψ)) rfl),az (bG (ah (cE5 fZ (Wl d) (GN d) rfl rfl rfl k) rfl) rfl)];exact Yy (az (bK ((cr (aV rfl) h.o (ai (ah rfl rfl) (ai (ah rfl (jS ψ)) rfl)) rfl).trans n))) (cB (ah rfl rfl))
def w4:Str%0:=[b_ "give",b_ "sweep",b_ "forget",b_ "merge"]
def yb(S:Q%0)(x y:Q)(r:Q%0):(S++x::r).set S.length y=S++y::r:=by simp
def ji(S:Q%0)(x:Q)(r:Q%0):(S++x::r)[S.length]?=Z x:=by rw[G_ (o_ _),aag];rfl
def DA.app(h:DA j b m i Μ Æ o Δ)(r:Ý):DA (j++r) b m i Μ Æ o Δ:=⟨by rw[w_ (pk h.o)];exact h.o,by rw[w_ (pk h.d)];exact h.d,by rw[w_ (pk h.u)];exact h.u,h.na,h.nb,h.ab⟩
def Vt(h:cX [m]=bo L):aK [m]=.non%3:=by simp[aK,gJ,dZ,bg,c9,à,cC,fB,ĉ,ae,aP,dg,Y,h]
def Mn(g:cX [m]=bo L)(f:pl m=L):bN (j++[.obj 1 []]) [.inr j.length,.inl m]=Z (.ok (.inl .non) (j++[Ś m [] (j.length+1) (j.length+2),.lst [],.lst []])):=by refine Dj (θ:=[j.length%6,m%7]) ?_;show cx _ [Z _,Z _]=_;unfold cx;have h:ay aK 1 (al (Y 1)) (ċ (j++[.obj 1 []]) [j.length%6,m%7])=Z _:=cE aK (ac rfl ak) rfl (Vt g);rw[az (bK (ah h rfl))];have e:=mx (o:=0) (d:=[.inl m]) (τ:=aI (Y 1)) (a:=c8 0) (θ:=[Z _,m%7]) (ah rfl f) (aV rfl) (ji j (.obj 1 []) []) (rfl);rw[yb]at e;rw[az e];have d:=mx (o:=1) (d:=[.inl m,.inl (ej [])]) (τ:=aI (ii dg)) (a:=c8 0) (θ:=[Z _,m%7]) (ah (m:=ej []) rfl (jS [])) (aV rfl) (ji j (.obj 1 [.inl m]) []) (rfl);rw[yb]at d;rw[az d];have b:=mx (o:=2) (d:=[.inl m,.inl (ej []),.inr (j.length+1)]) (a:=c8 0) (θ:=[Z _,m%7]) (nh (j:=j++[ò.obj 1 [.inl m,.inl (ej [])]])) (aV rfl) (by rw[XM];exact ji j _ _) (by simp[F0,ė]);rw[XM,List.singleton_append,yb]at b;rw[az b];have a:=mx (o:=3) (d:=[.inl m,.inl (ej []),.inr (j.length+1),.inr (j.length+2)]) (a:=c8 0) (θ:=[Z _,m%7]) (nh (j:=j++ò.obj 1 [.inl m,.inl (ej []),.inr (j.length+1)]::[ò.lst []])) (aV rfl) (by rw[XM];exact ji j _ _) (by simp[F0,ė]);rw[XM,acX,yb]at a;rw[a];rfl
def Dl(d:cX [m]=bo L)(a:pl m=L)(b:Χ j θ=Z (.ok [.inl m] j)):yK 1 bN 1 Χ j θ=Z (.ok (.inr j.length) (j++[Ś m [] (j.length+1) (j.length+2),.lst [],.lst []])):=by unfold yK fq;rw[b];dsimp!;rw[show([P' m]:Uv%0).length=1 from rfl,if_pos rfl,Mn d a]
def nj{g:W->W->Rs W%1}(h:τ j θ=Z (.ok (.inl m) ο))(b:z (ċ ο θ)=π%3)(a:g m π=.bl H%3):lS g τ z j θ=Z (.ok (.inl (.bl H)) ο):=by unfold lS fq;rw[h];dsimp!;rw[show vw ο _=Z m from rfl,b];dsimp!;rw[a]
def W8:W:=.tup (j'.map W.str)
def E9(f:Int%0)(z:Int)(n:Nat)(a d:Int)(l:Int)(e b:Uv%1):î:=[.scr f%7,.int z%7,n%6,.int a%7,.int d%7,.int l%7,W8%7,e,b]
structure DI(now:Int)(js:aj%0)(ds:Sp%0)(m:Nat):Prop where
 j:JS now js
 l:js.length<=3*m
 m:ds.length<=m
def DI.later(D:DI y i Μ b)(h:y<=Ã)(a:b<=o):DI Ã i Μ o:=⟨D.j.later h,by have:=D.l;lia,Xx D.m a⟩
def wz{r:Rs W%1}(h:ε[b]?=Z (Z (ř m i Μ Æ)))(a:Â [ř m i Μ Æ]=r):kY 1 Â 0 (Y b) dg ε=r:=by unfold kY Y;rw[h];show(if isO 1 (ř m i Μ Æ)=L then _ else U)=_;exact a
def v2{f:Int%0}{d:Int}{e a:Uv%1}{l:Int}(h:DA j b m i Μ Æ o Δ):(ċ j (E9 f y b Ã d l e a))[2]?=Z (Z (ř m i Μ Æ)):=by show Z (vw j (.inr b))=_;rw[h.vw]
def Vu{f:Int%0}{d:Int}{e a:Uv%1}{l:Int}(h:DA j b m i Μ Æ o Δ):ì gL (al (kY 1 bt 0 (Y 2) dg)) (ċ j (E9 f y b Ã d l e a))=.int (i.length:Nat)%3:=(cg (ac (wz (v2 h) lz) ak)).trans (uR i)
def nn{a:Int%0}{d:Int}(h:DA j b m i Μ Æ o Δ)(g:ag [.scr a,.int y,.int 6]=.int d%3){u:Uv}{e:Ý}(f:cq j (E9 a y b Ã d (i.length:Nat) U U)=Z (.rt u e)):gW j [.inl (.scr a),.inl (.int y),.inr b,.inl (.int Ã)]=Z (.ok u e):=by
 refine du ?_;refine Yy (az (bG (ah (rP ag rfl rfl rfl g) rfl) rfl)) ?_;have v:(ċ j [.scr a%7,.int y%7,b%6,.int Ã%7,.int d%7,U,U,U,U])[2]?=Z (Z (ř m i Μ Æ)):=by show Z (vw j (.inr b))=_;rw[h.vw]
 refine Yy (az (bG (ah ((cg (ac (wz v lz) ak)).trans (uR i)) rfl) rfl)) (Yy (az (bG (a:=E9 a y b Ã d _ U U) (ah (m:=W8) rfl rfl) rfl)) ?_);unfold F3;rw[f]
def lt3{f:Int%0}{d:Int}{e a:Uv%1}{l:Int}:fT (fB (R ltX (Y 4) (X 3))) j (E9 f y b Ã d l e a)=Z (.ok (A_ (d<3)) j):=iJ (bf ((bq (m:=.int d) (π:=.int 3) rfl rfl)))
def eqk{f:Int%0}{d:Int}{e a:Uv%1}{l k:Int}:fT (fB (R è (Y 4) (fC (.int k)))) j (E9 f y b Ã d l e a)=Z (.ok (d==k) j):=iJ (bf ((bq (m:=.int d) (π:=.int k) rfl rfl)))
def ifN{p:oW}(h:p j θ=Z (.ok h_ j)):ň p È DF j θ=Z (.nx θ j):=(uV h)
def Vw(x:Int):è (.int x) (.int x)=.bl L%3:=by show Z _=_;rw[beq_self_eq_true]
def Vx(h:d∈j'):ł (.str d) W8=bo L:=by unfold j' at h;simp![p_,J_,or_false]at h;rcases h with rfl|rfl|rfl|rfl|rfl|rfl|rfl|rfl<;>lk
def RC(a:Ak d r m):pl (ĕ H d r m)=L:=by rcases a.o with rfl|⟨o,_,rfl⟩<;>rfl
def bd(a:Int):Int:=if a<13 then 13 else a
def RD(a:Int):a<=bd a:=by unfold bd;split<;>lia
def Vy(a:Int):13<=bd a:=by unfold bd;split<;>lia
def Wm(a:u∈iK æ):pl (.tup u)=L:=by have:(iK æ).all (λu=>pl (.tup u))=L:=rfl;exact aX this a
def Mp{f:Int%0}{a:Int}(D:DA j b m i Μ Æ o Δ)(p:a<3)(u:cY [.scr f,.int (y+1)]=π%3)(g:pl π=L)(k:Ø π (.int 1)=.str d%3)(s:dH [.scr f,.int (y+8),.str d]=Η%3)(h:pl Η=L)(q:fj [Η]=.str r%3)(e:gU j [.inr b,.inl π,.inl (.str r),.inl (.int Ã)]=Z (.ok (.inl (.str χ)) ο))(n:χ∈j'):cq j (E9 f y b Ã a (i.length:Nat) U U)=Z (.rt (.inl (.bl L)) ο):=by exact wt ((ww (by rw[lt3,decide_eq_true p])).trans ((az (bG (ah (dk cY rfl rfl u) g) rfl)).trans ((az (bG (ah (rP dH rfl rfl ((bq rfl rfl).trans k) s) h) rfl)).trans (cB (nj ((cr (aV rfl) D.o (ai (ah rfl g) (ai (ah (dJ fj rfl q) rfl) (ai (ah rfl rfl) rfl))) rfl).trans e) rfl (Vx n))))))
def GQ{f:Int%0}{a:Int}(D:DA j b m i Μ Æ o Δ)(g:a=3)(e:cZ j [.inr b,.inl (.int Ã)]=Z (.ok (.inl (.int ((i.length:Int)-(ψ.length:Int)))) ο))(h:DA ο b m ψ (Μ++[(d,i)]) [] o j.length):cq j (E9 f y b Ã a (i.length:Nat) U U)=Z (.rt (.inl (.bl L)) ο):=by exact(az (ifN (by rw[lt3,decide_eq_false ()]))).trans (wt ((ww (by rw[g];rfl)).trans (cB (nj ((cr (aV rfl) D.o (ai (ah rfl rfl) rfl) rfl).trans e) ((bq (m:=.int _) rfl (Vu h))) (Vw _)))))
def Do{f:Int%0}{a:Int}(D:DA j b m i Μ Æ o Δ)(g:a=4)(h:aU [.scr f,.int (y+2)]=.str d%3)(e:cz j [.inr b,.inl (.str d)]=Z (.ok (.inl (.int ((i.length:Int)-(ψ.length:Int)))) ο))(k:DA ο b m ψ (Μ++[(r,i)]) [] o j.length):cq j (E9 f y b Ã a (i.length:Nat) U U)=Z (.rt (.inl (.bl L)) ο):=by exact(az (ifN (by rw[lt3,decide_eq_false ()]))).trans ((az (ifN (by rw[g];rfl))).trans (wt ((ww (by rw[g];rfl)).trans (cB (nj ((cr (Ο:=[.inl _]) (aV rfl) D.o (ai (ah (dk aU rfl rfl h) rfl) rfl) rfl).trans e) ((bq (m:=.int _) rfl (Vu k))) (Vw _))))))
def GR{g:Int%0}{a:Int}{f:aj%0}(D:DA j b m i Μ Æ o Δ)(n:4<a)(h:eY [.scr g,.int (y+25),.int 3]=ej f%3)(e:cp j [.inr b,.inl (ej f)]=Z (.ok (.inl (.int (ψ.length:Nat))) ο))(k:DA ο b m ψ (Μ++[(d,i)]) [] o j.length):cq j (E9 g y b Ã a (i.length:Nat) U U)=Z (.rt (.inl (.bl L)) ο):=by exact(az (ifN (by rw[lt3,decide_eq_false ()]))).trans ((az (ifN (by rw[eqk,show(a==3)=h_ by simp;lia]))).trans ((az (ifN (by rw[eqk,show(a==4)=h_ by simp;lia]))).trans (cB (nj ((cr (aV rfl) D.o (ai (ah (rP eY rfl rfl rfl h) (jS f)) rfl) rfl).trans e) (Vu k) (Vw _)))))
def Mq{v:Int%0}(I:v.length<=63)(z:Int)(ht:u∈iK æ)(J:DI y i Μ b)(n0:0<=y)(n1:y<=200)(hm:b<=4){S:Ý}{n a f:Nat}(D:DA S n (.tup u) i Μ Æ a f):∃Q a' k,DI (bd y) Q a' (b+1)/\gW S [.inl (.scr v),.inl (.int z),.inr n,.inl (.int y)]=Z (.ok (.inl (.bl L)) k)/\DA k n (.tup u) Q a' [] a S.length/\Ch S k n a f:=by
 obtain⟨d,d0,d1,e0⟩:=aW v I z 6 ();have c':=J.m;have jl:=J.l;have dl:Μ.length<1000:=by lia
 have JB:=J.j.later (RD y);have r:∀{E:aj%0}{w:Str},JS _ E->E.length<=i.length+3->DI (bd y) E (Μ++[(w,i)]) (b+1):=λ{E w}a f=>⟨a,by lia,by simp;lia⟩;by_cases h3:d<3
 · obtain⟨s,h,p,O,hh,hp,hO,eA⟩:=rQ v I _;have a:Ak h p O:=⟨me hh,hp,hO⟩;obtain⟨nm,w,H,P,j,l,S0,R,g,eG⟩:=Gy v I _ hh;obtain⟨X,eX,eR⟩:=Mg g;obtain⟨x,E,hx,ev,et,Jy,ly⟩:=GD ht a g eR J.j () n0 n1;obtain⟨k,A,o,C⟩:=Mm D dl (RC a) rfl et ev;have pg:pl (Ę nm w H P j l S0 R)=L:=by obtain⟨h',p',u',l',gw,e⟩:=Q1 g;rw[e];cases h'<;>cases p'<;>cases u'<;>cases l'<;>rfl
   exact⟨E,_,k,r (Jy.later (RD y)) (),nn D e0 (Mp D h3 eA (RC a) rfl eG pg eX A hx),o,C⟩
 · by_cases k3:d=3;·obtain⟨k,A,o,C⟩:=GP D dl (Mh J.j () n0 ());exact⟨_,_,k,r (JB.filt _) (Xx (Yh _ _) ()),nn D e0 (GQ D k3 A o),o,C⟩
   · by_cases k4:d=4;·obtain⟨q,hq,eN⟩:=oF v I _;obtain⟨k,A,o,C⟩:=Dk D dl (GM J.j () (me hq));exact⟨_,_,k,r (JB.filt _) (Xx (Yh _ _) ()),nn D e0 (Do D k4 eN A o),o,C⟩
     ·obtain⟨os,nw,eJ,Jo,lo,m⟩:=Ir v I _ 3 ();have b':JS (bd y) os:=⟨m.g,m.s,m.k,λx hx=>by have h1:=m.u x hx;have h2:=m.n1;have:=Vy y;lia⟩;obtain⟨em,Jy,ly⟩:=Df JB b' ();obtain⟨k,A,o,C⟩:=ya D dl em;exact⟨_,_,k,r Jy (),nn D e0 (GR D () eJ A o),o,C⟩
abbrev stD(x y:Nat):W:=.tup [.int (x:Nat),.int (y:Nat)]
def Mr(x y:Nat):Ē 1 (stD x y):=oE λd a=>by simp![p_,J_,or_false]at a;rcases a with rfl|rfl<;>exact ğ
def Vz(x y:Nat):è (stD x y) (stD x y)=bo L:=rN ((Mr x y).okP ()) (Mr x y).p
def RE(h:τ j θ=Z (.ok (.inl (.bl H)) ο)):uB τ j θ=Z (.ok H ο):=by unfold uB fq;rw[h];rfl
def VA{p q:oW}(h:p j θ=Z (.ok h_ ο)):uOr p q j θ=q ο θ:=by unfold uOr fq;rw[h];rfl
def Ms{p:oW}(h:p j θ=Z (.ok H ο)):Se p j θ=Z (.ok (!H) ο):=by unfold Se fq;rw[h]
def Mt{g:W->W->Rs W%1}(h:τ j θ=Z (.ok Ë ο))(a:vw ο Ë=Z m)(d:z (ċ ο θ)=π%3)(b:g m π=.bl H%3):lS g τ z j θ=Z (.ok (.inl (.bl H)) ο):=by unfold lS fq;rw[h];dsimp!;rw[a,d];dsimp!;rw[b]
def wA{p:oW}(h:p j θ=Z (.ok h_ ο)):ň p È DF j θ=Z (.nx θ ο):=(uV h)
def Dr{a:Nat}(h:DA j o m i Μ Æ Δ a)(d:θ[b]?=Z (o%6)):(ċ j θ)[b]?=Z (Z (ř m i Μ Æ)):=by unfold ċ;rw[P_,d];show Z (vw j (.inr o))=_;rw[h.vw]
def qC(h:j[b]?=Z (.lst u)):vw j (.inr b)=Z (.lst u):=by unfold FD.vw;dsimp!;rw[h]
def Mu(h:j[o]?=Z (.lst u))(a:θ[b]?=Z (o%6)):Y b (ċ j θ)=.lst u%3:=by unfold Y ċ;rw[P_,a];show(match Z (vw j (.inr o))with|some (Z d)=>_|_=>_)=_;rw[qC h]
def Ds{f:Nat%0}{a:î}(h:È j ((Sd f θ).set b (Z Ë))=Z (.nx a ο)):nX b f È (Ë::Ο) j θ=nX b f È Ο ο a:=by show(match È j _ with|some (.nx a ο)=>nX b f È Ο ο a|o=>o)=_;rw[h]
abbrev rgU(k r:Nat):Uv%0:=(List.range' k r).map λ(j:Nat)=>.inl (.int (0+(j:Int)*1))
def GS{f:Nat%0}{w:FnI}{r:ũ%1}(h:w (ċ j θ)=Z (0,1,o))(e:nX b f È (rgU 0 o) j θ=r):yM b f (HZ w) È j θ=r:=by unfold yM HZ;rw[h];show nX b f È _ j θ=r;rw[adH];exact e
def IE(h:μ ε=Z (.ok [.int (b:Int)]))(a:b<=1000):iU1 μ ε=Z (0,1,b):=by unfold iU1;rw[h];show(if okR _ then Z _ else U)=_;rw[if_pos ⟨by lia,by lia⟩];rfl
def Xr(h:bE [m]=bo h_):ci [m]=0%9:=by simp[ci,gJ,fI,bg,c9,à,cC,fB,ĉ,ae,aP,dg,Y,fC,dP,h]
def Mv(h:DA j b m i Μ Æ o Δ)(J:ě i):cZ j [.inr b,.inl (.int (-1))]=Z (.exc 6 j):=by have e:iY [ej i,.int _]=Z _:=UU (by unfold lb;rw[ax (dY ar rfl (ze (ls J)))];exact UX (dX aB rfl (Xd (L7 (-1)))));refine uW ?_;exact Dg (Di (aV rfl) h.o (xX (ah rfl rfl) (Dh (wu (cE2 iY (GN (GO h rfl)) rfl e)))))
def GT(h:DA j b m i Μ Æ o Δ)(J:ě i):cz j [.inr b,.inl (.str "A")]=Z (.exc 0 j):=by have e:cT [ej i,.str "A"]=Z _:=UU (by unfold fJ;rw[ax (dY ar rfl (ze (ls J)))];exact UX (dX ci rfl (Xr (by lk))));refine uW ?_;exact Dg (Di (aV rfl) h.o (xX (ah rfl rfl) (Dh (wu (cE2 cT (GN (GO h rfl)) rfl e)))))
def Mw(h:DA j b m i Μ Æ o Δ)(J:ě i){c:Nat}(a:j[c]?=Z (.lst [])):cp j [.inr b,.inr c]=Z (.exc 5 j):=by have e:fG [ej i,.lst []]=Z _:=UU (by unfold iy;rw[ax (dY ar rfl (ze (ls J)))];exact UX (dX ar rfl (Xn (rfl))));refine uW ?_;exact qB (RA (wu (cE2 fG (GN (GO h rfl)) (Mu a rfl) e)))
def Mx(h:DA j b m i Μ [] o Δ):iW j [.inr b]=Z (.exc 8 j):=by
 have e:jF j [.inr b,.inr Δ,.inr o]=Z (.exc 8 j):=by refine uW ?_;exact qB ((ww (iJ (bf ((bq (Mu h.u rfl) rfl).trans (rfl))))))
 refine uW ?_;exact Dg ((cr (aV rfl) h.o (ai (wx (aV rfl) h.o rfl) (ai (wx (aV rfl) h.o rfl) rfl)) rfl).trans e)
def R3(k:Int)(n:Nat):î:=[.int k%7,n%6,U]
def GU(a:([0,1,2,3,4,5,6,8]:Nat%0).contains o=L)(d:o<9)(h:fN j (R3 y b)=Z (.exc o ο)):bw j [.inl (.int y),.inr b]=Z (.ok (.inl (.bl L)) ο):=du (by
 show cU j (R3 y b)=_;unfold cU F9;rw[h];dsimp!;rw[if_pos d];have:(f1 (isX (λo=>if([0,1,2,3,4,5,6,8]).contains o then Z L else U)) (Y 2)) ((XF 3 U).set 2 (Z (.exn o)))=.bl L%3:=by show à (Z _) _=_;simp![à,isX,a,if_true]
 rw[this];rfl)
def Z':fT (fB (R è (Y 0) (fC (.int Ã)))) j (R3 y b)=Z (.ok (y==Ã) j):=iJ (bf ((bq (m:=.int y) (π:=.int Ã) rfl rfl)))
def Dt(h:DA j b m i Μ [] o Δ)(J:ě i):bw j [.inl (.int 0),.inr b]=Z (.ok (.inl (.bl L)) j)/\bw j [.inl (.int 1),.inr b]=Z (.ok (.inl (.bl L)) j)/\bw j [.inl (.int 2),.inr b]=Z (.ok (.inl (.bl L)) (j++[.lst []]))/\bw j [.inl (.int 3),.inr b]=Z (.ok (.inl (.bl L)) j):=by
 refine⟨GU (o:=6) rfl #v[] ?_,GU (o:=0) rfl #v[] ?_,GU (o:=5) rfl #v[] ?_,GU (o:=8) rfl #v[] ?_⟩;·exact qB ((ww (Z')).trans (si ((cr (aV rfl) h.o (ai (ah rfl rfl) rfl) rfl).trans (Mv h J))))
 ·exact qB ((uV (Z')).trans ((ww (Z')).trans (si ((cr (aV rfl) h.o (ai (ah rfl rfl) rfl) rfl).trans (GT h J)))))
 ·exact qB ((uV (Z')).trans ((uV (Z')).trans ((ww (Z')).trans (si ((cr (aV rfl) h.o (ai nh rfl) rfl).trans (Mw (h.app _) J (ji j _ [])))))))
 ·exact qB ((uV (Z')).trans ((uV (Z')).trans ((uV (Z')).trans (si ((cr (aV rfl) h.o rfl rfl).trans (Mx h))))))
def oO(h:z (ċ j θ)=.lst u%3)(a:é u=L):į L z j θ=Z (.ok (.inr j.length) (j++[.lst u])):=by unfold į nwU;rw[h];dsimp!;rw[if_pos a];rfl
def yc(h:z (ċ j θ)=.lst u%3)(a:é u=L):į h_ z j θ=Z (.ok (.inl (.lst u)) j):=by unfold į nwU;rw[h];dsimp!;rw[if_pos a];rfl
def fA{b:Type}{f:b->W}(h:∀a,ĩ (f a)=L):∀l:b%0,é (l.map f)=L|[]=>rfl|a::l=>by simp[é,h a,fA h l]
def wB{S:Ý}{e:î}{f:ë}{d:Type}{i:d->Uv}{g:d->W}:∀{l:d%0},(∀a∈l,f S (Z (i a)::e)=Z (.ok (.inl (g a)) S))->vH f (l.map i) S e=Z (l.map g,S)|[],_=>rfl|a::l,h=>by rw[F_];unfold vH;rw[h a on];dsimp!;rw[wB λb j=>h b (pi _ j)];rfl
def oP(a:Χ j θ=Z (.ok Ο j))(d:Ο.length<=100000)(b:vH τ Ο j (MR À θ)=Z (u,ο)):qm À Χ τ j θ=Z (.ok (.inr ο.length) (ο++[.lst u])):=by unfold qm fq;rw[a];dsimp!;rw[if_pos d,b];rfl
def Du(h:Χ j θ=Z (.ok Ο ο))(b:ins Ο=Z u)(a:u.length<=100000):PR Χ j θ=Z (.ok (.inl (.tup u)) ο):=by unfold PR fq;rw[h];dsimp!;rw[b];exact if_pos a
def qE(h:τ j θ=Z (.ok Ë ο)):uOk τ j θ=Z (.ok Ë ο):=by unfold uOk;rw[h]
def cK{r:Ru Uv%1}(h:Χ j θ=Z (.ok Ο ο))(a:Ο.length=b)(d:Ð ο Ο=r):jm Ð b Χ j θ=r:=by unfold jm fq;rw[h,<-d];exact if_pos a
def wC(h:τ j θ=Z (.ok Ë ο))(a:HY H ο Ë=Z Ο):Lv H τ j θ=Z (.ok Ο ο):=by unfold Lv fq;rw[h];dsimp!;rw[a]
def qH(t:W%0)(h:Str):Str:=match bI [.tup t,.str h]with|some (.ok (.str z))=>z|_=>h
def œ(t:W%0)(n:aj):Str:=qH t n.house
def mem(f:aj->Str)(l:aj%0)(g:Str):aj%0:=l.filter λi=>A_ (f i=g)
def L'(t:W%0)(a:aj%0):Str%0:=isortB leS (ST.ddk (a.map (œ t)))
def row(t:W%0)(a:aj%0)(g:Str):W:=.tup [.str g,.int (mem (œ t) a g).length]
def gk(t:W%0)(a:aj%0)(g:Str):W:=.tup [.str g,MU (mem (œ t) a g)]
def Dw(a b:Str):seq a b=A_ (a=b):=by rw[<-Ae,Yt];simp
def zj(h:E.length<=59):qX [.lst (E.map W.str)]=.lst ((isortB leS (ST.ddk E)).map W.str)%3:=by show(match cw _ with|some E=>if E.length<=59 then(Z _:_%1)else U|none=>U)=_;rw[qz];dsimp!;rw[if_pos h]
def yd{d:Type}[DecidableEq d]:∀(b a:d%0)(x:d),x∈b.foldl ST.addK a->x∈b\/x∈a
 |[],a,x,h=>.inr h|k::b,a,x,h=>by
  rcases yd b _ x h with q|q;·exact .inl (pi _ q)
  · unfold ST.addK at q;split at q;·exact .inr q
    · rcases p_.mp q with rfl|q;·exact .inl on
      ·exact .inr q
def My(b:u∈iK æ){n:aj}(g:fm n):cA [.tup u,ä n]=.str (œ u n)%3/\XE (.str (œ u n))=L:=by
 have a:=g.house;obtain⟨_,o,_,q,e⟩:=Gs b a;unfold œ qH;rw[e];rcases q with rfl|⟨z,rfl⟩;·exact⟨by simp[cA,bL,iF,aM,sq,bg,aL,cO,c9,à,fB,ĉ,ae,aP,dg,Y,fC,R,Ø,Č,Ė,ä,e],(oN (by unfold ü;simp[a]))⟩
 ·exact⟨by simp[cA,bL,iF,aM,sq,bg,aL,cO,c9,à,fB,ĉ,ae,aP,dg,Y,fC,R,Ø,Č,Ė,ä,e],LP b a e⟩
def wD:(L' u i).length<=i.length:=by unfold L';rw[(isortB_perm leS _).length_eq];have:=ST.ddk_le (i.map (œ u));simpa using this
def Mz(a:u∈iK æ)(d:∀n∈i,fm n){g:Str}(h:g∈L' u i):XE (.str g)=L:=by
 unfold L' at h;rw[(isortB_perm leS _).mem_iff]at h;rcases yd _ _ _ h with q|q;·obtain⟨n,b,rfl⟩:=L_.mp q;exact(My a (d n b)).2
 ·simp at q
def RF(g:Str)(d:i.length<=20):RY ((i.map (œ u)).map W.str) [.str g]=.int (mem (œ u) i g).length%3:=by
 have b:((i.map (œ u)).map W.str).all ik=L:=by simp[ik]
 have a:((i.map (œ u)).map W.str).countP (λy=>eqF y (.str g))=(mem (œ u) i g).length:=by rw[XS,List.countP_map];rw[List.countP_eq_length_filter];congr 1;apply act;intro n _;exact Dw _ _
 show(if _ then Z _ else U)=_;rw[b,a,if_pos (by simp[ik];lia)]
def MB(a:u∈iK æ)(J:ě i):ou j [.inl (.tup u),.inl (ej i)]=Z (.ok (.inl (.lst ((L' u i).map (row u i)))) j):=by
 have d:=J.l;refine du ?_;refine Yy (az (bK (ah (cE aK (ac rfl ak) rfl (QK (gH a))) rfl))) (Yy (az (bK (ah (cE ar (ac rfl ak) rfl (ze (ls J))) rfl))) ?_);have e:bB 1 [("table",0)] (eQ (Y 1)) (gN 0) U (ae cA 2 (bP (Y 1) (Y 0))) (ċ j [.tup u%7,ej i%7,U])=.lst ((i.map (œ u)).map W.str)%3:=by rw[XS];exact gG ä _ (gI rfl) () λn b=>dk cA rfl rfl (My a (J.g n b)).1
 refine Yy (az (bG (a:=[Z _,Z _,Z _]) (yc e (fA (λ_=>rfl) _)) rfl)) (cB (yc ?_ (fA (λ_=>rfl) _)));have f:=wD (u:=u) (i:=i);refine gG W.str _ ?_ () λg h=>?_;·unfold eQ;rw[((cg (ac rfl ak)).trans (zj (by simp;lia)))];rfl
 ·exact Ar (ac rfl (ac (RF g d) ak)) (by show 2<=100000;decide)
def VB(a:u∈iK æ)(d:∀n∈i,fm n)(h:i.length<=20)(g:Str):fQ j [.inl (.tup u),.inl (ej i),.inl (.str g)]=Z (.ok (.inl (MU (mem (œ u) i g))) j):=by refine du ?_;have e:(cu [("table",0),("group",2)] (eQ (Y 1)) (Z (fB (R è (ae cA 2 (bP (Y 1) (Y 0))) (Y 2)))) (ae ce 1 (al (Y 0)))) (ċ j [_%7,_%7,_%7])=.lst ((mem _ i g).map ek)%3:=gF ä _ ek (gI rfl) () λn b=>⟨bf ((bq (π:=.str g) (dk cA rfl rfl (My a (d n b)).1) rfl).trans (by show bo _=_;rw[Dw])),dJ ce rfl (fR n)⟩;have f:(mem (œ u) i g).length<=i.length:=Yh _ _;exact cB (yc ((cg (ac e ak)).trans (mw ())) (fA (λ_=>rfl) _))
def byW(a:u∈iK æ)(J:ě i):kG j [.inl (.tup u),.inl (ej i)]=Z (.ok (.inr j.length) (j++[.lst ((L' u i).map (gk u i))])):=by have b:=J.l;have d:=wD (u:=u) (i:=i);refine du ?_;refine cB (oP (Ο:=(L' u i).map λg=>.inl _) (wC (cK rfl rfl (MB a J)) (by show Z _=_;rw[XS];rfl)) (by simp;lia) (wB λg e=>(Du (ai (ah rfl rfl) (ai (qE (cK (ai (aV rfl) (ai (aV rfl) (ai (ah rfl rfl) rfl))) rfl (VB a J.g b g))) rfl)) rfl (by show 2<=100000;decide))))
def Sk(d:aj%0)(a b:Int):aj%0:=d.filter λn=>Ď n (a+b)&&!Ď n a
def Xs(J:ě i){a b:Int}(g:0<=a)(f:a<=9999)(e:0<=b)(d:b<=9999):oy j [.inl (ej i),.inl (.int a),.inl (.int b)]=Z (.ok (.inr j.length) (j++[.lst ((Sk i a b).map ä)])):=by have k:=J.l;refine du ?_;exact Yy (az (bK (ah (cE ar (ac rfl ak) rfl (ze (ls J))) rfl))) (Yy (az (bK (ah (cE aB (ac rfl ak) rfl (za (oH g f))) rfl))) (Yy (az (bK (ah (cE aB (ac rfl ak) rfl (za (oH e d))) rfl))) (cB (oO (mq ä _ ä (gI rfl) () λn h=>⟨(uQ (bf (dk ba rfl rfl (j5 n _))) (iH (bf (dk ba rfl rfl (j5 n a))))),rfl⟩) (lu _)))))
structure ģ where
 s:Bool
 h:Str
 p:Str
 O:W
def pq(a:ģ):W:=ĕ a.s a.h a.p a.O
abbrev pv(a:ģ):Prop:=Ak a.h a.p a.O
def MD(o:u∈iK æ){n:aj}(g:fm n){a:ģ}(e:pv a)(b:Int):∃k,uE [.tup u,ä n,pq a,.int b]=bo k:=by
 obtain⟨d,j⟩:=Ii o e;obtain⟨s,h,p,O⟩:=a;obtain⟨q,i⟩:∃q,è (.str n.house) (.str h)=bo q:=⟨_,rfl⟩;obtain⟨r,v⟩:∃r,è (.str n.R) (.str "any")=bo r:=⟨_,rfl⟩;have f1:ll [ä n,.str h]=bo (if n.ex=L then q else KE h n.house):=by cases m:n.ex<;>simp[ll,bL,mZ,aM,sq,bg,aL,c9,à,fB,ĉ,ae,aP,dg,Y,fC,R,Ø,Č,ä,m,i,(GB e.h g.house)]
 have w:(İ (R è (R Ø (Y 1) (X 7)) (Ú "any")) (ae aE 2 (bP (Y 0) (Y 2)))) [Z (.tup u),Z (ä n),Z (ĕ s h p O),Z (.int b)]=bo (r||d):=by
  have f:ae aE 2 (bP (Y 0) (Y 2)) [Z _,Z (ä n),Z _,Z (.int b)]=bo d:=dk aE (b:=ĕ s h p O) rfl rfl (j s);unfold İ;rw[((bq rfl rfl).trans v)];cases r;·exact f
  ·rfl
 refine⟨!(Ď n b||!(if n.ex=L then q else KE h n.house))&&(unB p n.path&&(!(n.S&&!s)&&(r||d))),io ?_⟩;show xH [Z _,Z _,Z (ĕ s h p O),Z _]=_;refine Yy (uP (xQ (bf (dk ba rfl rfl (j5 n b))) (iH (bf (dk ll rfl rfl f1))))) ?_;cases(Ď n b||!(if n.ex=L then q else KE h n.house))
 · refine Yy (uP (iH (bf (dk bR rfl rfl (Ri e.p g.path))))) ?_;cases unB p n.path;·rfl
   · refine Yy (uP (uQ (bf rfl) (iH (bf rfl)))) ?_;cases(n.S&&!s);·exact dO w
     ·rfl
 ·rfl
def go(t:W%0)(n:aj)(a:ģ)(b:Int):Bool:=Ū (uE [.tup t,ä n,pq a,.int b])
def yh(e:u∈iK æ){n:aj}(g:fm n){a:ģ}(f:pv a)(b:Int):uE [.tup u,ä n,pq a,.int b]=bo (go u n a b):=by
 obtain⟨k,d⟩:=MD e g f b;have:go u n a b=k:=by unfold go;rw[d];cases k<;>rfl
 rw[this];exact d
def nmb(t:W%0)(n:aj)(b:ģ%0)(a:Int):W%0:=(b.zipIdx.filter λp=>go t n p.1 a).map λp=>W.int (p.2:Int)
def ME(a:ģ%0):rng 0 a.length=a.zipIdx.map λp=>W.int (p.2:Int):=by
 rw[rV];have e:y_ a.length=a.zipIdx.map Prod.snd:=by rw[adH];simp
 rw[e,XS];apply YU;intro p _;simp
def Dx{a:ģ%0}{p:ģ×Nat}(h:p∈a.zipIdx):p.1∈a/\Ø (.lst (a.map pq)) (.int (p.2:Int))=pq p.1%3:=by have q:=List.mem_zipIdx_iff_getElem?.mp h;refine⟨N_ q,?_⟩;show(match Č (a.map pq) _ with|some d=>_|none=>_)=_;unfold Č;simp[q]
def Wn(h:j[b]?=Z (.lst u)):ċ j [m%7,π%7,b%6,Η%7]=[Z m,Z π,Z (.lst u),Z Η]:=by show[Z m,Z π,vw j (.inr b),Z Η]=_;rw[qC h]
def VC{b:ģ%0}(e:u∈iK æ){n:aj}(g:fm n)(h:∀a∈b,pv a)(i:b.length<=9){c:Nat}(f:j[c]?=Z (.lst (b.map pq))):mh j [.inl (.tup u),.inl (ä n),.inr c,.inl (.int y)]=Z (.ok (.inl (.lst (nmb u n b y))) j):=by
 refine du ?_;show jZ j [Z _,Z _,Z _,Z _]=_;refine cB (yc ?_ (fA (λ_=>rfl) _));rw[Wn f];refine mq _ _ _ ?_ (by simp;lia) λp d=>⟨?_,rfl⟩;·exact(xR (ac ((cg (ac rfl ak)).trans (by show Z _=_;rw[T_])) ak)).trans (by rw[Cq (),ME])
 ·exact bf (mS (ac rfl (ac rfl (ac ((bq rfl rfl).trans (Dx d).2) (ac rfl ak)))) rfl (yh e g (h p.1 (Dx d).1) y))
def VD{b:ģ%0}(f:∀a∈b,pv a)(g:b.length<=9):c7 [.lst (b.map pq)]=bo L:=by
 refine io ?_;show cf [Z _]=_;unfold cf;have d:(Đ (cC (fB (f1 (j9 EJ) (Y 0)))) (fB (R ŝ (ì gL (al (Y 0))) (X 9)))) [Z (.lst (b.map pq))]=(!L||A_ ((b.length:Int)>9))%3:=by refine xQ (iH (bf rfl)) (bf ((bq (m:=.int _) (π:=.int 9) ((cg (ac rfl ak)).trans ?_) rfl)));show Z _=_;rw[T_]
 rw[decide_eq_false ()]at d;rw[ax (cD d)];exact dO ((cg (ac (j3 pq _ (wo rfl) () λa e=>dJ fW rfl (Cv (f a e))) ak)).trans (rW b))
def alo(t:W%0)(b:ģ%0)(a:Int)(n:aj):W:=.tup [ek n,.lst (nmb t n b a)]
def RG{b:ģ%0}(d:u∈iK æ)(J:ě i)(g:∀a∈b,pv a)(e:b.length<=9)(m:0<=y)(k:y<=9999){c:Nat}(f:j[c]?=Z (.lst (b.map pq))):rJ j [.inl (.tup u),.inl (ej i),.inr c,.inl (.int y)]=Z (.ok (.inr j.length) (j++[.lst (i.map (alo u b y))])):=by have o:=J.l;refine du ?_;show m5 j [Z _,Z _,Z _,Z _]=_;exact Yy (az (bK (ah (cE aK (ac rfl ak) rfl (QK (gH d))) rfl))) (Yy (az (bK (ah (cE ar (ac rfl ak) rfl (ze (ls J))) rfl))) (Yy (az (wA (iJ (by rw[(Wn f)];exact iH (bf (dJ c7 rfl (VD g e))))))) (Yy (az (bK (ah (cE aB (ac rfl ak) rfl (za (oH m k))) rfl))) (cB (oP (wC (aV rfl) (by show Z _=_;rw[XS];rfl)) (by simp;lia) (wB λn h=>(Du (ai (ah (dJ ce rfl (fR n)) rfl) (ai (qE (cK rfl rfl (VC d (J.g n h) g e f))) rfl)) rfl (by show 2<=100000;decide))))))))
def ō(d:aj%0):W%0:=(isortB (λa b=>!Ċ (Rm b) (Rm a)) d).map ek
def Wo(S R:Q%0)(i:Nat):(S++R)[S.length+i]?=R[i]?:=by rw[G_ (),aa6]
def vw7{k:W%0}{p q r:Uv%1}(h:j[b]?=Z (.lst u))(a:j[o]?=Z (.lst k)):∃z,ċ j [m%7,π%7,b%6,o%6,p,q,r]=Z m::Z π::Z (.lst u)::Z (.lst k)::z:=⟨_,by show Z m::Z π::vw j (.inr b)::vw j (.inr o)::_=_;rw[qC h,qC a]⟩
def GV(d:ě i)(b:ě ψ):mo j [.inl (ej i),.inl (ej ψ)]=Z (.ok (.inr (j.length+5)) (j++[.lst (i.map ek),.lst (ψ.map ek),.lst (ō (rZ i ψ)),.lst (ō (rZ ψ i)),.lst (ō (unN i ψ)),.box L [.inr (j.length+2),.inr (j.length+3),.inr (j.length+4)]])):=by
 have A:=d.l;have y:=b.l;refine du (Yy (az (bK (ah (cE ar (ac rfl ak) rfl (ze (ls d))) rfl))) (Yy (az (bK (ah (cE ar (ac rfl ak) rfl (ze (ls b))) rfl))) (Yy (az (bG (a:=[Z _,Z _,Z _,U,U,U,U]) (oO (gG ä ek (gI rfl) () λn _=>dJ ce rfl (fR n)) (fA (λ_=>rfl) _)) rfl)) (Yy (az (bG (a:=[ej i%7,ej ψ%7,j.length%6,(j.length+1)%6,U,U,U]) (oO (gG ä ek (gI rfl) () λn _=>dJ ce rfl (fR n)) (fA (λ_=>rfl) _)) ∅)) ?_))));have o:∀a,(j++[ò.lst (i.map ek)]++[ò.lst (ψ.map ek)]++a)[j.length]?=Z (.lst (i.map ek)):=λa=>by simp
 have m:∀a,(j++[ò.lst (i.map ek)]++[ò.lst (ψ.map ek)]++a)[j.length+1]?=Z (.lst (ψ.map ek)):=λa=>by simp
 have f:=λa p q r=>vw7 (m:=ej i) (π:=ej ψ) (p:=p) (q:=q) (r:=r) (o a) (m a);have v:∀a p q r,(ì kZ (al (cu [("others",3)] (eQ (Y 2)) _ _))) (ċ _ _)=Z _:=λa p q r=>by obtain⟨z,e⟩:=f a p q r;rw[e];exact xT () d.g b.g rfl rfl
 have u:∀a p q r,(ì kZ (al (cu [("ones",2)] (eQ (Y 3)) _ _))) (ċ _ _)=Z _:=λa p q r=>by obtain⟨z,e⟩:=f a p q r;rw[e];exact xT () b.g d.g rfl rfl
 have s:∀a p q r,(ì kZ (al (cu [("other",1),("others",3)] (eQ (Y 0)) (Z (mC (fB (R W' (ae ce 1 (al (Y 0))) (Y 2))) (fB (R ip (Y 0) (Y 1))))) (ae ce 1 (al (Y 0)))))) (ċ _ _)=MU (unN i ψ)%3:=λa p q r=>by obtain⟨z,e⟩:=f a p q r;rw[e];have w:=CY (i:=i) (ψ:=ψ);exact(cg (ac (gF ä _ ek (gI rfl) () λn k=>⟨(uQ (bf ((bq (dJ ce rfl (fR n)) rfl).trans (Wj b.g (d.g n k)).1)) (bf ((bq rfl rfl).trans (Xo b.g (d.g n k))))),dJ ce rfl (fR n)⟩) ak)).trans (mw (by show(unN i ψ).length<64;lia))
 have h:=v [] U U U;rw[Y1]at h;refine Yy (az (bG (a:=[Z _,Z _,Z _,Z _,(j.length+2)%6,U,U]) (oO (u:=ō _) h (fA (λ_=>rfl) _)) ∅)) (Yy (az (bG (a:=[ej i%7,ej ψ%7,j.length%6,(j.length+1)%6,(j.length+2)%6,(j.length+3)%6,U]) (oO (u:=ō _) (u _ _ _ _) (fA (λ_=>rfl) _)) ∅)) ?_);have g:=s ([ò.lst (ō (rZ i ψ))]++[ò.lst (ō (rZ ψ i))]) ((j.length+2)%6) ((j.length+3)%6) U;rw[<-XM]at g;refine Yy (az (bG (a:=[ej i%7,ej ψ%7,j.length%6,(j.length+1)%6,(j.length+2)%6,(j.length+3)%6,(j.length+4)%6]) (oO (u:=ō _) g (fA (λ_=>rfl) _)) ∅)) (cB ?_);unfold Lo fq;simp[aJ,c8,fu,fq]
structure Ĺ(S S':Ý):Prop where
 l:S.length<=S'.length
 h:∀c,c<S.length->S'[c]?=S[c]?
def Ĺ.app(R:Ý):Ĺ j (j++R):=⟨by simp,λc a=>w_ a⟩
def Ĺ.trans{S e d:Ý}(h:Ĺ S e)(b:Ĺ e d):Ĺ S d:=⟨Xx h.l b.l,λc a=>(b.h c (Q_ a h.l)).trans (h.h c a)⟩
def Ĺ.get(h:Ĺ j ο){c:Nat}{x:ò}(q:j[c]?=Z x):ο[c]?=Z x:=(h.h c (pk q)).trans q
def DA.ext(h:DA j b m i Μ Æ o Δ)(e:Ĺ j ο):DA ο b m i Μ Æ o Δ:=⟨e.get h.o,e.get h.d,e.get h.u,h.na,h.nb,h.ab⟩
def E8w(i h g e d b:Uv)(f:Nat)(a:Uv%1):î:=[Z i,Z h,Z g,Z e,Z d,Z b,f%6,a]
def RH{i h g f e:Uv}{a:W%0}(m:j[b]?=Z (.lst u))(k:j[o]?=Z (.lst a))(n:b≠o)(r:u.length<1000)(q:a.length<1000):fY j (E8w Ë i h g f e b (o%6))=Z (.nx (E8w Ë i h g f e b (o%6)) ((j.set b (.lst (u++[.lst a]))).set o (.lst (a++[.str "zz"])))):=by
 have p:vG (aJ (c8 7) fu) j (E8w Ë i h g f e b (o%6))=Z (.ok (.inl (.lst a)) j):=by unfold vG fq;rw[show aJ _ fu j _=Z _ from rfl];dsimp!;rw[k]
 refine Yy (az (bK (wy (aV rfl) m (ai p rfl) m ()))) ?_;have d:(j.set b (.lst (u++[.lst a])))[o]?=Z (.lst a):=by rw[z_ n];exact k
 exact bK (wy (aV rfl) d (ai (ah rfl rfl) rfl) d ())
def IF{f:Nat}{v u s r o n:Uv}:∀(a:(Nat×W%0)%0)(S:Ý)(fs:W%0)(j:Uv%1),(∀q∈a,S[q.1]?=Z (.lst q.2)/\q.2.length<1000)->(a.map (·.1)).Nodup->f∉a.map (·.1)->S[f]?=Z (.lst fs)->fs.length+a.length<1000->∃b,nX 7 [7] fY (a.map λq=>.inr q.1) S (E8w v u s r o n f j)=Z (.nx (E8w v u s r o n f U) b)/\b[f]?=Z (.lst (fs++a.map λq=>.lst q.2))/\b.length=S.length/\∀c,c≠f->c∉a.map (·.1)->b[c]?=S[c]?
 |[],S,fs,j,_,_,_,i,_=>⟨S,rfl,by simpa using i,rfl,λ_ _ _=>rfl⟩|(p,dl)::a,S,fs,j,h,k,d,i,E=>by
  obtain⟨I,H⟩:=h _ on;rw[F_,Ys]at k;rw[F_,p_,not_or]at d;simp![Xu]at E;obtain⟨b,e,g1,Q,P⟩:=IF a ((S.set f (.lst _)).set p (.lst (dl++[.str "zz"]))) (fs++[.lst dl]) (p%6) (λq w=>by have g:q.1∈a.map (·.1):=List.mem_map_of_mem w;have D:q.1≠p:=λz=>k.1 (z▸g);have A:q.1≠f:=λz=>d.2 (z▸g);rw[z_ (YH D),z_ (YH A)];exact h q (pi _ w)) k.2 d.2 (by rw[z_ (YH d.1)];exact K_ (pk i)) (by simp;lia);refine⟨b,?_,by rw[g1];simp,by rw[Q];simp,λc y m=>?_⟩;·exact(Ds (RH i I d.1 () H)).trans e
  ·rw[F_,p_,not_or]at m;rw[P c y m.2,z_ (YH m.1),z_ (YH y)]
def RI(t:W%0)(a:aj%0)(d:ģ%0)(b:aj%0):(W%0)%0:=[(L' t a).map (gk t a),(Sk a 0 50).map ä,a.map (alo t d 3),ō (rZ a b),ō (rZ b a),ō (unN a b)]
def MF(t:W%0)(b:aj%0)(d:ģ%0)(a:aj%0)(x y:Nat):W%0:=.bl L::(RI t b d a).map .lst++[ej a,stD x y]
def MG{a:ģ}(g:pv a):Ē 1 (pq a):=oE λd f=>by
 have b:∀{x:Str},x∈En->Ē 0 (.str x):=λh=>jP (oN (by unfold ü;simp[h]));simp![p_,J_,or_false]at f;rcases f with rfl|rfl|rfl|rfl;·exact Š
 ·exact b g.h
 ·exact jP (oN (by unfold ü;simp[g.p]))
 · rcases g.o with e|⟨o,i,e⟩;·rw[e];exact Ib
   ·rw[e];exact b (me i)
def GW{a:ģ}(g:pv a):ĩ (pq a)=L:=by
 obtain⟨s,h,p,O⟩:=a;rcases g.o with e|⟨o,b,e⟩;·cases((e));rfl
 ·cases((e));rfl
def wE:∀{l:ģ%0},(∀a∈l,pv a)->é (l.map pq)=L|[],_=>rfl|a::l,h=>by simp[é,GW (h a on),wE λb d=>h b (pi _ d)]
def Dy(h:Χ j θ=Z (.ok [.inr b] ο))(e:ο[b]?=Z (.box H Ο)):vG Χ j θ=Z (.ok (.inr ο.length) (ο++[.box h_ Ο])):=by unfold vG fq;rw[h];dsimp!;rw[e]
def MH(h:Χ j θ=Z (.ok Ο ο))(a:Ο.length<=100000):Lo H Χ j θ=Z (.ok (.inr ο.length) (ο++[.box H Ο])):=by unfold Lo fq;rw[h];exact if_pos a
def Dz(h:Χ j θ=Z (.ok Ο ο))(e:ins Ο=Z u)(a:u.length<=100000):B6 Χ j θ=Z (.ok (.inr ο.length) (ο++[.lst u])):=by unfold B6 fq;rw[h];dsimp!;rw[e];exact if_pos a
def DB{a:Ý}{g:ë}{c d e:ò}(h:τ j θ=Z (.ok (.inr b) ο))(k:g ο θ=Z (.ok (.inr o) a))(i:a[b]?=Z c)(f:a[o]?=Z d)(q:Sg c d=Z e):PU τ g j θ=Z (.ok (.inr a.length) (a++[e])):=by unfold PU fq;rw[h];dsimp!;rw[k];unfold Uy;dsimp!;rw[i,f];dsimp!;rw[q]
def oU(S:Ý)(l:W%0)(o:ũ%1):Prop:=∃k a,o=Z (.rt (.inr k) a)/\Ĺ S a/\S.length<=k/\a[k]?=Z (.lst l)
def gen{P:Q->Prop}(x:Q)(h:∀R,R=x->P R):P x:=h x rfl
def nxE{b:Ý}{K:cm}{a:î}(h:È ο θ=Z (.nx a b))(e:oU j u (K b a)):oU j u (da È K ο θ):=by rw[az h];exact e
def RJ{f:ģ%0}(z:u∈iK æ)(J:ě i)(Jj:ě ψ)(A:∀o∈f,pv o)(hl:f.length<=9){c:Nat}(Q:j[c]?=Z (.lst (f.map pq)))(D:DA j b m ψ Μ Æ o Δ):∃k p,gY j [.inl (.tup u),.inl (ej i),.inr c,.inr b]=Z (.ok (.inr k) p)/\Ĺ j p/\j.length<=k/\p[k]?=Z (.lst (MF u i f ψ Μ.length Æ.length)):=by
 suffices oU j _ (gX j [Z _,Z _,Z _,Z _,U,U,U,U])by obtain⟨k,p,e,r⟩:=this;exact⟨k,p,du e,r⟩
 have I:=Wm z;have v:=jS i;have x5:∀R1 R2 R3 R4 R5:Ý,Ĺ j (j++R1++R2++R3++R4++R5):=λR1 R2 R3 R4 R5=>by simpa using Ĺ.app _
 have a1:yJ (al (Y 2)) j [.tup u%7,ej i%7,c%6,b%6,U,U,U,U]=Z (.ok (.inr j.length) (j++[.lst (f.map pq)])):=by unfold yJ;have e:al (Y 2) (ċ j [.tup u%7,ej i%7,c%6,b%6,U,U,U,U])=_:=ac (Mu Q rfl) ak;rw[e];exact if_pos (wE A)
 refine nxE (bG a1 rfl) (nxE (bG (DB (MH (ai (cK (ai (ah rfl I) (ai (ah rfl v) rfl)) rfl (byW z J)) (ai (cK (ai (ah rfl v) (ai (ah rfl rfl) (ai (ah rfl rfl) rfl))) rfl (Xs J () () () ())) (ai (cK (ai (ah rfl I) (ai (ah rfl v) (ai (aV rfl) (ai (ah rfl rfl) rfl)))) rfl (RG z J A hl () () ∅)) rfl))) ∅) (Dy (ai (cK (ai (ah rfl v) (ai (ah (wz (Dr (D.ext (x5 _ _ _ _ _)) rfl) lz) (jS ψ)) rfl)) rfl (GV J Jj)) rfl) ((Wo _ _ _))) (by rw[XM,XM];exact ji _ _ _) (ji _ _ _) rfl) rfl) ?_);simp![XM,acX,adm,X2,Xu,ae3,Nat.reduceAdd,Nat.add_assoc];refine gen (P:=λR=>oU j _ (da _ _ (j++R) _)) _ λR w=>?_;have lR:R.length=13:=by rw[w];rfl
 have s:Ē 2 (.lst (f.map pq)):=mG λd hd=>by obtain⟨x,hx,rfl⟩:=L_.mp hd;exact MG (A x hx)
 refine nxE (bG (Dz (ai (ah ((bq (Mu (by rw[w];exact ji _ _ _) rfl) (Mu ((Ĺ.app R).get Q) rfl)).trans (rN (s.okP ()) s.p)) rfl) rfl) rfl ∅) rfl) ?_;have jl:=J.l;have c':=Jj.l;have gl:=wD (u:=u) (i:=i);have sl:(Sk i 0 50).length<=i.length:=Yh _ _;have b':=r9 (i:=i) (ψ:=ψ);have a':=r9 (i:=ψ) (ψ:=i);have ul:=CY (i:=i) (ψ:=ψ);have E:∀l:aj%0,(ō l).length=l.length:=λl=>by unfold ō;rw[T_];exact(isortB_perm _ l).length_eq
 obtain⟨n,g⟩:∃n:_%0,n=[(j.length+1,(L' u i).map (gk u i)),(j.length+2,(Sk i 0 50).map ä),(j.length+3,i.map (alo u f 3)),(j.length+7,ō (rZ i ψ)),(j.length+8,ō (rZ ψ i)),(j.length+9,ō (unN i ψ))]:=⟨_,rfl⟩;have gR:∀a,a<13->(j++R++[ò.lst [.bl L]])[j.length+a]?=R[a]?:=λa P=>by rw[XM,Wo,w_ ()]
 obtain⟨S3,e3,g3,l3,k3⟩:=IF (n:=.inr (j.length+12)) n (j++R++[.lst _]) _ U (λq h=>by rw[g]at h;simp![p_,J_,or_false]at h;rcases h with rfl|rfl|rfl|rfl|rfl|rfl<;>exact⟨by rw[gR _ (),w];rfl,by simp[E];lia⟩) (by rw[g];simp) (by rw[g];simp[lR]) (ji _ _ _) (by rw[g];show 1+6<1000;decide);have y:Ĺ j S3:=⟨by rw[l3];simp,λa P=>by rw[k3 a (by simp;lia) (by rw[g];simp;lia),XM];exact w_ P⟩;have D3:=D.ext y;have e5:HY h_ (j++R++[.lst [.bl L]]) (.inr (j.length+12))=Z (n.map λq=>.inr q.1):=by unfold HY;dsimp!;rw[gR _ (),w,g];rfl
 refine nxE (by unfold yM;rw[wC (aV rfl) e5];exact e3) ?_;have H:Sg (.lst ([W.bl L]++(n.map λq=>W.lst q.2))) (.lst [ej ψ,stD Μ.length Æ.length])=Z (.lst (MF u i f ψ Μ.length Æ.length)):=by rw[g];rfl
 refine⟨_,_,cB (DB (aV rfl) (Dz (ai (ah (wz (Dr D3 rfl) lz) (jS ψ)) (ai (ah (wz (Dr D3 rfl) xY) rfl) rfl)) rfl ∅) ((w_ (pk g3)).trans g3) (ji _ _ _) H),?_,?_,ji _ _ _⟩;·rw[XM];exact y.trans (Ĺ.app _)
 ·have:=y.l;simp;lia
def RK(f:u∈iK æ)(e:∀n∈i,fm n):Ē 4 (.lst ((L' u i).map (gk u i))):=mG λd a=>by
 obtain⟨g,b,rfl⟩:=L_.mp a;refine oE λd a=>?_;simp![p_,J_,or_false]at a;rcases a with rfl|rfl;·exact(jP (Mz f e b)).le ()
 ·exact rY λn h=>e n (XB.mp h).1
def MI{g:ģ%0}(f:∀n∈i,fm n){b:Int}:Ē 3 (.lst (i.map (alo u g b))):=mG λd a=>by
 obtain⟨n,e,rfl⟩:=L_.mp a;refine oE λd a=>?_;simp![p_,J_,or_false]at a;rcases a with rfl|rfl;·exact zc (f n e)
 ·refine mG λd a=>?_;obtain⟨p,_,rfl⟩:=L_.mp a;exact ğ
def RL{e:ģ%0}(h:u∈iK æ)(b:∀n∈i,fm n)(f:∀n∈ψ,fm n)(x y:Nat):è (.lst (MF u i e ψ x y)) (.lst (MF u i e ψ x y))=bo L:=by
 have a:Ē 5 (.lst (MF u i e ψ x y)):=mG λd g=>by
  simp![MF,RI,F_,ab1,acX,adm,p_,J_,or_false]at g;rcases g with rfl|rfl|rfl|rfl|rfl|rfl|rfl|rfl|rfl;·exact Š.le ()
  ·exact RK h b
  ·exact(CP λn j=>b n (XB.mp j).1).le ()
  ·exact(MI b).le ()
  ·exact(rY (uS b)).le ()
  ·exact(rY (uS f)).le ()
  ·exact(rY (GE b)).le ()
  ·exact(Vl f).le ()
  ·exact(Mr x y).le ()
 exact rN (a.okP ()) a.p
def V8(e:Int%0)(t:W%0)(a:aj%0)(d b:Uv%1):î:=[.scr e%7,.tup t%7,ej a%7,0%6,1%6,4%6,d,b]
structure Lp(S:Ý)(t:W%0)(as:ģ%0)(js:aj%0)(ds:Sp%0)(b:Nat):Prop where
 d:DA S 1 (.tup t) js ds [] 2 b
 s:S[0]?=Z (.lst (as.map pq))o:DA S 4 (.tup t) [] [] [] 5 6l:7<=S.length
 b:b=3\/7<=b
def Lp.ext{a:ģ%0}(h:Lp j u a i Μ b)(e:Ĺ j ο):Lp ο u a i Μ b:=⟨h.d.ext e,e.get h.s,h.o.ext e,Xx h.l e.l,h.b⟩
def RM{i:Int%0}{t:W%0}{m:aj%0}{s:ģ%0}(p:i.length<=63)(o:t∈iK æ):∀(r k:Nat)(S:Ý)(x:Uv%1)(e:aj%0)(f:Sp%0)(b:Nat),k+r<=4->DI (20*k) e f k->Lp S t s e f b->∃j a d n,nX 6 [6] rL (rgU k r) S (V8 i t m x U)=Z (.nx (V8 i t m U U) j)/\Lp j t s a d n/\DI 80 a d 4
 |0,k,S,x,e,f,b,A,D,h=>⟨S,e,f,b,rfl,h,D.later () ()⟩            |r+1,k,S,x,e,f,b,A,D,h=>by
  obtain⟨z,d1,u,v,e1,H,w⟩:=Mq (z:=30+90*(k)) (y:=20+20*(k)) p o (D.later () (o_ _)) () () () h.d;have E:bd (20+20*(k))=20*((k+1)):=by unfold bd;split<;>lia
  rw[E]at v;have a':=h.l;have cb:=h.b;have ch:=w.l;have g:∀{c:Nat}{y:ò},S[c]?=Z y->c≠1->c≠2->c≠b->u[c]?=Z y:=λ{c y}q a1 a2 a3=>(w.h c (pk q) a1 a2 a3).trans q;obtain⟨j,a,d,n,Q,P,I⟩:=RM p o r (k+1) u _ z d1 _ () v (⟨H,g h.s () () (),⟨g h.o.o () () (),g h.o.d () () (),g h.o.u () () (),h.o.na,h.o.nb,h.o.ab⟩,by lia,by lia⟩);refine⟨j,a,d,n,Yy (Ds ?_) Q,P,I⟩;show rL S (V8 i t m (_%7) U)=_;rw[show(0)+(k)*1=(k:Int)by lia];exact wA (Ms (H:=L) (RE (cK (ai (ah rfl rfl) (ai (ah ((bq (m:=.int 30) rfl ((bq rfl rfl).trans (qp (.inl ()))))) rfl) (ai (aV rfl) (ai (ah ((bq (m:=.int 20) rfl ((bq rfl rfl).trans (qp (.inl ()))))) rfl) rfl)))) rfl e1)))
def MJ(f:Int%0)(r:f.length<=63){b:Ev}(h:b[0]?=Z (Z (.scr f))):∃as:ģ%0,bB 1 [("_law_script",0)] (λb=>à ((al (X 2)) b) wP) (gN 0) U (ae cY 2 (bP (Y 1) (R eD (X 600) (R lI (X 10) (Y 0))))) b=.lst (as.map pq)%3/\as.length=2/\∀a∈as,pv a:=by
 obtain⟨s,v,p,O,D,A,z,e⟩:=rQ f r 600;obtain⟨m,g,n,w,k,j,i,E⟩:=rQ f r 610;refine⟨[⟨s,v,p,O⟩,⟨m,g,n,w⟩],?_,rfl,λa u=>?_⟩
 · have y:∀d,(lC 1 [("_law_script",0)] b).set 0 (Z d)=[Z d,Z (.scr f)]:=λd=>by simp[lC,h]
   refine gG (Q:=Int×ģ) (λq=>.int q.1) (λq=>pq q.2) (l:=[(0,⟨s,v,p,O⟩),(1,⟨m,g,n,w⟩)]) ((xR (o:=(al _) b) rfl).trans ((Cq ()))) (by show 2<=100000;decide) λq o=>?_;rw[y];simp![p_,J_,or_false]at o;rcases o with rfl|rfl;·exact dk cY rfl (by lk) e
   ·exact dk cY rfl (by lk) E
 · simp![p_,J_,or_false]at u;rcases u with rfl|rfl;·exact⟨me D,A,z⟩
   ·exact⟨me k,j,i⟩
def GX{a:Ý}{g:W->W->Rs W%1}{h:ë}{b:Uv}(k:τ j θ=Z (.ok Ë ο))(i:h ο θ=Z (.ok b a))(e:vw a Ë=Z m)(d:vw a b=Z π)(f:g m π=.bl H%3):yI g τ h j θ=Z (.ok (.inl (.bl H)) a):=by unfold yI fq;rw[k];dsimp!;rw[i];dsimp!;rw[e,d];dsimp!;rw[f]
def IG{g:ë}(h:τ j θ=Z (.ok (.inl (.bl L)) ο)):PZ τ g j θ=g ο θ:=by unfold PZ fq;rw[h]
def ye{a:Ý}(h:τ j (Z Ë::θ)=Z (.ok (.inl m) ο))(b:vH τ Ο ο θ=Z (u,a)):vH τ (Ë::Ο) j θ=Z (m::u,a):=by unfold vH;rw[h];dsimp!;rw[b]
end J
open TS J
def GY(d:Int%0)(p:d.length<=63):Cn [.scr d]=.bl L%3:=by
 suffices∃S,yZ [] _=Z (.rt (.inl _) S)by obtain⟨S,e⟩:=this;show PK 8 yZ _=_;unfold PK;rw[e]
 obtain⟨t,o,eT⟩:=Gr d p;obtain⟨a,_,eJ,J,_,_⟩:=Ir d p 500 5 ();have A:=gH o;have j:=Wm o;unfold yZ;rw[az (È:=wg) (bG (ah (dk fL rfl rfl eT) j) rfl),az (È:=wf) (a:=[Z _,Z _,Z _,U,U,U,U,U]) (bG (ah (rP eY rfl rfl rfl eJ) (jS a)) rfl)];obtain⟨as,eA,lA,w⟩:=MJ d p (b:=ċ [] [_%7,Z _,Z _,U,U,U,U,U]) rfl;rw[az (È:=we) (ο:=[.lst _]) (bG (oO eA (wE w)) rfl),az (È:=wc) (ο:=[.lst _]++[Ś _ [] 2 3,.lst [],.lst []]) (bG (Dl A j (ai (ah rfl j) rfl)) rfl),az (È:=wb) (a:=V8 d t a U U) (ο:=[.lst _]++[Ś _ [] 2 3,.lst [],.lst []]++[Ś _ [] 5 6,.lst [],.lst []]) (bG (Dl A j (ai (ah rfl j) rfl)) rfl)];have L0:Lp ([.lst (as.map pq)]++[Ś (.tup t) [] 2 3,.lst [],.lst []]++[Ś (.tup t) [] 5 6,.lst [],.lst []]) t as [] [] 3:=⟨⟨rfl,rfl,rfl,by lia,by lia,by lia⟩,rfl,⟨rfl,rfl,rfl,by lia,by lia,by lia⟩,by show 7<=7;decide,.inl rfl⟩;obtain⟨m,m0,m1,eM⟩:=aW d p 15 4 ();obtain⟨i,rfl⟩:∃i:Nat,m=(i:Int):=⟨m.toNat,by lia⟩;obtain⟨S,v,I,b,e3,u,Q⟩:=RM (i:=d) (m:=a) p o (1+i) 0 _ U [] [] 3 () ⟨JS.nil,by simp,by simp⟩ L0;rw[az (È:=wa) (GS (IE (b:=1+i) (ac (m:=.int ((1+i:Nat):Int)) ((bq (m:=.int 1) (π:=.int (i:Nat)) rfl (rP ag (a:=.scr d) (b:=.int 15) (c:=.int 4) rfl rfl rfl eM)).trans (by show Z (Rs.ok (W.int (1+(i:Int))))=_;rw[show(1:Int)+(i:Int)=((1+i:Nat):Int)by lia])) ak) ()) e3)];have r:ě v:=Q.j.jar (by have:=Q.l;lia);obtain⟨n,f,e4,x1,b',g1⟩:=RJ o J r w () u.s u.d;have L2:=u.ext x1;have l1:=u.l;rw[az (È:=v8) (a:=V8 d t a U (n%6)) (bG (cK (Ο:=[.inl (.tup t),.inl (ej a),.inr 0,.inr 1]) (ai (ah (m:=.tup t) rfl j) (ai (ah (m:=ej a) rfl (jS a)) rfl)) rfl e4) rfl)];obtain⟨r0,r1,r2,_⟩:=Dt L2.d r;obtain⟨_,_,_,r3⟩:=Dt (L2.d.app [.lst []]) r;have s:vH (uOk (jm bw 2 (aJ (c8 0) (aJ (c8 1) fu)))) [.inl (.int 0),.inl (.int 1),.inl (.int 2),.inl (.int 3)] f [1%6]=Z ([.bl L,.bl L,.bl L,.bl L],f++[.lst []]):=ye (qE (cK (Ο:=[.inl (.int 0),.inr 1]) rfl rfl r0)) (ye (qE (cK (Ο:=[.inl (.int 1),.inr 1]) rfl rfl r1)) (ye (qE (cK (Ο:=[.inl (.int 2),.inr 1]) rfl rfl r2)) (ye (qE (cK (Ο:=[.inl (.int 3),.inr 1]) rfl rfl r3)) rfl)));have k:=oP (À:=[("_law_desk",4)]) (Χ:=HZ (iU1 (al (X 4)))) (θ:=V8 d t a U (n%6)) (j:=f) (Ο:=[.inl (.int 0),.inl (.int 1),.inl (.int 2),.inl (.int 3)]) (by unfold HZ;rw[IE (b:=4) (ε:=ċ f (V8 d t a U (n%6))) (μ:=al (X 4)) rfl ()];rfl) #v[] s;have E:(f++[ò.lst []]++[ò.lst [.bl L,.bl L,.bl L,.bl L]])[n]?=Z (.lst (MF t a as v I.length 0)):=by rw[XM];exact(Ĺ.app _).get g1
 have z1:v7 f (V8 d t a U (n%6))=Z (.nx (V8 d t a U (n%6)) (f++[.lst []]++[.lst [.bl L,.bl L,.bl L,.bl L]])):=by refine wA ((VA (RE (GX (Ë:=.inl (.bl h_)) (m:=.bl h_) rfl k rfl (qC (ji (f++[ò.lst []]) (ò.lst [.bl L,.bl L,.bl L,.bl L]) [])) (by lk)))).trans (iJ (H:=!L) ?_));exact iH (bf ((bq (Mu E rfl) (π:=.int 0) rfl).trans rfl))
 rw[az z1];have h:Lp (f++[.lst []]++[.lst [.bl L,.bl L,.bl L,.bl L]]) t as v I b:=by rw[XM];exact L2.ext (Ĺ.app _)
 generalize f++[ò.lst []]++[ò.lst [.bl L,.bl L,.bl L,.bl L]]=S2 at*;have D:Ŏ [] a=a:=by rw[xW ∅ J.k];unfold rZ pc;simp
 have H:=uT (i:=[]) (JS.nil (a:=0).jar ∅) J (by rw[D];exact J.l);rw[D]at H;obtain⟨S3,e5,D3,C3⟩:=ya h.o #v[] H;have cb:=h.b;have g:∀{c:Nat}{y:ò},S2[c]?=Z y->c≠4->c≠5->c≠6->S3[c]?=Z y:=λ{c y}q a1 a2 a3=>(C3.h c (pk q) a1 a2 a3).trans q;rw[az (È:=v4) (bK ((cr (aV rfl) h.o.o (ai (ah rfl (jS a)) rfl) rfl).trans e5))];obtain⟨k2,S4,e6,z,a',g4⟩:=RJ o J r w () (g h.s () () ()) (⟨g h.d.o () () (),g h.d.d () () (),g h.d.u () () (),h.d.na,h.d.nb,h.d.ab⟩);have P:=D3.ext z;refine⟨S4,cB ((IG (Mt (cK (ai (ah rfl j) (ai (ah rfl (jS a)) rfl)) rfl e6) (qC g4) (Mu (z.get (g E () () ())) rfl) (RL o J.g r.g _ _))).trans ((IG (ah ?_ rfl)).trans (ah ?_ rfl)))⟩;·refine(bq ((cg (ac (wz (Dr P rfl) lz) ak)).trans (uR _)) ((cg (ac rfl ak)).trans (uR a))).trans ?_;rw[sh];exact rN (ğ.okP ()) rfl
 ·exact(bq (wz (Dr P rfl) xY) rfl).trans (Vz 1 0)
def RN(a:RO g)(h:ā q g e ζ):SqF q g e ζ:=by
 rcases h with(h|h)|h;·rcases a e with z|⟨o,b,z⟩<;>(rw[z]at h;cases h)
 ·exact .inl h
 ·exact .inr h
def walk{l:adi}{D:(Str->B%1)->O_->Prop}{m:v_->O_->Prop}{d:DefRec}{K:adC->d_}(o:l.most=Z 63)(g:d.params.defaults=[])(y:∀(w:v_)(h:O_),m w h->(K w.params).In h)(F:∀(w:v_)(e:Str->B%1)(k:O)(h:O_),(K w.params).In h->h.Ns E_ e->e d.name=Z (.ref k)->∃j:Yo,(∀(s:ge)(u:B),aex s j ⟨[u],[]⟩ [("_law_script",u)])/\∀b:O_,(K w.params).In b->b.Ns E_ e->ö l.prog w (K w.params) e b Ĳ 14 k j ["_law_script"] (ş (K w.params) Cn 1)):afr p E D m l.row.toRowW d [] (λf n=>afc f n):=L2.walk_of (b:=63) (o:=14) (d:="_law_script") (CX:=λ_=>Ĳ) (sp:=λw=>ş (K w.params) Cn 1) o #v[] g ⟨rfl,by decide,by decide,rfl⟩ y F (λ_ _ a i q A hS=>⟨[.scr i],⟨.ref a,[],rfl,⟨a,rfl,RN A hS⟩,rfl⟩,rfl,by rw[GY i q];exactλv H _ r=>r⟩) λ_ _ _ _ _ z=>z
end G
variable{Ω:FD.W}{χ:Str}{Á:Str%1}{Α:G.J.aj}{i ψ:G.J.aj%0}{Μ Æ:G.J.Sp%0}
open PySem.W
set_option maxRecDepth 100000 in
theorem PySem.Challenge.cw_notejar_k76_again_and_shared_holds : PySem.Challenge.rw_notejar_k76_again_and_shared.Holds := by
 refine G.hld fun b=>?_;refine PySem.W.holds_open (q:=G.VQ) (loose:=G.VL) (Xt:=fun s=>recOk [] s) (XP:=fun _ _=>True) (Yf:=Hook.obs (afv G.KK G.KA G.KA_ok)) (Ya:=Hook.val (afv G.KK G.KA G.KA_ok)) (YP:=Hook.says (afv G.KK G.KA G.KA_ok)) (N:=11256) G.left (Hook.of (afv G.KK G.KA G.KA_ok)) (Hook.keeps (afv G.KK G.KA G.KA_ok)) (fun _ _=>trivial) (fun _ _ _ _ _=>trivial) (by rfl) (by rfl) (by rfl) (fun s e=>recFacts_of e) (by rfl) (by first | assumption | decide +kernel) (by decide +kernel) G.hbr ?hw ?hc
 (case hw=>w_witness2)
 refine G.walk (l:=r9_) rfl rfl (fun w h Y=>PySem.W.kIn_of Y) ?F
 case F =>
  intro w g i h f d a;exact G.all_mk (C0:=44) (C1:=56) (C2:=68) (C3:=80) (C4:=92) (C5:=104) (C6:=116) (C8:=128) (CJ:=31) f d a (G.af 135 "notejar.kinds" 342) (G.af 156 "notejar.names" 367) (G.af 161 "notejar.names" 367) (G.af 168 "notejar.names" 367) (G.af 173 "notejar.names" 367) (G.af 187 "notejar.names" 367) (G.af 419 "notejar.notes" 652) (G.af 560 "notejar.comparing" 901) (G.af 553 "notejar.comparing" 901) (G.af 455 "notejar.jars" 788) (G.af 450 "notejar.jars" 788) (G.af 142 "notejar.kinds" 342) (G.af 262 "notejar.asks" 505) (G.af 269 "notejar.asks" 505) (G.af 304 "notejar.giving" 565) (G.af 234 "notejar.paths" 469) (G.af 316 "notejar.giving" 565) (G.af 149 "notejar.kinds" 342) (G.af 309 "notejar.giving" 565) (G.af 384 "notejar.notes" 652) (G.af 445 "notejar.jars" 788) (G.af 462 "notejar.jars" 788) (G.af 469 "notejar.jars" 788) (G.af 546 "notejar.comparing" 901) (G.af 539 "notejar.comparing" 901) (G.af 714) (G.af 721) (G.af 728) (G.af 740) (G.af 747) (G.af 752) (G.af 194 "notejar.names" 367) (G.af 180 "notejar.names" 367) (G.af 486 "notejar.jars" 788) (G.af 276 "notejar.asks" 505) (G.af 426 "notejar.notes" 652) (G.af 481 "notejar.jars" 788) (G.af 476 "notejar.jars" 788) (G.af 787) (G.af 283 "notejar.asks" 505) (G.af 290 "notejar.asks" 505) (G.af 337 "notejar.giving" 565) (G.af 344 "notejar.giving" 565) (G.af 349 "notejar.giving" 565) (G.af 498 "notejar.jars" 788) (G.af 405 "notejar.notes" 652) (G.af 391 "notejar.notes" 652) (G.af 206 "notejar.names" 367) (G.af 199 "notejar.names" 367) (G.af 213 "notejar.names" 367) (G.af 220 "notejar.names" 367) (G.af 356 "notejar.notes" 652) (G.af 363 "notejar.notes" 652) (G.af 323 "notejar.giving" 565) (G.af 330 "notejar.giving" 565) (G.af 241 "notejar.paths" 469) (G.af 248 "notejar.paths" 469) (G.af 398 "notejar.notes" 652) (G.af 227 "notejar.names" 367) (G.af 297 "notejar.asks" 505) (G.af 370 "notejar.notes" 652) (G.af 377 "notejar.notes" 652) (G.af 412 "notejar.notes" 652) (G.af 491 "notejar.jars" 788) (G.af 255 "notejar.paths" 469) (G.af 517 "notejar.jars" 788) (G.af 510 "notejar.jars" 788) (G.af 527 "notejar.jars" 788) (G.af 522 "notejar.jars" 788) (G.af 505 "notejar.jars" 788) (G.af 759) (G.af 766) (G.af 773) (G.af 733) (G.af 433 "notejar.notes" 652) (G.af 440 "notejar.notes" 652) (G.af 707 "notejar.looking" 1094) (G.af 697 "notejar.looking" 1094) (G.af 702 "notejar.looking" 1094) (G.af 672 "notejar.room" 1077) (G.af 677 "notejar.room" 1077) (G.af 687 "notejar.looking" 1094) (G.af 682 "notejar.looking" 1094) (G.af 532 "notejar.comparing" 901) (G.af 692 "notejar.looking" 1094) (G.af 780) (FD.ck_mk (b:=1) (e:=661) (by lk) (by lk) (by lk) (by lk) (by lk) (by lk)) (G.amf 574 "notejar.desks" 942 573) ⟨by lk,by lk,by lk,by lk⟩ (G.am (G.amf 588 "notejar.desks" 942 587)) (G.am (G.amf 623 "notejar.desks" 942 622)) (G.am (G.amf 581 "notejar.desks" 942 580)) (G.am (G.amf 651 "notejar.desks" 942 650)) (G.am (G.amf 616 "notejar.desks" 942 615)) (G.am (G.amf 609 "notejar.desks" 942 608)) (G.am (G.amf 644 "notejar.desks" 942 643)) (G.am (G.amf 637 "notejar.desks" 942 636)) (G.am (G.amf 602 "notejar.desks" 942 601)) (G.am (G.amf 595 "notejar.desks" 942 594)) (G.af 792) (by lk) (by lk)
#print axioms PySem.Challenge.cw_notejar_k76_again_and_shared_holds
