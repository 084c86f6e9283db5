import PyProof.Rows.All
import Wide.All
import OpenK.AllK
import Wide.FinOn
import Lean
import PyProof.EqAt
import PyProof.EqKinds
import PyProof.TupleCall
import PySem.SetTable
import PyProof.SetKind
import PyProof.TupleKey
import PyProof.DictKinds
import PyProof.Rows.SetFrom
import PyProof.ZipIter
import KE.KIntText
import PyProof.EnumIter
import PyProof.Rows.SortStr
import PyProof.Rows.SortWalk
import PyProof.Rows.MinMaxN
import PyProof.ConsumeWalk
import PyProof.CollectWalk
import PyProof.WalksMore
import PyProof.CollectStr
import PyProof.Rows.SortShellK
import PyProof.Rows.SortRunsK
import PyProof.SeqI3
import KE.KSortKey
import PyProof.Rows.CallKwBuiltin
import PyProof.SumAny
import KE.KDictSum
import KE.KLam
import PyProof.StrLawsTight
import PyProof.Rows.StrDigits
import PySem.Challenge.RW_notejar_k75_whole_twins
open Option renaming some->Z,none->U,all_some->V1,map_eq_some_iff->Wn,isSome_iff_exists->WP,bind_eq_some_iff->WY,map_some->Xi,isSome_some->abj,getD_some->abV,getD_none->abW
open PySem.Str renaming ofString->b_,length->Zl,empty->abP
open PySem.W renaming Frag->d_,nsIn->U0,keepIn->Vk,findIn->Vt,kia_one->VC,emptyDict->VH,hideAll_none->VS,fnOf->V8,instObj->Wg,kitOne->WT,of_hideAll->W9,mg_of->Xk,plainGet->XD,hasDictIn->Yh,codeIn->Yi,plainGet_of->Y0,hideAll_get->Y1,lookIn->Zi,callWith_K->Zj,plainOver->Zw,methodObj->Zx,isFn->Z8,cellsFrom_some->Z9,absHeap->Z_,takerIn->aan,OpenLaw->aao,methodCall_KW->aax,excIn->aa_,kitx_list->abu,kitx_dict->abv,handedIn->abM,makesIn->ab9,hideAll->ab_,through->ace,openEnds->acr,WalkO->acA,kHook->acD
open PySem renaming wpAny_bind->e_,Shared->ge,Value->B,Addr->O,wpAny_pure->j_,starEach->k_,Program->n_,Expr->r_,wpAny->v_,World->xy,mainGlobals->C_,Around->D_,model->E_,Heap->N_,behindInMarks->Uw,foldedSetIterable->UF,backTo->UH,assignEach->UJ,compareOp->UN,wpAny_mono->U5,strKind->U6,Stmt->U8,swapsWith->Vb,cellsFrom->Vc,attributeBase->Vd,FuncData->Vg,wpAny_callSpecial?_slot->Vj,wpAny_newObj_type->Vl,wpAny_holding->Vm,keywordEach->Vo,wpAny_field->Vy,wpAny_call_entry->VD,bootBuiltins->VN,Scope->VU,wpAny_truthy_bool->VX,binaryOp->V2,wpAny_Call_Name_kw->V5,wpAny_typeNameOfWhole_valiter->Wb,wpAny_seqItems->Wc,backToKw->Wd,Keyword->Wl,wpAny_setState_of->WC,wpAny_typeNameOf_valiter->WK,sysModules->WL,mem_of_lookup->WQ,Builtin->WR,wpAny_getItem_str_slice->WS,NameKind->WU,wpAny_setField_rec->W4,wpAny_rule->W5,call_meets->W6,assign->W7,codeAny_builtin->Xg,PassesOwn->Xl,wpAny_isOneOf_valiter->Xn,codeAny->Xp,Model->Xq,wpAny_forIn_list->Xz,holding->XA,codeAny_mono->XB,wpAny_attempt->XR,wpAny_passesOwn->XX,wpAny_pyIter_tuple->XZ,typeIs_str->X0,sliceBounds->X5,sizeLine_eq->X6,wpAny_typeOf->Yc,wpAny_storeSet_of->Yd,wpAny_pyIter_list->Ye,pyNext->Yg,IsPair->Yk,wpAny_setFlight_noneW->YD,closureFor->YF,wpAny_loadPart'->YS,post_val_or_str->YT,letOwnedTupleGo->YU,wpAny_setField->Zc,wpAny_fieldsOf->Zd,rawInt->Ze,newFunctionEnv->Zf,firstArgMember->Zg,builtinsNs->Zh,wpAny_dictEntries->Zv,wpAny_comprehension_free->ZF,setSearchFrom->ZG,tupleKind->ZN,relayAll->ZO,putSet_of->ZP,noFill_tuple_add->ZQ,setAddHashed->Z4,richCompare_meets_room->Z5,notedBy->Z6,getItem->Z7,IsPart->Ż,wpAny_execs_nil->aak,wpAny_dictEpoch->aal,importedModules->aam,wpAny_eqIsQuiet_tuple->aaw,wpAny_updateSeq_pair->aaD,setAddHashedIn->aaE,lookup_relabel_local->aaF,Params->j',IsZip->ţ,GenState->aaK,treeTable->aaR,standAt->aaS,getMethod->aaT,callerA->aaU,evalArgs_none->aaW,wpAny_standAt->aa4,wpAny_onRaise->aa5,swapsWithSole->aa6,swappedStores->aa7,seq_tuple_add->aa8,plainId_quiet->aa9,wpAny_call->abd,typeIs_int->abe,Result->abh,valueAt->abn,list_append->abo,concat_meets->abp,compEnvC->abq,bindArgs->abr,Within->abt,BindsTo->abA,noteFrame->abL,Thread->abO,Fin->abT,wpAny_of_eq->ab0,wpAny_letGo->ab1,unsupported->ab2,subscripted->ab3,strIterType->ab4,seqIndex_of->ab5,CmpOp->M',typeOf->acg,storeSet->ach,intText?->aci,field->X',call->ack,boot_len->acl,bindL->acm,bindC->acn,atKey->V',ZipApart->acp,Paired->acu,ItemsAre->acv
open Bool renaming true->L,false->D,and_eq_true->m_,false_eq_true->x_,false_ne_true->y_,eq_iff_iff->VO,and_eq_true_iff->Xy,not_true->XV,not_false->YA,not_not->aaj,or_false->abc,not_eq_true'->abJ,or_eq_true->acd
open PySem.Heap renaming get?_push_of_some->l_,get?_push_size->w_,lt_size->z_,size_push->U7,get?_update_self->V3,get?_update_ne->Wj,SameBut->Wm,get?_update_other->Yl,get?_none_of_le->YM
open Nat renaming le_refl->on,lt_of_lt_of_le->Uz,le_trans->UD,ne_of_lt->UI,zero_le->UQ,le_of_ble_eq_true->U9,eq_of_beq_eq_true->U_,lt_irrefl->VM,le_add_right->V7,le_of_lt_succ->WF,zero_add->Xd,beq->Xe,sub_self->XF,ne_of_gt->XG,not_lt_zero->XY,succ_pos->Yr,ne_of_beq_eq_false->Ys,le_of_eq->Yt,le_of_lt->Za,ble->Zb,mod_lt->Zq,lt_trichotomy->Zz,lt_succ_of_lt->ZA,le_succ->ZB,lt_succ_self->ZY,add_sub_cancel_left->ZZ,lt_trans->aag,add_left_cancel->aa0,succ_add->abD,mul_comm->abE
open List renaming mem_append_right->o_,mem_cons_self->pi,getElem?_set_ne->p_,mem_cons_of_mem->rl,range->t_,mem_cons->uk,replicate->u_,getElem?_set_self->A_,size_toArray->F_,map_cons->G_,getElem?_eq_some_iff->H_,getElem?_eq_getElem->I_,mem_append_left->K_,getElem?_append_right->L_,getElem?_append_left->M_,not_mem_nil->O_,getElem?_map->P_,mem_append->R_,length_map->S_,prefix_refl->T_,mem_map->Ux,mem_singleton->Uy,length_cons->UB,mem_of_getElem?->UG,length_set->UM,lookup_cons->UP,mem_filter->UR,length_append->UX,all_eq_true->UY,mem_range->UZ,getElem?_eq_none->Va,pairwise_cons->Vf,append_assoc->Vn,nodup_cons->Vw,map_append->Vx,map_map->VE,replicate_succ->VG,length_replicate->VI,map_congr_left->V0,length_filter_le->V4,any_cons->V_,all_cons->Wa,filter_cons_of_neg->Wf,find?_cons->Wh,set_cons_zero->Ws,set_cons_succ->Wu,pairwise_iff_getElem->Wx,append_nil->WA,nodup_append->WG,flatten_cons->WH,length_eq_zero_iff->WZ,getElem?_replicate->W0,filter_cons_of_pos->W1,any_eq_true->W3,lookup_append->Xf,foldl_cons->Xj,getD->Xm,perm_append_singleton->Xw,getD_eq_getElem?_getD->Xx,getElem_mem->XH,getElem_map->XJ,drop_length->XM,filterMap_cons->XQ,zip_cons_cons->X2,prefix_append->X3,pairwise_singleton->X8,lookup->X9,getElem?_cons_succ->X_,take_of_length_le->Yu,pairwise_map->Yv,map_nil->Yw,length_range->Yx,forIn_nil->Yy,length_drop->YH,length->YR,forIn_cons->YY,getElem?_range->Y3,filter_sublist->Y4,mem_filterMap->Zr,getElem?_drop->Zs,find?_eq_none->Zt,filterMap_map->Zu,getElem?_take_of_lt->ZM,zipIdx_cons->Z0,length_take->Z1,cons_append->Z2,range_succ_eq_map->aah,pairwise_lt_range->aai,zipIdx_nil->aaq,range_succ->aar,of_mem_zip->aas,nil_append->aat,length_singleton->aaB,dropLast_eq_take->aaC,pairwise_append->aaM,nodup_nil->aaN,mem_iff_getElem->aaO,drop_zero->aaP,toList_toArray->aa1,reverse_append->aa2,getElem_of_mem->aa3,foldl->abk,mapM_toArray->abF,filter_congr->abG,ext_getElem?->abH,any_eq_false->abI,getElem_zip->abX,getElem_inj->abY,ext_getElem->abZ,find?_some->acb
open PySem.Value renaming type->q_,ref->B_,none->J_,bool->Q_,builtin->VV,str->V6,isStrOf->WM,int->ZR,notImplemented->aaG,isStrOf_shape->aaX,float->ab6
open Decidable renaming decide->s_
open PySem.SetTable renaming insertAt->UC,grown->VY,insertAt_perm->aab,leap->aba,turns->ŷ,tooFull->abQ,advance->abR,runEnd->acs,layClean->act,fill->acC
open Ne renaming symm->UK
open Option.some renaming inj->UL,injEq->Yq
open PySem.Txt renaming startswith->UO,stripChars->We,partition->Wo,split->Wy,join->Xs,endswith->Y7,slice_le->aaa,slice->abN,rfind->acE
open PySem.Builtin.Str renaming occurrences->UU,strKind->Wi,glued->abz
open PySem.PyData renaming canLay0->UV,eqv->Vr,eqvAll->Wp,canLayAll0->WD,depth->Yj,depthAll->aap
open PySem.Obj renaming mapSeq->U1,mk->Vu,putSet->WN,data_mapFields->X1,isFreed_of_fields->aaz,mapFields->abb,cls_mapFields->abx
open False renaming elim->U4
open Array renaming length_toList->Ve,getElem?_eq_some_iff->VZ,getElem?_toList->Wv,mem_toList_iff->WI,getD_eq_getD_getElem?->Xr,forIn_toList->X4,size_map->YB,toList_push->ZD,size_append->ZE,replicate->aav,getElem?_map->abl,append_assoc->abm
open PyProof.Rows renaming slot_tuple_getitem->Vh,callWith_type1->Vz,seqObj->VP,SortSt->Wr,SortKind->WW,envOfC->Xc,callWith_builtin1->YG,Keyed->YQ,get?_update_seq->YX,arrOf->Y2,listItems_at->Y9,AllBare->Y_,listUpdate_at->ZL,pendingOf->ZX,subscriptTail_builtinR->aaf,oneLt'_eq->aaV,lt_str->aaZ,typeIs_bool'->abB,failedOf->abC,IntsAre->acf,IsTup->acx
open PySem.F renaming slot_dict_valueiterator_next->Vi,slot_tuple_iterator_next->Wq,plainAttrs_list->WV,called_set->W_,slot_list_append->Xo,excBase_ValueError->Xu,args_dict_valueiterator_next_1->Xv,entry_dict_valueiterator_next->XE,args_tuple_add_2->XS,entry_tuple_add->X7,slot_str_split->Yb,slot_tuple_add->Ym,slot_dict_get->YE,slot_dict_values_iter->YN,slot_zip_next->YV,args_tuple_iterator_next_1->YW,entry_tuple_iterator_next->Y8,args_str_split_2->Zm,entry_str_split->Zy,type_list_append->ZI,slot_dict_values->ZJ,slot_str_partition->ZT,slot_list_index->ZU,plainAttrs_dict->ZV,args_dict_get_3->ZW,entry_dict_get->aad,args_list_append_2->aaL,entry_list_append->aaY,slot_list_pop->abi
open PySem.Builtin.SmallTypes renaming nextOf->Vq,ownedTupleIsFree->VJ,ownedTupleHandOut->XO
open PySem.ClassData renaming mk->Vs
open PySem.Data renaming fields->VA,dict->Wz,cls->Yn
open Eq renaming trans->VB
open PySem.Heap.SameBut renaming update->VF
open Int renaming emod_lt_of_pos->VR,emod_nonneg->WB,toNat_natCast->Yz,le_refl->aaQ
open PyProof.Rows.F renaming plain_set_update_loop->VT,entry_set_update_loop->WX
open PySem.NameKind renaming free->VW,cell->V9
open PySem.Builtin.Slice renaming slicePlaces->Ww,sliceAdjust->XN,sliceApplied->Zp
open PySem.Around renaming under_plainId->WE,under->aae
open True renaming intro->WJ
open PySem.Builtin.Tuple renaming tupleExact->WO,tupleCompareSizes->YC,tupleItemsOf->Zo
open PySem.Calls renaming spliced_cons->Xa,callWith_builtin->Xb,spliced_nil->Yo,evalArgs_plain->YO,Name_function_global->Zn
open PySem.Builtin.Dict_items renaming ownsTuple->Xh,newIterator->abU,dictOf->acz
open PySem.Builtin.List renaming listTooLong->XT,listItems->Yp
open LawfulBEq renaming eq_of_beq->YI
open Sum renaming inl->YJ,inr->Z3
open PySem.SetTable.layClean renaming free->YK
open Function renaming comp->YL
open ForInStep renaming yield->YZ
open PySem.W.Fast renaming tw11892475500146522536->Y5,tw10156331382660048174->Y6,tw6613529449190102663->Zk
open List.Pairwise renaming nil->ZC
open PySem.Paired renaming length->ZH
open PySem.AutoSeq1 renaming sub_tuple_tuple->ZK
open PySem.SetTable.probe renaming go->ZS
open List.cons renaming injEq->aau
open PySem.StrLaws renaming glued_eq_join->aay
open PySem.Builtin.Dict renaming showsAll->aaA
open PySem.SeqAt.EqAt renaming bool_bool->aaH,str_int->abf,int_str->abg
open PySem.Code renaming isFrame->aby
open Std.Legacy renaming Range->abK
open PySem.IsL renaming update->abS
open StateT renaming run_pure->ab8
open PySem.Builtin.Frozenset renaming updateFrom->aca,newClass->acw
open PySem.Walks renaming list->acq
open List.Perm renaming swap->acy
open PySem.Shared renaming TypeIs->acB
open PyProof.Rows.IsTup renaming new->acF
open ForIn renaming forIn->acG
open PySem.SetTable.below renaming go->acH
set_option compiler.extract_closed false
set_option bootstrap.genMatcherCode false
set_option maxHeartbeats 4000000
set_option Elab.async false
open PySem.Challenge renaming pw_notejar_k75_whole_twins->p9_,rw_notejar_k75_whole_twins->r9_
local macro_rules|`(tactic|lk)=>`(tactic|kernel_rfl)
local macro_rules|`(tactic|room)=>`(tactic|with_unfolding_all assumption)
namespace TR
open PySem PySem.W
def lc(d:String->Option WR)(p:n_)(w:xy)(a:Nat)(b:Option B):Nat->SharedT->abO->Option SharedT|0,_,_=>U|n+1,s,t=>match ace t with|true=>Z s|false=>match stepOk a b t with|false=>U|true=>match stepT (denote d) p w s t with|some (f,e)=>lc d p w a b n f e|none=>U
def mx:List Obj->BT->Nat->Option (BT×Nat)|[],t,n=>Z (t,n)|o::os,t,n=>match((t.ins n o).get n).isSome with|true=>mx os (t.ins n o) (n+1)|false=>U
def BI(d:String->Option WR)(p:n_)(w:xy)(N:Nat):Option ge:=(fencedOpening d p w N).bind λa=>match a.heap.isNs C_&&a.gens.size==0 with
 |true=>(mx a.heap.objs.toList .nil 0).bind λx=>(lc d p w a.heap.objs.size (a.heap.nsMap C_ "__annotations__") N ⟨x.1,x.2,a.heap.life,a.gens,a.drawn,a.toks,a.os⟩ (topStub p)).bind λb=>match staticsOk (aam p.main.body) a.heap b.abs.heap&&namesBound p b.abs.heap&&gensDone b.abs&&laidKept a.heap b.abs.heap with|true=>Z b.abs|false=>U
 |false=>U
theorem lI{e:String->Option WR}{p:n_}{w:xy}{a:Nat}{b:Option B}:∀(n:Nat)(s:SharedT)(t:abO)(d:SharedT),lc e p w a b n s t=Z d->topRun e p w a b n s.abs t=Z d.abs|0,_,_,_,h=>by cases h|n+1,s,t,d,h=>by unfold lc at h;unfold topRun;cases g:ace t with|true=>rw[g]at h;cases h;rfl|false=>rw[g]at h;cases i:stepOk a b t with|false=>rw[i]at h;cases h|true=>rw[i]at h;cases f:stepT (denote e) p w s t with|none=>rw[f]at h;cases h|some x=>obtain⟨k,j⟩:=x;rw[f]at h;dsimp only at h⊢;rw[stepT_spec f];exact lI n k j d h
theorem my{a:Life}:∀(os:List Obj)(t:BT)(n:Nat)(b:BT)(d:Nat),mx os t n=Z (b,d)->(Z_ b d a).objs=(Z_ t n a).objs++os.toArray|[],t,n,b,d,h=>by cases h;simp|o::os,t,n,b,d,h=>by unfold mx at h;cases e:((t.ins n o).get n).isSome with|false=>rw[e]at h;cases h|true=>rw[e]at h;rw[my os _ _ _ _ h,absHeap_ins e];show(Z_ t n a).objs.push o++os.toArray=_;simp
variable{r:n_}{q:xy}{b:Nat}{f:ge}
theorem wJ{p:String->Option WR}(h:BI p r q b=Z f):acr p r q b=Z f:=by unfold BI at h;unfold acr;obtain⟨i,A,j⟩:=WY.mp h;rw[A];show topFrom p r q b i=Z f;unfold topFrom;cases s:(i.heap.isNs C_&&i.gens.size==0)with|false=>rw[s]at j;cases j|true=>
 rw[s]at j;dsimp only at j⊢;obtain⟨⟨n,o⟩,z,y⟩:=WY.mp j;obtain⟨N,w,v⟩:=WY.mp y;have e:=my (a:=i.heap.life) _ _ _ _ _ z;have I:Z_ n o i.heap.life=i.heap:=by
  have H:(Z_ n o i.heap.life).objs=i.heap.objs:=by rw[e];show(Z_ BT.nil 0 i.heap.life).objs++i.heap.objs.toList.toArray=_;simp[Z_,BT.list]
  obtain⟨⟨u,m⟩,g,d,k,os⟩:=i;show Heap.mk _ _=Heap.mk _ _;exact congrArg (Heap.mk · m) H
 have a:=lI _ _ _ _ w;have E:(SharedT.abs ⟨n,o,i.heap.life,i.gens,i.drawn,i.toks,i.os⟩)=i:=by show Shared.mk (Z_ n o i.heap.life) _ _ _ _=i;rw[I]
 rw[E]at a;rw[a];exact v
variable{δ:Type}{Ë:δ}
theorem xW{a:String->Option WR}{f:ge->δ}(h:(BI a r q b).map f=Z Ë):(acr a r q b).map f=Z Ë:=by obtain⟨s,e,d⟩:=Wn.mp h;rw[wJ e];exact congrArg Z d
noncomputable def Po(d:String->Option WR)(p:n_)(w:xy)(a:Nat)(b:Option B)(n:Nat):SharedT->abO->Option SharedT:=@Nat.rec (λ_=>SharedT->abO->Option SharedT) (λ_ _=>U) (λ_ e s t=>@Bool.rec (λ_=>Option SharedT) (@Bool.rec (λ_=>Option SharedT) U (@Option.rec (SharedT×abO) (λ_=>Option SharedT) U (λx=>e x.1 x.2) (Y6 (Y5 d) p w s t)) (Zk a b t)) (Z s) (ace t)) n
theorem xX{d:String->Option WR}{p:n_}{w:xy}{a:Nat}{b:Option B}:∀(n:Nat)(s:SharedT)(t:abO),Po d p w a b n s t=lc d p w a b n s t|0,_,_=>rfl|n+1,s,t=>by show@Bool.rec (λ_=>Option SharedT) (@Bool.rec (λ_=>Option SharedT) U (@Option.rec (SharedT×abO) (λ_=>Option SharedT) U (λx=>Po d p w a b n x.1 x.2) (Y6 (Y5 d) p w s t)) (Zk a b t)) (Z s) (ace t)=_;unfold lc;rw[<-Fast.te10156331382660048174,<-Fast.te11892475500146522536,<-Fast.te6613529449190102663];cases ace t with|true=>rfl|false=>cases stepOk a b t with|false=>rfl|true=>cases stepT (denote d) p w s t with|none=>rfl|some x=>exact xX n x.1 x.2
noncomputable def openQ(d:String->Option WR)(p:n_)(w:xy)(N:Nat):Option ge:=(fencedOpening d p w N).bind λa=>match a.heap.isNs C_&&a.gens.size==0 with
 |true=>(mx a.heap.objs.toList .nil 0).bind λx=>(Po d p w a.heap.objs.size (a.heap.nsMap C_ "__annotations__") N ⟨x.1,x.2,a.heap.life,a.gens,a.drawn,a.toks,a.os⟩ (topStub p)).bind λb=>match staticsOk (aam p.main.body) a.heap b.abs.heap&&namesBound p b.abs.heap&&gensDone b.abs&&laidKept a.heap b.abs.heap with|true=>Z b.abs|false=>U
 |false=>U
theorem openQ_map{a:String->Option WR}{f:ge->δ}(h:(openQ a r q b).map f=Z Ë):(acr a r q b).map f=Z Ë:=by refine xW ?_;unfold openQ at h;unfold BI;simp only[xX]at h;exact h
end TR
variable{r:n_}{q:xy}{b:Nat}{f:ge}{δ:Type}{Ë:δ}
namespace G
open PySem PySem.W PyProof.Rows
noncomputable def hT(i:Nat):U8:=p9_.main.body.getD i (.Pass ⟨0,0,0,0⟩)
noncomputable def hA(s:U8):Arguments:=match s with|.FunctionDef _ a _ _ _ _ _ _ _ _=>a|_=>{posonlyargs:=[],args:=[],vararg:=U,kwonlyargs:=[],kw_defaults:=[],kwarg:=U,defaults:=[]}
noncomputable def hB(s:U8):List U8:=match s with|.FunctionDef _ _ b _ _ _ _ _ _ _=>b|_=>[]
noncomputable def hS(s:U8):VU:=match s with|.FunctionDef _ _ _ _ _ _ a _ _ _=>a|_=>{kind:=.function,names:=[],isGenerator:=D,isCoroutine:=D}
noncomputable abbrev kS(s:String)(t:Nat):B:=.str (b_ s) t
noncomputable abbrev kR(a:Nat):B:=.ref a
noncomputable abbrev kI(i:Int)(t:Nat):B:=.int i t
noncomputable abbrev kE(P:j')(s:String)(t:Nat)(v:B):DictEntry:=⟨PySem.PyData.keyHash P (b_ s),.str (b_ s) t,v⟩
noncomputable def kF(x:String)(i:Nat)(m:String)(t c:Nat):Obj:=Vu (q_ "function") U (Data.func (fnOf (b_ x) (b_ x) (hA (hT i)) (hB (hT i)) (hS (hT i)) .none J_ J_ (kS m t) U (kR c) J_)) #[]
noncomputable def š(x:String)(i c:Nat):=kF x i "law_notejar_k75_whole_twins" 1047 c
noncomputable def hC(s:U8)(j:Nat):U8:=match s with|.ClassDef _ _ _ b _ _ _ _ _ _ _=>b.getD j (.Pass ⟨0,0,0,0⟩)|_=>.Pass ⟨0,0,0,0⟩
noncomputable def kM(x q:String)(i j:Nat)(m:String)(t c:Nat):Obj:=Vu (q_ "function") U (Data.func (fnOf (b_ x) (b_ q) (hA (hC (hT i) j)) (hB (hC (hT i) j)) (hS (hC (hT i) j)) .none J_ J_ (kS m t) U (kR c) J_)) #[]
noncomputable def kC(x:String)(a b c:Nat)(d e f:Int)(g:Nat)(h:Int)(i j:Nat)(k l:Int)(m:Nat):Obj:=Vu (q_ "code") U (VA #[kS x a,kS x b,kS "/claim/cut.py" c,kI d 0,kI e 0,kI 0 0,kI 0 0,kI f 0,kR g,Q_ L,kI h 0,kR i,J_,J_,J_,kR j,kI k 0,kI l 0,kS "/claim/cut.py" m]) #[]
noncomputable def kD(x:String)(a b c:Nat)(d e f:Int)(g:Nat)(h:Int)(i u v j:Nat)(k l:Int)(m:Nat):Obj:=Vu (q_ "code") U (VA #[kS x a,kS x b,kS "/claim/cut.py" c,kI d 0,kI e 0,kI 0 0,kI 0 0,kI f 0,kR g,Q_ L,kI h 0,kR i,J_,kR u,kR v,kR j,kI k 0,kI l 0,kS "/claim/cut.py" m]) #[]
noncomputable def KKa(P:j'):Frag:=[(2,Vu J_ U (Wz #[]) #[]),(3,Vu (q_ "dict") U (Wz #[kE P "__name__" 165 (kS "law_notejar_k75_whole_twins" 1047),kE P "__doc__" 166 J_,kE P "__package__" 167 J_,kE P "__loader__" 168 (VV "__main__.__loader__#opaque"),kE P "__spec__" 169 J_,kE P "__annotations__" 170 (kR 6),kE P "__builtins__" 171 (kR 4),kE P "__file__" 173 (kS "/claim/cut.py" 172),kE P "__cached__" 174 J_,kE P "JarError" 206 (kR 24),kE P "NoName" 222 (kR 37),kE P "NoTable" 238 (kR 49),kE P "NoPath" 254 (kR 61),kE P "NoAsk" 270 (kR 73),kE P "NoNote" 286 (kR 85),kE P "NoJar" 302 (kR 97),kE P "NoNumber" 318 (kR 109),kE P "NoStep" 334 (kR 121),kE P "is_text_of" 342 (kR 128),kE P "is_whole_number" 351 (kR 135),kE P "is_tuple_of" 359 (kR 142),kE P "FIGURES" 363 (kS "0123456789" 362),kE P "LABEL_SIGNS" 365 (kS "abcdefghijklmnopqrstuvwxyz0123456789-" 364),kE P "LONGEST_LABEL" 367 (kI 8 366),kE P "MOST_LABELS" 369 (kI 5 368),kE P "MOST_RULES" 371 (kI 8 370),kE P "is_label" 378 (kR 149),kE P "is_name" 384 (kR 154),kE P "is_rule" 391 (kR 161),kE P "is_table" 397 (kR 166),kE P "need_name" 404 (kR 173),kE P "need_table" 411 (kR 180),kE P "lies_within" 419 (kR 187),kE P "ends_longest_first" 425 (kR 192),kE P "behind_first_dot" 432 (kR 199),kE P "is_told_open" 440 (kR 206),kE P "find_open_end" 450 (kR 213),kE P "find_own_end" 461 (kR 220),kE P "PATH_SIGNS" 465 (kS "abcdefghijklmnopqrstuvwxyz0123456789-_./" 464),kE P "LONGEST_PATH" 467 (kI 20 466),kE P "is_path" 474 (kR 227),kE P "need_path" 481 (kR 234),kE P "folder" 489 (kR 241),kE P "lies_under" 497 (kR 248),kE P "LAST_MOMENT" 501 (kI 9999 500),kE P "ASK_SAFE" 503 (kI 0 502),kE P "ASK_HOUSE" 505 (kI 1 504),kE P "ASK_PATH" 507 (kI 2 506),kE P "ASK_ORIGIN" 509 (kI 3 508),kE P "ASK_PARTS" 511 (kI 4 510),kE P "is_moment" 518 (kR 255),kE P "is_moment_or_none" 525 (kR 262),kE P "need_moment" 532 (kR 269),kE P "is_ask" 539 (kR 276),kE P "need_ask" 546 (kR 283),kE P "comes_from_near" 557 (kR 290),kE P "NOTE_NAME_SIGNS" 561 (kS "abcdefghijklmnopqrstuvwxyzABCDEFGHIJKLMNOPQRSTUVWXYZ0123456789-_" 560),kE P "LONGEST_NOTE_NAME" 563 (kI 10 562),kE P "NO_WORTH_SIGNS" 565 (kS ";,=" 564),kE P "LONGEST_WORTH" 567 (kI 12 566),kE P "MOST_FIGURES" 569 (kI 4 568),kE P "GIVEN_NAME" 571 (kI 0 570),kE P "GIVEN_WORTH" 573 (kI 1 572),kE P "GIVEN_HOUSE" 575 (kI 2 574),kE P "GIVEN_PATH" 577 (kI 3 576),kE P "GIVEN_UNTIL" 579 (kI 4 578),kE P "GIVEN_LASTS" 581 (kI 5 580),kE P "GIVEN_SAFE" 583 (kI 6 582),kE P "GIVEN_REACH" 585 (kI 7 584),kE P "GIVEN_PARTS" 587 (kI 8 586),kE P "is_note_name" 594 (kR 297),kE P "is_worth" 600 (kR 302),kE P "is_reach" 607 (kR 309),kE P "is_given" 614 (kR 316),kE P "need_given" 621 (kR 323),kE P "is_written_moment" 628 (kR 330),kE P "what_is_told" 638 (kR 337),kE P "read_given" 644 (kR 342),kE P "NOTE_NAME" 648 (kI 0 647),kE P "NOTE_WORTH" 650 (kI 1 649),kE P "NOTE_HOUSE" 652 (kI 2 651),kE P "NOTE_EXACT" 654 (kI 3 653),kE P "NOTE_PATH" 656 (kI 4 655),kE P "NOTE_ENDS" 658 (kI 5 657),kE P "NOTE_SAFE" 660 (kI 6 659),kE P "NOTE_REACH" 662 (kI 7 661),kE P "NOTE_MADE" 664 (kI 8 663),kE P "NOTE_USED" 666 (kI 9 665),kE P "NOTE_PARTS" 668 (kI 10 667),kE P "is_open" 676 (kR 349),kE P "is_exact" 686 (kR 356),kE P "keeps_its_mark" 696 (kR 363),kE P "why_refused" 706 (kR 370),kE P "is_note" 713 (kR 377),kE P "house_for" 721 (kR 384),kE P "path_for" 729 (kR 391),kE P "end_for" 737 (kR 398),kE P "made" 747 (kR 405),kE P "key" 754 (kR 412),kE P "has_ended" 762 (kR 419),kE P "MOST_NOTES" 766 (kI 20 765),kE P "is_jar" 772 (kR 424),kE P "is_by_made" 778 (kR 429),kE P "has_no_key_twice" 784 (kR 434),kE P "need_jar" 791 (kR 441),kE P "need_no_more_than_a_jar_has" 798 (kR 448),kE P "swept" 806 (kR 455),kE P "without_ended" 812 (kR 460),kE P "forgotten" 818 (kR 465),kE P "put" 824 (kR 470),kE P "read_what_is_given" 836 (kR 477),kE P "verdict" 848 (kR 484),kE P "word_of" 854 (kR 489),kE P "shadows" 863 (kR 496),kE P "taken" 869 (kR 501),kE P "take_in" 875 (kR 506),kE P "merged" 888 (kR 513),kE P "place_of" 895 (kR 520),kE P "later_of" 903 (kR 527),kE P "when_last" 910 (kR 534),kE P "Desk" 1046 (kR 635),kE P "_law_cell" 1056 (kR 646),kE P "_law_drawn" 1066 (kR 653),kE P "_law_name" 1075 (kR 660),kE P "_law_table" 1081 (kR 665),kE P "_law_path" 1090 (kR 672),kE P "_law_ask" 1099 (kR 679),kE P "_law_jar" 1105 (kR 684),kE P "_law_given" 1122 (kR 691),kE P "_law_text" 1140 (kR 698),kE P "_law_step" 1155 (kR 705),kE P "_law_done" 1165 (kR 712),kE P "law" 1171 (kR 717)] 133) #[]),(23,Vu (q_ "dict") U (Wz #[kE P "__module__" 196 (kS "notejar.errors" 187),kE P "__firstlineno__" 200 (kI 2 199),kE P "__static_attributes__" 201 (kR 22),kE P "__weakref__" 203 (kR 25),kE P "__doc__" 204 J_] 3) #[]),(24,Vu (q_ "type") U (Yn (Vs (b_ "JarError") [q_ "ValueError"] [kR 24,q_ "ValueError",q_ "Exception",q_ "BaseException",q_ "object"] 23 (b_ "JarError") L [] [kR 37,kR 49,kR 61,kR 73,kR 85,kR 97,kR 109,kR 121] D U D)) #[Z (kR 15),U,Z (kS "JarError" 189),Z (kS "JarError" 197),Z (VV "ValueError.__new__"),Z (Q_ L)]),(36,Vu (q_ "dict") U (Wz #[kE P "__module__" 214 (kS "notejar.errors" 187),kE P "__firstlineno__" 218 (kI 4 217),kE P "__static_attributes__" 219 (kR 35),kE P "__doc__" 220 J_] 2) #[]),(37,Vu (q_ "type") U (Yn (Vs (b_ "NoName") [kR 24] [kR 37,kR 24,q_ "ValueError",q_ "Exception",q_ "BaseException",q_ "object"] 36 (b_ "NoName") L [] [] D U D)) #[Z (kR 28),U,Z (kS "NoName" 207),Z (kS "NoName" 215),Z (VV "ValueError.__new__"),Z (Q_ L)]),(48,Vu (q_ "dict") U (Wz #[kE P "__module__" 230 (kS "notejar.errors" 187),kE P "__firstlineno__" 234 (kI 6 233),kE P "__static_attributes__" 235 (kR 47),kE P "__doc__" 236 J_] 2) #[]),(49,Vu (q_ "type") U (Yn (Vs (b_ "NoTable") [kR 24] [kR 49,kR 24,q_ "ValueError",q_ "Exception",q_ "BaseException",q_ "object"] 48 (b_ "NoTable") L [] [] D U D)) #[Z (kR 40),U,Z (kS "NoTable" 223),Z (kS "NoTable" 231),Z (VV "ValueError.__new__"),Z (Q_ L)]),(60,Vu (q_ "dict") U (Wz #[kE P "__module__" 246 (kS "notejar.errors" 187),kE P "__firstlineno__" 250 (kI 8 249),kE P "__static_attributes__" 251 (kR 59),kE P "__doc__" 252 J_] 2) #[]),(61,Vu (q_ "type") U (Yn (Vs (b_ "NoPath") [kR 24] [kR 61,kR 24,q_ "ValueError",q_ "Exception",q_ "BaseException",q_ "object"] 60 (b_ "NoPath") L [] [] D U D)) #[Z (kR 52),U,Z (kS "NoPath" 239),Z (kS "NoPath" 247),Z (VV "ValueError.__new__"),Z (Q_ L)]),(72,Vu (q_ "dict") U (Wz #[kE P "__module__" 262 (kS "notejar.errors" 187),kE P "__firstlineno__" 266 (kI 10 265),kE P "__static_attributes__" 267 (kR 71),kE P "__doc__" 268 J_] 2) #[]),(73,Vu (q_ "type") U (Yn (Vs (b_ "NoAsk") [kR 24] [kR 73,kR 24,q_ "ValueError",q_ "Exception",q_ "BaseException",q_ "object"] 72 (b_ "NoAsk") L [] [] D U D)) #[Z (kR 64),U,Z (kS "NoAsk" 255),Z (kS "NoAsk" 263),Z (VV "ValueError.__new__"),Z (Q_ L)]),(84,Vu (q_ "dict") U (Wz #[kE P "__module__" 278 (kS "notejar.errors" 187),kE P "__firstlineno__" 282 (kI 12 281),kE P "__static_attributes__" 283 (kR 83),kE P "__doc__" 284 J_] 2) #[]),(85,Vu (q_ "type") U (Yn (Vs (b_ "NoNote") [kR 24] [kR 85,kR 24,q_ "ValueError",q_ "Exception",q_ "BaseException",q_ "object"] 84 (b_ "NoNote") L [] [] D U D)) #[Z (kR 76),U,Z (kS "NoNote" 271),Z (kS "NoNote" 279),Z (VV "ValueError.__new__"),Z (Q_ L)]),(96,Vu (q_ "dict") U (Wz #[kE P "__module__" 294 (kS "notejar.errors" 187),kE P "__firstlineno__" 298 (kI 14 297),kE P "__static_attributes__" 299 (kR 95),kE P "__doc__" 300 J_] 2) #[]),(97,Vu (q_ "type") U (Yn (Vs (b_ "NoJar") [kR 24] [kR 97,kR 24,q_ "ValueError",q_ "Exception",q_ "BaseException",q_ "object"] 96 (b_ "NoJar") L [] [] D U D)) #[Z (kR 88),U,Z (kS "NoJar" 287),Z (kS "NoJar" 295),Z (VV "ValueError.__new__"),Z (Q_ L)]),(108,Vu (q_ "dict") U (Wz #[kE P "__module__" 310 (kS "notejar.errors" 187),kE P "__firstlineno__" 314 (kI 16 313),kE P "__static_attributes__" 315 (kR 107),kE P "__doc__" 316 J_] 2) #[]),(109,Vu (q_ "type") U (Yn (Vs (b_ "NoNumber") [kR 24] [kR 109,kR 24,q_ "ValueError",q_ "Exception",q_ "BaseException",q_ "object"] 108 (b_ "NoNumber") L [] [] D U D)) #[Z (kR 100),U,Z (kS "NoNumber" 303),Z (kS "NoNumber" 311),Z (VV "ValueError.__new__"),Z (Q_ L)]),(120,Vu (q_ "dict") U (Wz #[kE P "__module__" 326 (kS "notejar.errors" 187),kE P "__firstlineno__" 330 (kI 18 329),kE P "__static_attributes__" 331 (kR 119),kE P "__doc__" 332 J_] 2) #[]),(121,Vu (q_ "type") U (Yn (Vs (b_ "NoStep") [kR 24] [kR 121,kR 24,q_ "ValueError",q_ "Exception",q_ "BaseException",q_ "object"] 120 (b_ "NoStep") L [] [] D U D)) #[Z (kR 112),U,Z (kS "NoStep" 319),Z (kS "NoStep" 327),Z (VV "ValueError.__new__"),Z (Q_ L)]),(127,kC "is_text_of" 337 338 339 21 4 3 124 181 125 126 340 21 341),(128,kF "is_text_of" 11 "notejar.kinds" 335 127),(134,kD "is_whole_number" 343 344 345 27 3 3 129 181 130 131 132 133 349 27 350),(135,kF "is_whole_number" 12 "notejar.kinds" 335 134),(141,kD "is_tuple_of" 352 353 354 31 2 3 136 181 137 138 139 140 357 31 358),(142,kF "is_tuple_of" 13 "notejar.kinds" 335 141),(148,kD "is_label" 372 373 374 39 1 3 143 181 144 145 146 147 376 39 377),(149,kF "is_label" 20 "notejar.names" 360 148),(153,kC "is_name" 379 380 381 43 1 3 150 181 151 152 382 43 383),(154,kF "is_name" 21 "notejar.names" 360 153),(160,kD "is_rule" 385 386 387 50 1 3 155 181 156 157 158 159 389 50 390),(161,kF "is_rule" 22 "notejar.names" 360 160),(165,kC "is_table" 392 393 394 58 1 3 162 181 163 164 395 58 396),(166,kF "is_table" 23 "notejar.names" 360 165),(172,kD "need_name" 398 399 400 64 1 3 167 181 168 169 170 171 402 64 403),(173,kF "need_name" 24 "notejar.names" 360 172),(179,kD "need_table" 405 406 407 67 1 3 174 181 175 176 177 178 409 67 410),(180,kF "need_table" 25 "notejar.names" 360 179),(186,kD "lies_within" 412 413 414 70 2 3 181 181 182 183 184 185 417 70 418),(187,kF "lies_within" 26 "notejar.names" 360 186),(191,kC "ends_longest_first" 420 421 422 72 1 3 188 181 189 190 423 72 424),(192,kF "ends_longest_first" 27 "notejar.names" 360 191),(198,kD "behind_first_dot" 426 427 428 75 1 3 193 181 194 195 196 197 430 75 431),(199,kF "behind_first_dot" 28 "notejar.names" 360 198),(205,kD "is_told_open" 433 434 435 77 2 3 200 181 201 202 203 204 438 77 439),(206,kF "is_told_open" 29 "notejar.names" 360 205),(212,kD "find_open_end" 441 442 443 81 2 3 207 181 208 209 210 211 448 81 449),(213,kF "find_open_end" 30 "notejar.names" 360 212),(219,kD "find_own_end" 451 452 453 90 2 3 214 181 215 216 217 218 459 90 460),(220,kF "find_own_end" 31 "notejar.names" 360 219),(226,kD "is_path" 468 469 470 100 1 3 221 181 222 223 224 225 472 100 473),(227,kF "is_path" 35 "notejar.paths" 462 226),(233,kD "need_path" 475 476 477 102 1 3 228 181 229 230 231 232 479 102 480),(234,kF "need_path" 36 "notejar.paths" 462 233),(240,kD "folder" 482 483 484 105 1 3 235 181 236 237 238 239 487 105 488),(241,kF "folder" 37 "notejar.paths" 462 240),(247,kD "lies_under" 490 491 492 111 2 3 242 181 243 244 245 246 495 111 496),(248,kF "lies_under" 38 "notejar.paths" 462 247),(254,kD "is_moment" 512 513 514 124 1 3 249 181 250 251 252 253 516 124 517),(255,kF "is_moment" 46 "notejar.asks" 498 254),(261,kD "is_moment_or_none" 519 520 521 126 1 3 256 181 257 258 259 260 523 126 524),(262,kF "is_moment_or_none" 47 "notejar.asks" 498 261),(268,kD "need_moment" 526 527 528 128 1 3 263 181 264 265 266 267 530 128 531),(269,kF "need_moment" 48 "notejar.asks" 498 268),(275,kD "is_ask" 533 534 535 131 1 3 270 181 271 272 273 274 537 131 538),(276,kF "is_ask" 49 "notejar.asks" 498 275),(282,kD "need_ask" 540 541 542 135 1 3 277 181 278 279 280 281 544 135 545),(283,kF "need_ask" 50 "notejar.asks" 498 282),(289,kD "comes_from_near" 547 548 549 138 2 3 284 181 285 286 287 288 555 138 556),(290,kF "comes_from_near" 51 "notejar.asks" 498 289),(296,kD "is_note_name" 588 589 590 160 1 3 291 181 292 293 294 295 592 160 593),(297,kF "is_note_name" 67 "notejar.giving" 558 296),(301,kC "is_worth" 595 596 597 162 1 3 298 181 299 300 598 162 599),(302,kF "is_worth" 68 "notejar.giving" 558 301),(308,kD "is_reach" 601 602 603 166 1 3 303 181 304 305 306 307 605 166 606),(309,kF "is_reach" 69 "notejar.giving" 558 308),(315,kD "is_given" 608 609 610 168 1 3 310 181 311 312 313 314 612 168 613),(316,kF "is_given" 70 "notejar.giving" 558 315),(322,kD "need_given" 615 616 617 172 1 3 317 181 318 319 320 321 619 172 620),(323,kF "need_given" 71 "notejar.giving" 558 322),(329,kD "is_written_moment" 622 623 624 175 1 3 324 181 325 326 327 328 626 175 627),(330,kF "is_written_moment" 72 "notejar.giving" 558 329),(336,kD "what_is_told" 629 630 631 177 1 3 331 181 332 333 334 335 636 177 637),(337,kF "what_is_told" 73 "notejar.giving" 558 336),(341,kC "read_given" 639 640 641 194 1 3 338 181 339 340 642 194 643),(342,kF "read_given" 74 "notejar.giving" 558 341),(348,kD "is_open" 669 670 671 219 2 3 343 181 344 345 346 347 674 219 675),(349,kF "is_open" 87 "notejar.notes" 645 348),(355,kD "is_exact" 677 678 679 221 3 3 350 181 351 352 353 354 684 221 685),(356,kF "is_exact" 88 "notejar.notes" 645 355),(362,kD "keeps_its_mark" 687 688 689 226 3 3 357 181 358 359 360 361 694 226 695),(363,kF "keeps_its_mark" 89 "notejar.notes" 645 362),(369,kD "why_refused" 697 698 699 233 3 3 364 181 365 366 367 368 704 233 705),(370,kF "why_refused" 90 "notejar.notes" 645 369),(376,kD "is_note" 707 708 709 249 1 3 371 181 372 373 374 375 711 249 712),(377,kF "is_note" 91 "notejar.notes" 645 376),(383,kD "house_for" 714 715 716 255 2 3 378 181 379 380 381 382 719 255 720),(384,kF "house_for" 92 "notejar.notes" 645 383),(390,kD "path_for" 722 723 724 259 2 3 385 181 386 387 388 389 727 259 728)]
noncomputable def KKb(P:j'):Frag:=[(391,kF "path_for" 93 "notejar.notes" 645 390),(397,kD "end_for" 730 731 732 263 2 3 392 181 393 394 395 396 735 263 736),(398,kF "end_for" 94 "notejar.notes" 645 397),(404,kD "made" 738 739 740 267 4 3 399 181 400 401 402 403 745 267 746),(405,kF "made" 95 "notejar.notes" 645 404),(411,kD "key" 748 749 750 275 1 3 406 181 407 408 409 410 752 275 753),(412,kF "key" 96 "notejar.notes" 645 411),(418,kD "has_ended" 755 756 757 277 2 3 413 181 414 415 416 417 760 277 761),(419,kF "has_ended" 97 "notejar.notes" 645 418),(423,kC "is_jar" 767 768 769 281 1 3 420 181 421 422 770 281 771),(424,kF "is_jar" 100 "notejar.jars" 763 423),(428,kC "is_by_made" 773 774 775 287 1 3 425 181 426 427 776 287 777),(429,kF "is_by_made" 101 "notejar.jars" 763 428),(433,kC "has_no_key_twice" 779 780 781 289 1 3 430 181 431 432 782 289 783),(434,kF "has_no_key_twice" 102 "notejar.jars" 763 433),(440,kD "need_jar" 785 786 787 292 1 3 435 181 436 437 438 439 789 292 790),(441,kF "need_jar" 103 "notejar.jars" 763 440),(447,kD "need_no_more_than_a_jar_has" 792 793 794 295 1 3 442 181 443 444 445 446 796 295 797),(448,kF "need_no_more_than_a_jar_has" 104 "notejar.jars" 763 447),(454,kD "swept" 799 800 801 298 2 3 449 181 450 451 452 453 804 298 805),(455,kF "swept" 105 "notejar.jars" 763 454),(459,kC "without_ended" 807 808 809 302 2 3 456 181 457 458 810 302 811),(460,kF "without_ended" 106 "notejar.jars" 763 459),(464,kC "forgotten" 813 814 815 304 2 3 461 181 462 463 816 304 817),(465,kF "forgotten" 107 "notejar.jars" 763 464),(469,kC "put" 819 820 821 308 2 3 466 181 467 468 822 308 823),(470,kF "put" 108 "notejar.jars" 763 469),(476,kD "read_what_is_given" 825 826 827 314 5 3 471 181 472 473 474 475 834 314 835),(477,kF "read_what_is_given" 109 "notejar.jars" 763 476),(483,kD "verdict" 837 838 839 321 5 3 478 181 479 480 481 482 846 321 847),(484,kF "verdict" 110 "notejar.jars" 763 483),(488,kC "word_of" 849 850 851 324 5 3 485 181 486 487 852 324 853),(489,kF "word_of" 111 "notejar.jars" 763 488),(495,kD "shadows" 855 856 857 334 3 3 490 181 491 492 493 494 861 334 862),(496,kF "shadows" 112 "notejar.jars" 763 495),(500,kC "taken" 864 865 866 340 5 3 497 181 498 499 867 340 868),(501,kF "taken" 113 "notejar.jars" 763 500),(505,kC "take_in" 870 871 872 347 5 3 502 181 503 504 873 347 874),(506,kF "take_in" 114 "notejar.jars" 763 505),(512,kD "merged" 878 879 880 357 2 3 507 181 508 509 510 511 886 357 887),(513,kF "merged" 116 "notejar.comparing" 876 512),(519,kD "place_of" 889 890 891 368 1 3 514 181 515 516 517 518 893 368 894),(520,kF "place_of" 117 "notejar.comparing" 876 519),(526,kD "later_of" 896 897 898 370 2 3 521 181 522 523 524 525 901 370 902),(527,kF "later_of" 118 "notejar.comparing" 876 526),(533,kD "when_last" 904 905 906 374 1 3 528 181 529 530 531 532 908 374 909),(534,kF "when_last" 119 "notejar.comparing" 876 533),(547,Vu (q_ "code") U (VA #[kS "__init__" 925,kS "Desk.__init__" 926,kS "/claim/cut.py" 927,kI 379 0,kI 2 0,kI 0 0,kI 0 0,kI 3 0,kR 542,Q_ L,kI 181 0,kR 543,J_,kR 544,kR 545,kR 546,kI 930 0,kI 379 0,kS "/claim/cut.py" 931]) #[]),(548,kM "__init__" "Desk.__init__" 121 0 "notejar.desks" 911 547),(554,Vu (q_ "code") U (VA #[kS "notes" 933,kS "Desk.notes" 934,kS "/claim/cut.py" 935,kI 386 0,kI 1 0,kI 0 0,kI 0 0,kI 3 0,kR 549,Q_ L,kI 181 0,kR 550,J_,kR 551,kR 552,kR 553,kI 937 0,kI 386 0,kS "/claim/cut.py" 938]) #[]),(555,kM "notes" "Desk.notes" 121 1 "notejar.desks" 911 554),(561,Vu (q_ "code") U (VA #[kS "do_step" 940,kS "Desk.do_step" 941,kS "/claim/cut.py" 942,kI 389 0,kI 3 0,kI 0 0,kI 0 0,kI 3 0,kR 556,Q_ L,kI 181 0,kR 557,J_,kR 558,kR 559,kR 560,kI 946 0,kI 389 0,kS "/claim/cut.py" 947]) #[]),(562,kM "do_step" "Desk.do_step" 121 2 "notejar.desks" 911 561),(568,Vu (q_ "code") U (VA #[kS "give" 949,kS "Desk.give" 950,kS "/claim/cut.py" 951,kI 394 0,kI 4 0,kI 0 0,kI 0 0,kI 3 0,kR 563,Q_ L,kI 181 0,kR 564,J_,kR 565,kR 566,kR 567,kI 958 0,kI 394 0,kS "/claim/cut.py" 959]) #[]),(569,kM "give" "Desk.give" 121 3 "notejar.desks" 911 568),(575,Vu (q_ "code") U (VA #[kS "sweep" 961,kS "Desk.sweep" 962,kS "/claim/cut.py" 963,kI 400 0,kI 2 0,kI 0 0,kI 0 0,kI 3 0,kR 570,Q_ L,kI 181 0,kR 571,J_,kR 572,kR 573,kR 574,kI 966 0,kI 400 0,kS "/claim/cut.py" 967]) #[]),(576,kM "sweep" "Desk.sweep" 121 4 "notejar.desks" 911 575),(582,Vu (q_ "code") U (VA #[kS "forget" 969,kS "Desk.forget" 970,kS "/claim/cut.py" 971,kI 403 0,kI 2 0,kI 0 0,kI 0 0,kI 3 0,kR 577,Q_ L,kI 181 0,kR 578,J_,kR 579,kR 580,kR 581,kI 974 0,kI 403 0,kS "/claim/cut.py" 975]) #[]),(583,kM "forget" "Desk.forget" 121 5 "notejar.desks" 911 582),(589,Vu (q_ "code") U (VA #[kS "do_and_count" 977,kS "Desk.do_and_count" 978,kS "/claim/cut.py" 979,kI 406 0,kI 3 0,kI 0 0,kI 0 0,kI 3 0,kR 584,Q_ L,kI 181 0,kR 585,J_,kR 586,kR 587,kR 588,kI 984 0,kI 406 0,kS "/claim/cut.py" 985]) #[]),(590,kM "do_and_count" "Desk.do_and_count" 121 6 "notejar.desks" 911 589),(596,Vu (q_ "code") U (VA #[kS "merge" 987,kS "Desk.merge" 988,kS "/claim/cut.py" 989,kI 411 0,kI 2 0,kI 0 0,kI 0 0,kI 3 0,kR 591,Q_ L,kI 181 0,kR 592,J_,kR 593,kR 594,kR 595,kI 993 0,kI 411 0,kS "/claim/cut.py" 994]) #[]),(597,kM "merge" "Desk.merge" 121 7 "notejar.desks" 911 596),(603,Vu (q_ "code") U (VA #[kS "back" 996,kS "Desk.back" 997,kS "/claim/cut.py" 998,kI 416 0,kI 1 0,kI 0 0,kI 0 0,kI 3 0,kR 598,Q_ L,kI 181 0,kR 599,J_,kR 600,kR 601,kR 602,kI 1000 0,kI 416 0,kS "/claim/cut.py" 1001]) #[]),(604,kM "back" "Desk.back" 121 8 "notejar.desks" 911 603),(610,Vu (q_ "code") U (VA #[kS "forth" 1003,kS "Desk.forth" 1004,kS "/claim/cut.py" 1005,kI 419 0,kI 1 0,kI 0 0,kI 0 0,kI 3 0,kR 605,Q_ L,kI 181 0,kR 606,J_,kR 607,kR 608,kR 609,kI 1007 0,kI 419 0,kS "/claim/cut.py" 1008]) #[]),(611,kM "forth" "Desk.forth" 121 9 "notejar.desks" 911 610),(617,Vu (q_ "code") U (VA #[kS "move" 1010,kS "Desk.move" 1011,kS "/claim/cut.py" 1012,kI 422 0,kI 3 0,kI 0 0,kI 0 0,kI 3 0,kR 612,Q_ L,kI 181 0,kR 613,J_,kR 614,kR 615,kR 616,kI 1017 0,kI 422 0,kS "/claim/cut.py" 1018]) #[]),(618,kM "move" "Desk.move" 121 10 "notejar.desks" 911 617),(624,Vu (q_ "code") U (VA #[kS "steps" 1020,kS "Desk.steps" 1021,kS "/claim/cut.py" 1022,kI 430 0,kI 1 0,kI 0 0,kI 0 0,kI 3 0,kR 619,Q_ L,kI 181 0,kR 620,J_,kR 621,kR 622,kR 623,kI 1024 0,kI 430 0,kS "/claim/cut.py" 1025]) #[]),(625,kM "steps" "Desk.steps" 121 11 "notejar.desks" 911 624),(631,Vu (q_ "code") U (VA #[kS "twin" 1027,kS "Desk.twin" 1028,kS "/claim/cut.py" 1029,kI 433 0,kI 1 0,kI 0 0,kI 0 0,kI 3 0,kR 626,Q_ L,kI 181 0,kR 627,J_,kR 628,kR 629,kR 630,kI 1032 0,kI 433 0,kS "/claim/cut.py" 1033]) #[]),(632,kM "twin" "Desk.twin" 121 12 "notejar.desks" 911 631),(634,Vu (q_ "dict") U (Wz #[kE P "__module__" 920 (kS "notejar.desks" 911),kE P "__firstlineno__" 924 (kI 377 923),kE P "__init__" 932 (kR 548),kE P "notes" 939 (kR 555),kE P "do_step" 948 (kR 562),kE P "give" 960 (kR 569),kE P "sweep" 968 (kR 576),kE P "forget" 976 (kR 583),kE P "do_and_count" 986 (kR 590),kE P "merge" 995 (kR 597),kE P "back" 1002 (kR 604),kE P "forth" 1009 (kR 611),kE P "move" 1019 (kR 618),kE P "steps" 1026 (kR 625),kE P "twin" 1034 (kR 632),kE P "__static_attributes__" 1039 (kR 633),kE P "__dict__" 1041 (kR 636),kE P "__weakref__" 1043 (kR 637),kE P "__doc__" 1044 J_] 4) #[]),(635,Vu (q_ "type") U (Yn (Vs (b_ "Desk") [q_ "object"] [kR 635,q_ "object"] 634 (b_ "Desk") L [] [] D U D)) #[U,U,Z (kS "Desk" 913),Z (kS "Desk" 921),Z (VV "object.__new__"),Z (Q_ L)]),(645,kD "_law_cell" 1049 1050 1051 440 2 3 640 181 641 642 643 644 1054 440 1055),(646,š "_law_cell" 123 645),(652,kD "_law_drawn" 1057 1058 1059 444 3 3 647 181 648 649 650 651 1064 444 1065),(653,š "_law_drawn" 124 652),(659,kD "_law_name" 1067 1068 1069 448 2 3 654 181 655 656 657 658 1073 448 1074),(660,š "_law_name" 125 659),(664,kC "_law_table" 1076 1077 1078 452 2 3 661 181 662 663 1079 452 1080),(665,š "_law_table" 126 664),(671,kD "_law_path" 1082 1083 1084 455 2 3 666 181 667 668 669 670 1088 455 1089),(672,š "_law_path" 127 671),(678,kD "_law_ask" 1091 1092 1093 458 2 3 673 181 674 675 676 677 1097 458 1098),(679,š "_law_ask" 128 678),(683,kC "_law_jar" 1100 1101 1102 461 3 3 680 181 681 682 1103 461 1104),(684,š "_law_jar" 129 683),(690,kD "_law_given" 1106 1107 1108 479 3 3 685 181 686 687 688 689 1120 479 1121),(691,š "_law_given" 130 690),(697,kD "_law_text" 1123 1124 1125 490 1 3 692 181 693 694 695 696 1138 490 1139),(698,š "_law_text" 131 697),(704,kD "_law_step" 1141 1142 1143 498 4 3 699 181 700 701 702 703 1153 498 1154),(705,š "_law_step" 132 704),(711,kD "_law_done" 1156 1157 1158 514 3 3 706 181 707 708 709 710 1163 514 1164),(712,š "_law_done" 133 711),(716,kC "law" 1166 1167 1168 518 1 3 713 181 714 715 1169 518 1170),(717,š "law" 134 716)]
noncomputable def KK(P:j'):Frag:=KKa P++KKb P
noncomputable def KAa:List O:=[2,3,23,24,36,37,48,49,60,61,72,73,84,85,96,97,108,109,120,121,127,128,134,135,141,142,148,149,153,154,160,161,165,166,172,173,179,180,186,187,191,192,198,199,205,206,212,213,219,220,226,227,233,234,240,241,247,248,254,255,261,262,268,269,275,276,282,283,289,290,296,297,301,302,308,309,315,316,322,323,329,330,336,337,341,342,348,349,355,356,362,363,369,370,376,377,383,384,390]
noncomputable def KAb:List O:=[391,397,398,404,405,411,412,418,419,423,424,428,429,433,434,440,441,447,448,454,455,459,460,464,465,469,470,476,477,483,484,488,489,495,496,500,501,505,506,512,513,519,520,526,527,533,534,547,548,554,555,561,562,568,569,575,576,582,583,589,590,596,597,603,604,610,611,617,618,624,625,631,632,634,635,645,646,652,653,659,660,664,665,671,672,678,679,683,684,690,691,697,698,704,705,711,712,716,717]
noncomputable def KA:List O:=KAa++KAb
theorem KA_ok(P:j'):KA=(KK P).map (·.1):=by lk
noncomputable def VQ:n_:=view p9_ [134]
theorem hbr:r9_.row.prog.bare:=⟨rfl,rfl,rfl,rfl,rfl,by decide+kernel⟩
theorem slo:PySem.W.looksOpen r9_.row.prog=L:=by lk
set_option maxRecDepth 100000 in
theorem sd1:r9_.row.wellSaid=L:=by unfold PySem.W.OpenRow.wellSaid PySem.W.OpenRow.partSaid;rw[slo];lk
set_option maxRecDepth 100000 in
theorem sd:r9_.wellSaid=L:=by unfold PySem.W.OpenLaw.wellSaid;rw[sd1];lk
theorem hld(h:r9_.row.wellSaid=L->r9_.row.Holds):r9_.Holds:=PySem.W.holds_law sd h
noncomputable def VL:List Str:=(["JarError","NoName","NoTable","NoPath","NoAsk","NoNote","NoJar","NoNumber","NoStep","is_text_of","is_whole_number","is_tuple_of","FIGURES","LABEL_SIGNS","LONGEST_LABEL","MOST_LABELS","MOST_RULES","is_label","is_name","is_rule","is_table","need_name","need_table","lies_within","ends_longest_first","behind_first_dot","is_told_open","find_open_end","find_own_end","PATH_SIGNS","LONGEST_PATH","is_path","need_path","folder","lies_under","LAST_MOMENT","ASK_SAFE","ASK_HOUSE","ASK_PATH","ASK_ORIGIN","ASK_PARTS","is_moment","is_moment_or_none","need_moment","is_ask","need_ask","comes_from_near","NOTE_NAME_SIGNS","LONGEST_NOTE_NAME","NO_WORTH_SIGNS","LONGEST_WORTH","MOST_FIGURES","GIVEN_NAME","GIVEN_WORTH","GIVEN_HOUSE","GIVEN_PATH","GIVEN_UNTIL","GIVEN_LASTS","GIVEN_SAFE","GIVEN_REACH","GIVEN_PARTS","is_note_name","is_worth","is_reach","is_given","need_given","is_written_moment","what_is_told","read_given","NOTE_NAME","NOTE_WORTH","NOTE_HOUSE","NOTE_EXACT","NOTE_PATH","NOTE_ENDS","NOTE_SAFE","NOTE_REACH","NOTE_MADE","NOTE_USED","NOTE_PARTS","is_open","is_exact","keeps_its_mark","why_refused","is_note","house_for","path_for","end_for","made","key","has_ended","MOST_NOTES","is_jar","is_by_made","has_no_key_twice","need_jar","need_no_more_than_a_jar_has","swept","without_ended","forgotten","put","read_what_is_given","verdict","word_of","shadows","taken","take_in","merged","place_of","later_of","when_last","Desk","_law_cell","_law_drawn","_law_name","_law_table","_law_path","_law_ask","_law_jar","_law_given","_law_text","_law_step","_law_done"].map b_)
theorem SS{e d:Type}{o:Option δ}{f:δ->e}{g:δ->d}{a:e}{b:d}(h:o.map f=Z a)(i:o.map g=Z b):o.map (λs=>(f s,g s))=Z (a,b):=by cases o with|none=>cases h|some x=>cases h;cases i;rfl
set_option maxRecDepth 100000 in
theorem Pp(w:xy):(TR.openQ aaR p9_ w 10474).map (openSeen VQ VL (aam p9_.main.body) (λs=>recOk [] s) L)=Z (openGood VQ VL):=by lk
set_option maxRecDepth 100000 in
theorem Kp(w:xy):(TR.openQ aaR p9_ w 10474).map (λs=>KAa.map s.heap.get?)=Z ((KKa w.params).map λp=>Z p.2):=by lk
set_option maxRecDepth 100000 in
theorem Kq(w:xy):(TR.openQ aaR p9_ w 10474).map (λs=>KAb.map s.heap.get?)=Z ((KKb w.params).map λp=>Z p.2):=by lk
theorem BJ{b a:Type}{o:Option δ}{f:δ->b->a}{A B:List b}{X Y:List a}(d:o.map (λs=>A.map (f s))=Z X)(e:o.map (λs=>B.map (f s))=Z Y):o.map (λs=>(A++B).map (f s))=Z (X++Y):=by cases o with|none=>cases d|some x=>cases d;cases e;simp
theorem Pq(w:xy):(TR.openQ aaR p9_ w 10474).map (λs=>KA.map s.heap.get?)=Z ((KK w.params).map λp=>Z p.2):=by show(TR.openQ aaR p9_ w 10474).map (λs=>(KAa++KAb).map s.heap.get?)=Z ((KKa w.params++KKb w.params).map λp=>Z p.2);rw[Vx];exact BJ (f:=λs:ge=>s.heap.get?) (Kp w) (Kq w)
theorem left:LeftO p9_ VQ VL (λs=>recOk [] s) (Hook.obs (acD KK KA KA_ok)) (Hook.val (acD KK KA KA_ok)) 10474:=λw=>TR.openQ_map (SS (Pp w) (Pq w))
end G
set_option Elab.async false
set_option linter.all false
set_option maxRecDepth 100000
noncomputable section
open PySem PySem.Spec PyProof.Rows
namespace L2
abbrev ò:=Sum Int Str
noncomputable def wK:ò->B->Bool|.inl k,v=>Value.isInt k v|.inr x,v=>WM x v
noncomputable def SU(w:xy):ò->Int|.inl k=>hashInt k|.inr x=>hashStr w x
theorem cx:∀{k:ò}{v:B},wK k v=L->(∃i t,k=YJ i/\v=ZR i t)\/(∃x t,k=Z3 x/\v=V6 x t)|.inl i,v,h=>by obtain⟨t,e⟩:=Value.isInt_shape (k:=i) (v:=v) h;exact .inl ⟨i,t,rfl,e⟩|.inr x,v,h=>by obtain⟨t,e⟩:=aaX (x:=x) (v:=v) h;exact .inr ⟨x,t,rfl,e⟩
theorem xY(i:Int)(t:Tok):wK (.inl i) (.int i t)=L:=by simp[wK,Value.isInt]
theorem xZ(x:Str)(t:Tok):wK (.inr x) (.str x t)=L:=by simp[wK,WM]
theorem Kr(a b:Int):s_ ((YJ a:ò)=YJ b)=(a==b):=by
 by_cases e:a=b;·subst e;simp
 ·have h:¬(YJ a:ò)=YJ b:=λq=>e (Sum.inl.inj q);rw[decide_eq_false h];exact(beq_eq_false_iff_ne.mpr e).symm
theorem Ks(a b:Str):s_ ((Z3 a:ò)=Z3 b)=s_ (a=b):=by
 by_cases e:a=b;·subst e;simp
 ·have h:¬(Z3 a:ò)=Z3 b:=λq=>e (Sum.inr.inj q);rw[decide_eq_false h,decide_eq_false e]
theorem Kt(a:Int)(b:Str):s_ ((YJ a:ò)=Z3 b)=D:=decide_eq_false (λq=>nomatch q)
theorem Ku(a:Str)(b:Int):s_ ((Z3 a:ò)=YJ b)=D:=decide_eq_false (λq=>nomatch q)
def dt(f:n_)(w:xy):PySem.KeyKind f w ò where
 is:=wK;hash:=SU w;inj:=λv a b o m=>by
  rcases cx o with⟨i,t,rfl,rfl⟩|⟨x,t,rfl,rfl⟩
  · rcases cx m with⟨j,u,rfl,e⟩|⟨y,u,rfl,e⟩;·injection e with d _;rw[d]
    ·exact nomatch e
  · rcases cx m with⟨j,u,rfl,e⟩|⟨y,u,rfl,e⟩;·exact nomatch e
    ·injection e with d _;rw[d]
 byValue:=λk v h=>by rcases cx h with⟨i,t,rfl,rfl⟩|⟨x,t,rfl,rfl⟩<;>rfl
 pyHash:=λg h=>by
  rcases cx g with⟨i,t,rfl,rfl⟩|⟨x,t,rfl,rfl⟩;·exact wpAny_pyHash_int h
  ·exact wpAny_pyHash_str h
 eqBool:=λn g h=>by
  rcases cx n with⟨i,t,rfl,rfl⟩|⟨x,t,rfl,rfl⟩
  · rcases cx g with⟨j,u,rfl,rfl⟩|⟨y,u,rfl,rfl⟩;·rw[Kr]at h;exact wpAny_eqBool_int h
    ·rw[Kt]at h;exact abg i t y u _ _ _ _ h
  · rcases cx g with⟨j,u,rfl,rfl⟩|⟨y,u,rfl,rfl⟩;·rw[Ku]at h;exact abf x t j u _ _ _ _ h
    ·rw[Ks]at h;exact wpAny_eqBool_str h
 «strs»:=λk x t v h=>by
  rcases cx h with⟨i,u,rfl,e⟩|⟨y,u,rfl,e⟩;·exact nomatch e
  ·injection e with d _;subst d;cases v<;>rfl
theorem tW(a:n_)(w:xy)(i:Int)(t:Tok):(dt a w).is (.inl i) (.int i t)=L:=xY i t
theorem tX(a:n_)(w:xy)(x:Str)(t:Tok):(dt a w).is (.inr x) (.str x t)=L:=xZ x t
inductive V where|non|bl(b:Bool)|int(i:Int)|str(x:Str)|byt(b:Array UInt8)|flt(b:UInt64)|ref(a:O)|ty(n:String)deriving DecidableEq
def Ú:V->B->Prop|.non,u=>u=J_|.bl b,u=>u=Q_ b|.int i,u=>∃t,u=ZR i t|.str x,u=>∃t,u=V6 x t|.byt b,u=>∃t,u=Value.bytes b t|.flt b,u=>∃t,u=ab6 b t|.ref a,u=>u=B_ a|.ty n,u=>u=q_ n
abbrev Ï:List V->List B->Prop:=acu Ú
variable{ι:List V}{μ:List B}
theorem Ï.length(r:Ï ι μ):ι.length=μ.length:=ZH r
theorem Ï.get:∀{a:List V}{b:List B}{i:Nat}{x:V},Ï a b->a[i]?=Z x->∃u,b[i]?=Z u/\Ú x u|_,_,_,_,.nil,e=>by simp at e|_,_,0,_,.cons r _,e=>by simp at e;subst e;exact⟨_,rfl,r⟩|_,_,i+1,x,.cons _ t,e=>by obtain⟨u,f,d⟩:=Ï.get (i:=i) (x:=x) t (by simpa using e);exact⟨u,by simpa using f,d⟩
theorem Ï.set{x:V}{u:B}(r:Ú x u):∀{a:List V}{b:List B}(i:Nat),Ï a b->Ï (a.set i x) (b.set i u)|_,_,_,.nil=>.nil|_,_,0,.cons _ t=>.cons r t|_,_,i+1,.cons q t=>.cons q (Ï.set r i t)
theorem Ï.append:∀{b a:List V}{e d:List B},Ï b e->Ï a d->Ï (b++a) (e++d)|_,_,_,_,.nil,s=>s|_,_,_,_,.cons r t,s=>.cons r (Ï.append t s)
theorem Ï.take:∀{a:List V}{b:List B}(n:Nat),Ï a b->Ï (a.take n) (b.take n)|_,_,0,_=>.nil|_,_,_+1,.nil=>.nil|_,_,n+1,.cons r t=>.cons r (Ï.take n t)
theorem Ï.drop:∀{a:List V}{b:List B}(n:Nat),Ï a b->Ï (a.drop n) (b.drop n)|_,_,0,r=>r|_,_,_+1,.nil=>.nil|_,_,n+1,.cons _ t=>Ï.drop n t
def Č:Option V->Option B->Prop|some v,Z u=>Ú v u|none,U=>True|_,_=>False
def KV:List (δ×V)->List (δ×B)->Prop:=acu λ(p:δ×V)(q:δ×B)=>p.1=q.1/\Ú p.2 q.2
noncomputable def kV:ò->V|.inl i=>.int i|.inr x=>.str x
inductive HO where|lst(xs:List V)|tup(xs:List V)|dK(kvs:List (ò×V))|dT(kvs:List (List ò×V))|set(S:Int->Bool)(n:Nat)|ins(C dx:O)(fs:List (Str×V))|own(x:O)|xd(fs:List (Str×V))|met(f x:O)|rng(lo hi:Int)|frz(o:Obj)(u:HO)|tbl(ps:Array B)|ext(φ:N_->Prop)
abbrev Hp:=O->Option HO
noncomputable def ß(H:Hp)(a:O)(o:HO):Hp:=λb=>if b=a then Z o else H b
variable{g:Hp}{e:O}
theorem aw{o:HO}:ß g e o e=Z o:=by unfold ß;rw[if_pos rfl]
variable{A:O}
theorem aA{o:HO}(h:A≠e):ß g e o A=g A:=by unfold ß;rw[if_neg h]
theorem ya{o u:HO}:ß (ß g e o) e u=ß g e u:=by funext b;unfold ß;split<;>rfl
theorem Pr{o u:HO}(h:g e=Z o)(b:g A=Z u)(d:o≠u):e≠A:=by intro a;subst a;rw[h]at b;exact d (UL b)
theorem aF{o:HO}(h:g e=Z o)(b:g A=U):e≠A:=by intro a;subst a;rw[h]at b;cases b
def ã(P:n_)(w:xy)(H:Hp)(h:N_)(a:O):HO->Prop|.lst e=>e.length<=sizeLine/\∃(d:List B)(n:Nat),Ï e d/\h.get? a=Z {cls:=.type "list",data:=.seq d.toArray n}|.tup e=>e.length<=sizeLine/\∃d:List B,Ï e d/\acx h a d.toArray|.dK b=>b.length<=sizeLine/\(a==WL)=D/\∃i,KV b i/\h.DictOf (dt P w) a i|.dT b=>b.length<=sizeLine/\(a==WL)=D/\∃e:List (List ò×O×B),acu (λ(p:List ò×V)(q:List ò×O×B)=>p.1=q.1/\H q.2.1=Z (.tup (p.1.map kV))/\Ú p.2 q.2.2) b e/\∃o z N,h.get? a=Z o/\o.ExactDict/\o.data=.dict z N/\z.toList=e.map (entryOfKey (ZN (dt P w)))/\(e.map (·.1)).Nodup|.set S n=>h.SetOf (intKind P w) a S n|.ins C j fs=>H j=Z (.own a)/\fs.length<=1000/\j≠a/\h.get? a=Z (Wg C j)/\∃g,h.Ns1 j g/\(∀f,Č (fs.lookup f) (g f))/\abt g (fs.map (·.1))|.own _=>∃o,h.get? a=Z o|.xd fs=>∃g,h.Ns1 a g/\∀f,Č (fs.lookup f) (g f)|.rng lo I=>∃t u v,h.get? a=Z {cls:=.type "range",data:=.fields #[.int lo t,.int I u,.int 1 v]}|.frz o u=>h.get? a=Z o/\ã P w H h a u|.tbl E=>∃m:Array B,h.get? a=Z {cls:=.none,data:=.fields m}/\TriplesOk m.toList/\∀pos v,codeAmong pos m.toList=Z v->∃c r i q t A,v=.ref c/\H c=Z (.frz r (.ext λ_=>True))/\r.data=.fields i/\i[1]?=Z (.str q t)/\E[0]?=Z (.str q A)|.met f x=>h.get? a=Z (Zx (.ref f) (.ref x))|.ext k=>k h/\(∃o,h.get? a=Z o)/\∀y s:N_,k y->(∀o,y.get? a=Z o->s.get? a=Z o)->k s
def ĉ(P:n_)(w:xy)(H:Hp)(h:N_):Prop:=∀a o,H a=Z o->ã P w H h a o
variable{N:N_}
theorem ã.lt{o:HO}(x:ã r q g N e o):e<N.objs.size:=by cases o with|lst d=>obtain⟨_,_,_,_,a⟩:=x;exact z_ a|tup d=>obtain⟨_,_,_,p⟩:=x;exact p.lt|dK b=>obtain⟨_,_,_,_,o,_,_,a,_⟩:=x;exact z_ a|dT b=>obtain⟨_,_,_,_,o,_,_,a,_⟩:=x;exact z_ a|set S n=>obtain⟨o,_,_,_,a,_⟩:=x;exact z_ a|ins C m fs=>obtain⟨_,_,_,a,_⟩:=x;exact z_ a|own y=>obtain⟨_,a⟩:=x;exact z_ a|xd fs=>obtain⟨_,⟨_,_,_,a,_⟩,_⟩:=x;exact z_ a|rng lo k=>obtain⟨_,_,_,a⟩:=x;exact z_ a|frz j u=>obtain⟨a,_⟩:=x;exact z_ a|tbl i=>obtain⟨_,a,_⟩:=x;exact z_ a|met f y=>exact z_ (show N.get? e=Z _ from x)|ext h=>obtain⟨_,⟨_,a⟩,_⟩:=x;exact z_ a
theorem Paired.mapP{h g:Type}{F G:h->g->Prop}:∀{e:List h}{d:List g},acu F e d->(∀a b,F a b->G a b)->acu G e d|_,_,.nil,_=>.nil|_,_,.cons r t,f=>.cons (f _ _ r) (Paired.mapP t f)
variable{Α:Hp}
theorem ã.stay{h':N_}{o:HO}(x:ã r q g N e o)(k:∀b u,(b=e\/g b=Z (.own e))->N.get? b=Z u->h'.get? b=Z u)(ho:∀b,g b=Z (.own e)->Α b=Z (.own e))(ht:∀b A,g b=Z (.tup A)->Α b=Z (.tup A))(hf:∀b o u,g b=Z (.frz o u)->Α b=Z (.frz o u):=by first|exactλ_ _ _ i=>i|(intro c _ _ i;rw[aA (aF i (by assumption))];exact i)):ã r q Α h' e o:=by induction o with|lst A=>obtain⟨z,w,n,h,a⟩:=x;exact⟨z,w,n,h,k _ _ (.inl rfl) a⟩|tup A=>obtain⟨z,w,h,j,a,c⟩:=x;exact⟨z,w,h,j,k _ _ (.inl rfl) a,c⟩|dK a'=>obtain⟨z,y,E,h,j,m,s,a,c⟩:=x;exact⟨z,y,E,h,j,m,s,k _ _ (.inl rfl) a,c⟩|dT a'=>obtain⟨z,y,A,h,j,m,s,a,c⟩:=x;exact⟨z,y,A,Paired.mapP h λp i z=>⟨z.1,ht _ _ z.2.1,z.2.2⟩,j,m,s,k _ _ (.inl rfl) a,c⟩|set S n=>obtain⟨j,m,s,t,a,c⟩:=x;exact⟨j,m,s,t,k _ _ (.inl rfl) a,c⟩|ins C dx fs=>obtain⟨d,z,ne,a,I,⟨H,m,s,e2,c⟩,h⟩:=x;exact⟨ho _ d,z,ne,k _ _ (.inl rfl) a,I,⟨H,m,s,k _ _ (.inr d) e2,c⟩,h⟩|own y=>obtain⟨j,a⟩:=x;exact⟨j,k _ _ (.inl rfl) a⟩|xd fs=>obtain⟨I,⟨H,m,s,a,c⟩,h⟩:=x;exact⟨I,⟨H,m,s,k _ _ (.inl rfl) a,c⟩,h⟩|rng lo hi=>obtain⟨t,u,v,a⟩:=x;exact⟨t,u,v,k _ _ (.inl rfl) a⟩|frz j u ih=>obtain⟨a,i⟩:=x;exact⟨k _ _ (.inl rfl) a,ih i⟩|tbl ps=>obtain⟨qs,a,tr,ch⟩:=x;exact⟨qs,k e _ (.inl rfl) a,tr,λpos v hv=>let⟨c,oc,E,i,t,t',e1,e2,h⟩:=ch pos v hv;⟨c,oc,E,i,t,t',e1,hf _ _ _ e2,h⟩⟩|met f y=>have a:N.get? e=Z (Zx (.ref f) (.ref y)):=x;show h'.get? e=Z (Zx (.ref f) (.ref y));exact k e _ (.inl rfl) a|ext φ=>obtain⟨p,⟨o,a⟩,st⟩:=x;exact⟨st _ _ p λo i=>k _ _ (.inl rfl) i,⟨o,k _ _ (.inl rfl) a⟩,st⟩
theorem ĉ.lt{P:n_}{w:xy}{H:Hp}{h:N_}{a:O}{o:HO}(x:ĉ P w H h)(e:H a=Z o):a<h.objs.size:=(x a o e).lt
theorem ĉ.fresh(x:ĉ r q g N)(b:N.objs.size<=e):g e=U:=by cases a:g e with|none=>rfl|some u=>exact absurd (Uz (x.lt a) b) (VM _)
theorem ĉ.kept{h':N_}(x:ĉ r q g N)(k:∀b u,N.get? b=Z u->h'.get? b=Z u):ĉ r q g h':=λa o e=>(x a o e).stay (λb u _ d=>k b u d) (λ_ d=>d) λ_ _ d=>d
theorem ĉ.laid{h':N_}{a:O}{o:HO}(x:ĉ r q g N)(k:∀b u,N.get? b=Z u->h'.get? b=Z u)(j:N.objs.size<=a)(f:ã r q (ß g a o) h' a o):ĉ r q (ß g a o) h':=λb u e=>by
 have h:=x.fresh j;by_cases i:b=a;·subst i;rw[aw]at e;cases e;exact f
 ·rw[aA i]at e;exact(x b u e).stay (λc v _ d=>k c v d) (λc d=>by rw[aA (aF d h)];exact d) λc m d=>by rw[aA (aF d h)];exact d
def Rd(H:Hp)(a:O)(u:HO):Prop:=H a=Z u\/∃o,H a=Z (.frz o u)
theorem Rd.ok{u:HO}(a:Rd g e u)(x:ĉ r q g N):ã r q g N e u:=by
 rcases a with a|⟨o,a⟩;·exact x e u a
 ·obtain⟨_,b⟩:=x e _ a;exact b
def Mut:Option HO->Prop|some (.lst _)=>True|some (.dK _)=>True|some (.dT _)=>True|some (.set _ _)=>True|some (.ins _ _ _)=>True|some (.ext _)=>True|_=>False
theorem ĉ.write{h':N_}{x e:O}{p:HO}(H:ĉ r q g N)(i:Mut (g x))(E:e=x\/g e=Z (.own x))(k:∀b u,b≠e->N.get? b=Z u->h'.get? b=Z u)(w:∃u,h'.get? e=Z u)(s:ã r q (ß g x p) h' x p):ĉ r q (ß g x p) h':=λb u d=>by
 have h:∀c y,g c=Z (.own y)->c≠x:=λc y a z=>by subst z;rw[a]at i;exact i
 have j:∀c m,g c=Z (.tup m)->c≠x:=λc m a z=>by subst z;rw[a]at i;exact i
 by_cases o:b=x;·subst o;rw[aw]at d;cases d;exact s
 · rw[aA o]at d;by_cases f:b=e
   · have A:g b=Z (.own x):=by
      rcases E with z|z;·exact absurd (f.trans z) o
      ·rw[f];exact z
     rw[d]at A;cases A;obtain⟨v,I⟩:=w;exact⟨v,by rw[f];exact I⟩
   · refine(H b u d).stay (λc v n a=>k c v ?_ a) (λc a=>by rw[aA (h c b a)];exact a) (λc m a=>by rw[aA (j c m a)];exact a) λc _ _ a=>by rw[aA (λz=>by subst z;rw[a]at i;exact i)];exact a
     rcases n with rfl|n;·exact f
     · rintro rfl;rcases E with z|z;·exact h c b n z
       ·rw[n]at z;cases z;exact o rfl
structure Un(fs ex:List O)(H H':Hp)(h h':N_):Prop where
 keep:∀b o,h.get? b=Z o->H b=U->b∉fs->b∉ex->h'.get? b=Z o
 slot:∀b o,h.get? b=Z o->H b=U->b∈fs->b∉ex->∃sl,h'.get? b=Z {o with slots:=sl}free:∀b o,h.get? b=Z o->H b=U->b∉ex->H' b=U
 there:∀b o,h.get? b=Z o->b∉ex->∃o',h'.get? b=Z o'
 tups:∀b xs,H b=Z (.tup xs)->H' b=Z (.tup xs)frzs:∀b o u,H b=Z (.frz o u)->H' b=Z (.frz o u)tbls:∀b ps,H b=Z (.tbl ps)->∃more,H' b=Z (.tbl (ps++more))
variable{ο:List O}
theorem Un.any{h:List O}{f:N_}(u:Un ο h g Α N f){b:O}{a:Obj}(q:N.get? b=Z a)(n:g b=U)(d:b∉h):∃i,f.get? b=Z {a with slots:=i}:=by
 by_cases e:b∈ο;·exact u.slot b a q n e d
 ·exact⟨a.slots,u.keep b a q n e d⟩
theorem Un.kept{d:List O}{h':N_}(k:∀b u,N.get? b=Z u->h'.get? b=Z u):Un ο d g g N h':=⟨λb a q _ _ _=>k b a q,λb a q _ _ _=>⟨a.slots,k b a q⟩,λ_ _ _ n _=>n,λb a q _=>⟨a,k b a q⟩,λ_ _ q=>q,λ_ _ _ q=>q,λ_ e q=>⟨#[],by rw[q];simp⟩⟩
theorem Un.refl{a:List O}:Un ο a g g N N:=Un.kept λ_ _ q=>q
theorem Un.laid{h:List O}{h':N_}{a:O}{o:HO}(k:∀b u,N.get? b=Z u->h'.get? b=Z u)(f:N.objs.size<=a)(d:g a=U):Un ο h g (ß g a o) N h' where
 keep:=λb u q _ _ _=>k b u q;slot:=λb u q _ _ _=>⟨u.slots,k b u q⟩;free:=λb u q n _=>by rw[aA (UI (Uz (z_ q) f))];exact n
 there:=λb u q _=>⟨u,k b u q⟩;tups:=λb e q=>by rw[aA (aF q d)];exact q
 frzs:=λb u e q=>by rw[aA (aF q d)];exact q
 tbls:=λb i q=>⟨#[],by rw[aA (aF q d),q];simp⟩
theorem Un.write{v:List O}{h':N_}{x e:O}{o:HO}(d:Mut (g x))(s:e=x\/g e=Z (.own x))(k:∀b u,b≠e->N.get? b=Z u->h'.get? b=Z u)(h:∃u,h'.get? e=Z u):Un ο v g (ß g x o) N h':=by
 have i:∀b,g b=U->b≠x:=λb n z=>by subst z;rw[n]at d;exact d
 have j:∀b,g b=U->b≠e:=λb n z=>by
  subst z;rcases s with r|r;·exact i b n r
  ·rw[n]at r;cases r
 have f:∀b u,g b=Z u->¬Mut (Z u)->b≠x:=λb u q p z=>by subst z;rw[q]at d;exact p d
 refine⟨λb u q n _ _=>k b u (j b n) q,λb u q n _ _=>⟨u.slots,k b u (j b n) q⟩,λb u q n _=>by rw[aA (i b n)];exact n,λb u q _=>?_,λb m q=>by rw[aA (f b _ q λz=>z)];exact q,λb u m q=>by rw[aA (f b _ q λz=>z)];exact q,λb w q=>⟨#[],by rw[aA (f b _ q λz=>z),q];simp⟩⟩;by_cases a:b=e;·subst a;exact h
 ·exact⟨u,k b u a q⟩
noncomputable def trk(h:N_)(H:Hp):List O:=(t_ h.objs.size).filter λa=>(H a).isSome
def BK(h:N_)(H:Hp):N_:=ab_ h (trk h H)
theorem yb(h:N_)(H:Hp):(BK h H).objs.size=h.objs.size:=PySem.W.hideAll_size _ _
theorem BL{o:Obj}(a:N.get? e=Z o)(n:g e=U):(BK N g).get? e=Z o:=Y1 _ a λb=>by have q:(g e).isSome=L:=(UR.mp b).2;rw[n]at q;simp at q
theorem Gj{o:Obj}(a:(BK N g).get? e=Z o):N.get? e=Z o/\g e=U:=by have b:N.get? e=Z o:=W9 (trk N g) a;refine⟨b,?_⟩;cases q:g e with|none=>rfl|some x=>have d:e∈trk N g:=UR.mpr ⟨UZ.mpr (z_ b),by simp[q]⟩;have z:(BK N g).get? e=U:=VS (trk N g) d;rw[z]at a;cases a
noncomputable def Gk(g h:N_)(b:O):List (O×Obj):=(t_ h.objs.size).filterMap λa=>if a=b\/(g.get? a).isSome=L then U else(h.get? a).map λo=>(a,o)
def rest(g h:N_)(a d:O):List (O×Obj):=(Gk g h a).filter λp=>s_ (p.1≠d)
structure Mod(K:d_)(mg:Str->Option B)(base:N_):Prop where
 kin:K.In base
 glob:base.Ns C_ mg
 blt:∃mb,base.Ns Zh mb/\∀x:Str,x≠"__name__"->mb x=VN x
 nolimit:base.NoLimit
structure C where
 prog:n_
 w:xy
 K:d_
 mg:Str->Option B
 base:N_
 A:D_
 N:List Str
 s₀:ge
 H₀:Hp
 env:Env
 outer:List Env
 stack:List Env
 ex:List O
 fn:Str->Bool
 calm:Bool
 pn:List (O×Obj)xe:B->ge->Prop
noncomputable def frs(l:List Env):List O:=l.filterMap (·.frame)
abbrev C.fs(X:C):List O:=frs X.outer
def Vis(a:VU)(x:Str):Prop:=a.names.lookup x=Z .local\/a.names.lookup x=Z .cell\/a.names.lookup x=Z .free
def ł(a:VU)(x:Str):Prop:=a.names.lookup x=Z .local\/a.names.lookup x=Z .cell
def SV(a:Env)(h:N_)(m:Str->Option B)(x:Str)(u:B):Prop:=(a.kindOf x=Z .local/\m x=Z u)\/((a.kindOf x=Z .cell\/a.kindOf x=Z .free)/\∃c,a.cells.lookup x=Z c/\h.IsCell c (Z u))
structure C.Ok(X:C):Prop where
 mod:Mod X.K X.mg X.base
 kind:X.env.scope.kind=.function
 glob:X.env.globals=C_
 blt:X.env.builtins=Zh
 above:X.s₀.heap.objs.size<=X.env.locals
 inj:∀x y c,X.env.cells.lookup x=Z c->X.env.cells.lookup y=Z c->x=y
 has:∀x,(X.env.kindOf x=Z .cell\/X.env.kindOf x=Z .free)->∃c,X.env.cells.lookup x=Z c
 cab:∀x c,X.fn x=L->X.env.cells.lookup x=Z c->X.s₀.heap.objs.size<=c
 hd:X.calm=L->X.A.handled=U
 frames:X.A.frames=Z X.stack
 stk:X.stack=X.outer\/(X.stack=X.env::X.outer/\X.env.frame=Z X.env.locals)exf:∀b∈X.ex,b≠X.env.locals/\∀x c,X.env.cells.lookup x=Z c->c≠b
 bs:∀b o,X.base.get? b=Z o->X.s₀.heap.get? b=Z o/\X.H₀ b=U
 bsz:X.base.objs.size<=X.s₀.heap.objs.size
 noex:∀b o,X.base.get? b=Z o->b∉X.ex
 exfs:∀b∈X.ex,b∉X.fs
 funs:X.s₀.heap.FunFrames X.base X.outer
 frf:∀b∈X.fs,X.H₀ b=U
structure Í(X:C)(f':List (O×Obj))(σ:List (Option V))(H:Hp)(s:ge):Prop where
 ok:X.Ok
 os:s.os=X.s₀.os
 bare:Y_ s.gens
 base:Un X.fs X.ex X.H₀ H X.s₀.heap s.heap
 loc:∃m,s.heap.Ns X.env.locals m/\∀(i:Nat)(x:Str)(v:V),X.N[i]?=Z x->σ[i]?=Z (Z v)->Vis X.env.scope x->∃u,Ú v u/\SV X.env s.heap m x u
 cell:∀x c,X.env.cells.lookup x=Z c->∃v,s.heap.IsCell c v
 free:H X.env.locals=U
 freeC:∀x c,X.env.cells.lookup x=Z c->H c=U
 pin:∀p∈X.pn++f',s.heap.get? p.1=Z p.2/\H p.1=U/\p.1≠X.env.locals/\p.1∉X.fs/\∀v,p.2.data≠.cell v
 hok:ĉ X.prog X.w H s.heap
 len:σ.length=X.N.length
variable{a:C}
theorem C.Ok.nofr(d:a.Ok){b:O}{o:Obj}(e:a.base.get? b=Z o):b∉a.fs:=λf=>by have:=(d.funs.mem f).1;rw[e]at this;cases this
variable{ζ:List (O×Obj)}{Å:List (Option V)}
theorem Í.bs(I:Í a ζ Å g f):∀b o,a.base.get? b=Z o->f.heap.get? b=Z o/\g b=U:=λb o e=>⟨I.base.keep b o (I.ok.bs b o e).1 (I.ok.bs b o e).2 (I.ok.nofr e) (I.ok.noex b o e),I.base.free b o (I.ok.bs b o e).1 (I.ok.bs b o e).2 (I.ok.noex b o e)⟩
theorem Í.bk(I:Í a ζ Å g f):∀b o,a.base.get? b=Z o->f.heap.get? b=Z o:=λb o e=>(I.bs b o e).1
theorem Í.mod(I:Í a ζ Å g f):Mod a.K a.mg a.base:=I.ok.mod
theorem Í.kIn(I:Í a ζ Å g f):a.K.In f.heap:=I.ok.mod.kin.keeps I.bk
theorem Í.lt(I:Í a ζ Å g f):a.env.locals<f.heap.objs.size:=let⟨_,b,_⟩:=I.loc;b.lt
theorem Í.sz(I:Í a ζ Å g f):a.s₀.heap.objs.size<=f.heap.objs.size:=UD I.ok.above (Za I.lt)
theorem Í.nofs(I:Í a ζ Å g f){b:O}(h:f.heap.objs.size<=b):b∉a.fs:=λe=>by obtain⟨_,o,d,_⟩:=I.ok.funs.mem e;exact absurd (Uz (z_ d) (UD I.sz h)) (VM _)
theorem Í.cne(I:Í a ζ Å g f):∀x c,a.env.cells.lookup x=Z c->c≠a.env.locals:=λx c e z=>by obtain⟨v,o,h,i⟩:=I.cell x c e;obtain⟨m,⟨j,k,n,b,d,_⟩,_⟩:=I.loc;rw[z,b]at h;cases h;rw[d]at i;cases i
theorem Í.funs(I:Í a ζ Å g f):f.heap.FunFrames a.base a.outer:=by
 have all:∀(l:List Env),(∀b∈frs l,b∈a.fs)->a.s₀.heap.FunFrames a.base l->f.heap.FunFrames a.base l:=by intro l;induction l with|nil=>intro _ _;trivial|cons w r m=>intro k s;obtain⟨u,⟨d,o,h,q,p,v⟩,n⟩:=s;have j:d∈a.fs:=k d (by unfold frs;rw[XQ,h];exact pi);obtain⟨y,e⟩:=I.base.slot d o p (I.ok.frf d j) j λz=>I.ok.exfs d z j;exact⟨u,⟨d,_,h,q,e,v⟩,m (λb i=>k b (by unfold frs;rw[XQ,h];exact rl _ i)) n⟩
 exact all a.outer (λ_ i=>i) I.ok.funs
theorem Í.stack(I:Í a ζ Å g f):f.heap.FunFrames a.base a.stack:=by
 rcases I.ok.stk with e|⟨e,d⟩;·rw[e];exact I.funs
 ·rw[e];obtain⟨m,b,_⟩:=I.loc;refine .cons (by rw[I.ok.kind];decide) d b ?_ I.funs;exact YM (UD I.ok.bsz I.ok.above)
theorem Í.stkSub(I:Í a ζ Å g f):∀b∈frs a.stack,b∈a.env.locals::a.fs:=λb d=>by
 rcases I.ok.stk with e|⟨e,h⟩;·rw[e]at d;exact rl _ d
 ·rw[e]at d;unfold frs at d;rw[XQ,h]at d;exact d
theorem Í.stkFree(I:Í a ζ Å g f):∀b∈frs a.stack,g b=U:=λb d=>by
 rcases uk.mp (I.stkSub b d)with e|d;·rw[e];exact I.free
 ·obtain⟨_,o,h,_⟩:=I.ok.funs.mem d;exact I.base.free b o h (I.ok.frf b d) λz=>I.ok.exfs b z d
theorem Í.step{g':Array aaK}{t':Nat}{d':Drawn}{ch:List O}(I:Í a ζ Å g f)(w:∀b∈ch,(b∈a.ex\/a.s₀.heap.objs.size<=b)/\b≠a.env.locals/\(∀x c,a.env.cells.lookup x=Z c->c≠b)/\∀p∈a.pn++ζ,p.1≠b)(y:∀b o,b≠a.env.locals->b∉a.fs->b∉ch->f.heap.get? b=Z o->g b=U->N.get? b=Z o)(a':∀b o,b≠a.env.locals->b∈a.fs->b∉ch->f.heap.get? b=Z o->g b=U->∃sl,N.get? b=Z {o with slots:=sl})(j:∀b o,b∉ch->f.heap.get? b=Z o->g b=U->Α b=U)(b':∀b o,b∉ch->f.heap.get? b=Z o->∃o',N.get? b=Z o')(e':∀b xs,g b=Z (.tup xs)->Α b=Z (.tup xs))(l':∀b o u,g b=Z (.frz o u)->Α b=Z (.frz o u))(i':∀b ps,g b=Z (.tbl ps)->∃k',Α b=Z (.tbl (ps++k')))(ns:∀m,f.heap.Ns a.env.locals m->N.Ns a.env.locals m)(n':ĉ a.prog a.w Α N)(hg:Y_ g'):Í a ζ Å Α {f with heap:=N,gens:=g',drawn:=d',toks:=t'}:=by
 have c':∀b o,a.s₀.heap.get? b=Z o->b≠a.env.locals:=λb o e=>UI (Uz (z_ e) I.ok.above);have H:∀b o,a.s₀.heap.get? b=Z o->b∉a.ex->b∉ch:=λb o e h hb=>by
  rcases(w b hb).1 with z|z;·exact h z
  ·exact absurd (Uz (z_ e) z) (VM _)
 have A:∀x c,a.env.cells.lookup x=Z c->∀v,f.heap.IsCell c v->N.IsCell c v:=λx c e v⟨o,ho,hd⟩=>by
  have s:c∉ch:=λz=>(w c z).2.2.1 x c e rfl;by_cases hc:c∈a.fs;·obtain⟨sl,q⟩:=a' c o (I.cne x c e) hc s ho (I.freeC x c e);exact⟨_,q,hd⟩
  ·exact⟨o,y c o (I.cne x c e) hc s ho (I.freeC x c e),hd⟩
 refine⟨I.ok,I.os,hg,⟨λb o e n hb h=>?_,λb o e n hb h=>?_,λb o e n h=>?_,λb o e h=>?_,λb xs e=>e' b xs (I.base.tups b xs e),λb o xs e=>l' b o xs (I.base.frzs b o xs e),λb ps e=>?_⟩,?_,λx c e=>?_,?_,λx c e=>?_,λp hp=>?_,n',I.len⟩;·exact y b o (c' b o e) hb (H b o e h) (I.base.keep b o e n hb h) (I.base.free b o e n h)
 ·obtain⟨sl,E⟩:=I.base.slot b o e n hb h;obtain⟨m',e2⟩:=a' b _ (c' b o e) hb (H b o e h) E (I.base.free b o e n h);exact⟨m',e2⟩
 ·obtain⟨o',E⟩:=I.base.there b o e h;exact j b o' (H b o e h) E (I.base.free b o e n h)
 ·obtain⟨o',E⟩:=I.base.there b o e h;exact b' b o' (H b o e h) E
 ·obtain⟨m1,E⟩:=I.base.tbls b ps e;obtain⟨m2,e2⟩:=i' b _ E;exact⟨m1++m2,by rw[e2,abm]⟩
 · obtain⟨m,hn,hl⟩:=I.loc;refine⟨m,ns m hn,λi x v E e2 e3=>?_⟩;obtain⟨u,r,l⟩:=hl i x v E e2 e3;refine⟨u,r,?_⟩;rcases l with l|⟨k,c,e,z⟩;·exact .inl l
   ·exact .inr ⟨k,c,e,A x c e _ z⟩
 ·obtain⟨v,z⟩:=I.cell x c e;exact⟨v,A x c e v z⟩
 ·obtain⟨m,⟨o,_,_,ho,_⟩,_⟩:=I.loc;exact j _ o (λz=>(w _ z).2.1 rfl) ho I.free
 ·obtain⟨v,o,ho,hd⟩:=I.cell x c e;exact j c o (λz=>(w c z).2.2.1 x c e rfl) ho (I.freeC x c e)
 ·obtain⟨e,n,ne,nf,d⟩:=I.pin p hp;have s:p.1∉ch:=λz=>(w p.1 z).2.2.2 p hp rfl;exact⟨y p.1 p.2 ne nf s e n,j p.1 p.2 s e n,ne,nf,d⟩
theorem Í.un{h':N_}{t':Nat}(I:Í a ζ Å g f)(u:Un a.fs [] g Α f.heap h')(i:ĉ a.prog a.w Α h'):Í a ζ Å Α {f with heap:=h',toks:=t'}:=by obtain⟨m,⟨o,E,H,p,r⟩,_⟩:=id I.loc;obtain⟨w,v⟩:=u.any p I.free (by simp);exact I.step (g':=f.gens) (d':=f.drawn) (ch:=[]) (λ_ z=>nomatch z) (λb o _ h _ e n=>u.keep b o e n h (by simp)) (λb o _ h _ e n=>u.slot b o e n h (by simp)) (λb o _ e n=>u.free b o e n (by simp)) (λb o _ e=>u.there b o e (by simp)) u.tups u.frzs u.tbls (λA s=>by obtain⟨y,j,k,d,q⟩:=s;rw[p]at d;cases d;exact⟨_,j,k,v,q⟩) i I.bare
theorem Í.call{h':N_}{g':Array aaK}{t':Nat}{d':Drawn}{ch:List O}(I:Í a ζ Å g f)(u:Un (frs a.stack) ch g Α f.heap h')(k:ĉ a.prog a.w Α h')(A:Y_ g')(i:∀b∈ch,(b∈a.ex\/a.s₀.heap.objs.size<=b)/\b≠a.env.locals/\(∀x c,a.env.cells.lookup x=Z c->c≠b)/\∀p∈a.pn++ζ,p.1≠b):Í a ζ Å Α {f with heap:=h',gens:=g',drawn:=d',toks:=t'}:=by obtain⟨m,⟨o,es,ep,v,r⟩,_⟩:=id I.loc;obtain⟨H,j⟩:=u.any v I.free λz=>(i _ z).2.1 rfl;exact I.step (ch:=ch) i (λb o j E d e n=>u.keep b o e n (λz=>(uk.mp (I.stkSub b z)).elim j E) d) (λb o _ _ d e n=>u.any e n d) (λb o d e n=>u.free b o e n d) (λb o d e=>u.there b o e d) u.tups u.frzs u.tbls (λm' y=>by obtain⟨N,q,s,h,w⟩:=y;rw[v]at h;cases h;exact⟨_,q,s,j,w⟩) k A
theorem Í.turned{h':N_}{t':Nat}{it:O}(I:Í a ζ Å g f)(k:∀b o,b≠it->f.heap.get? b=Z o->h'.get? b=Z o)(s:g it=U)(i:it≠a.env.locals)(H:it∈a.ex\/a.s₀.heap.objs.size<=it)(E:∀x c,a.env.cells.lookup x=Z c->c≠it)(A:∀p∈a.pn++ζ,p.1≠it):Í a ζ Å g {f with heap:=h',toks:=t'}:=by
 have h:∀b u,g b=Z u->b≠it:=λb u e z=>by rw[z,s]at e;cases e
 refine I.step (g':=f.gens) (d':=f.drawn) (ch:=[it]) (λb y=>?_) (λb o _ _ d e _=>k b o (λz=>d (by simp[z])) e) (λb o _ _ d e _=>⟨o.slots,k b o (λz=>d (by simp[z])) e⟩) (λ_ _ _ _ n=>n) (λb o d e=>⟨o,k b o (λz=>d (by simp[z])) e⟩) (λ_ _ e=>e) (λ_ _ _ e=>e) (λb ps e=>⟨#[],by rw[e];simp⟩) (λm w=>?_) (λb u e=>?_) I.bare
 · have e:b=it:=by simpa using y
   subst e;exact⟨H,i,E,A⟩
 ·obtain⟨o,N,ep,j,r⟩:=w;exact⟨o,N,ep,k _ o (UK i) j,r⟩
 · refine(I.hok b u e).stay (λc v d q=>k c v ?_ q) (λ_ q=>q) λ_ _ q=>q;rcases d with z|z;·rw[z];exact h b u e
   ·exact h c _ z
theorem Í.tok(I:Í a ζ Å g f)(t:Nat):Í a ζ Å g {f with toks:=t}:=I.un (h':=f.heap) (t':=t) Un.refl I.hok
theorem Í.kept{h':N_}{t':Nat}(I:Í a ζ Å g f)(k:∀b u,f.heap.get? b=Z u->h'.get? b=Z u):Í a ζ Å g {f with heap:=h',toks:=t'}:=I.un (Un.kept k) (I.hok.kept k)
theorem Í.laid{X:C}{g:List (O×Obj)}{f:List (Option V)}{H:Hp}{s:ge}{h':N_}{a:O}{o:HO}{t':Nat}(I:Í X g f H s)(k:∀b u,s.heap.get? b=Z u->h'.get? b=Z u)(d:s.heap.objs.size<=a)(e:ã X.prog X.w (ß H a o) h' a o):Í X g f (ß H a o) {s with heap:=h',toks:=t'}:=I.un (Un.laid k d (I.hok.fresh d)) (I.hok.laid k d e)
theorem Í.write{h':N_}{x e:O}{o:HO}{t':Nat}(I:Í a ζ Å g f)(i:Mut (g x))(j:e=x\/g e=Z (.own x))(k:∀b u,b≠e->f.heap.get? b=Z u->h'.get? b=Z u)(d:∃u,h'.get? e=Z u)(h:ã a.prog a.w (ß g x o) h' x o):Í a ζ Å (ß g x o) {f with heap:=h',toks:=t'}:=I.un (Un.write i j k d) (I.hok.write i j k d h)
theorem Í.pins_of{pins':List (O×Obj)}(I:Í a ζ Å g f)(h:∀p∈pins',f.heap.get? p.1=Z p.2/\g p.1=U/\p.1≠a.env.locals/\p.1∉a.fs/\∀v,p.2.data≠.cell v):Í a pins' Å g f:=⟨I.ok,I.os,I.bare,I.base,I.loc,I.cell,I.free,I.freeC,λp b=>(R_.mp b).elim (λz=>I.pin p (K_ _ z)) (h p),I.hok,I.len⟩
variable{y:List Str}
theorem vg(d:y.Nodup){i j:Nat}{x:Str}(a:y[i]?=Z x)(b:y[j]?=Z x):i=j:=by obtain⟨h,f⟩:=H_.mp a;obtain⟨g,e⟩:=H_.mp b;exact(abY d).mp (f.trans e.symm)
variable{Æ:Xq}{I:D_}{τ:B->ge->Prop}{d:Str}{ψ:V}{Β:B}
theorem yc{Q:Unit->ge->Prop}(i:Í a ζ Å g f)(hN:a.N.Nodup)(hi:a.N[b]?=Z d)(N:ł a.env.scope d)(r:Ú ψ Β)(h:∀s',Í a ζ (Å.set b (Z ψ)) g s'->(∃u,Wm u f.heap s'.heap/\(u=a.env.locals\/a.env.cells.lookup d=Z u))->Q () s')(hf:a.fn d=L\/a.env.scope.names.lookup d=Z .local:=by first|exact .inl rfl|exact .inr rfl|assumption):v_ Æ I (storeName a.env d Β) Q τ f:=by
 obtain⟨m,hn,hl⟩:=id i.loc;have l':(a.env.scope.kind==.class||(a.env.scope.kind==.module&&a.env.locals !=a.env.globals))=D:=by rw[i.ok.kind];rfl
 have b':b<Å.length:=by rw[i.len];exact(H_.mp hi).1
 have cne:=i.cne;have E:∀{u:O}{h':N_},(∃o,f.heap.get? u=Z o/\g u=U)->Wm u f.heap h'->ĉ a.prog a.w g h':=λ{u h'}ha w s ob e=>by
  obtain⟨_,_,a'⟩:=ha;refine(i.hok s ob e).stay (λc w' H q=>(w.2 c ?_).trans q) (λ_ q=>q) λ_ _ q=>q;rintro rfl;rcases H with rfl|H;·rw[a']at e;cases e
  ·rw[a']at H;cases H
 rcases N with hk|hk
 · refine wpAny_storeName_local hk hn (λh' n' w=>?_) l';obtain⟨oL,_,_,m',_⟩:=id hn;refine h _ ⟨i.ok,i.os,i.bare,⟨λs o e n hb N=>?_,λs o e n hb N=>?_,i.base.free,λs o e N=>?_,i.base.tups,i.base.frzs,i.base.tbls⟩,⟨_,n',λj y v' A e2 e3=>?_⟩,λy c e=>?_,i.free,i.freeC,λp hp=>?_,E ⟨oL,m',i.free⟩ w,by simpa using i.len⟩ ⟨_,w,.inl rfl⟩;·exact(w.2 s (UI (Uz (z_ e) i.ok.above))).trans (i.base.keep s o e n hb N)
   ·obtain⟨sl,A⟩:=i.base.slot s o e n hb N;exact⟨sl,(w.2 s (UI (Uz (z_ e) i.ok.above))).trans A⟩
   ·obtain⟨o',A⟩:=i.base.there s o e N;exact⟨o',(w.2 s (UI (Uz (z_ e) i.ok.above))).trans A⟩
   · by_cases hj:j=b;·subst hj;rw[hi]at A;cases A;rw[A_ b']at e2;cases e2;exact⟨Β,r,.inl ⟨hk,by simp⟩⟩
     · rw[p_ (UK hj)]at e2;obtain⟨u',r',q⟩:=hl j y v' A e2 e3;refine⟨u',r',?_⟩;rcases q with⟨k,e⟩|⟨k,c,e,z⟩;·refine .inl ⟨k,?_⟩;have:y≠d:=λe=>hj (vg hN A (e▸hi));simp[this,e]
       ·exact .inr ⟨k,c,e,z.sameBut w (cne y c e)⟩
   ·obtain⟨w',z⟩:=i.cell y c e;exact⟨w',z.sameBut w (cne y c e)⟩
   ·obtain⟨e,n,ne,nf,v⟩:=i.pin p hp;exact⟨(w.2 p.1 ne).trans e,n,ne,nf,v⟩
 · have d':a.fn d=L:=by
    rcases hf with z|z;·exact z
    ·rw[z]at hk;cases hk
   obtain⟨c,H⟩:=i.ok.has d (.inl hk);obtain⟨w',z⟩:=i.cell d c H;refine wpAny_storeName_cell i.ok.kind hk H z (λh' i' w=>?_);obtain⟨oc,e',k'⟩:=id z;refine h {f with heap:=h'} ⟨i.ok,i.os,i.bare,⟨λs o e n hb N=>?_,λs o e n hb N=>?_,i.base.free,λs o e N=>?_,i.base.tups,i.base.frzs,i.base.tbls⟩,⟨m,hn.sameBut w (UK (cne d c H)),λj y v' A e2 e3=>?_⟩,λy c' e=>?_,i.free,i.freeC,λp hp=>?_,E ⟨oc,e',i.freeC d c H⟩ w,by simpa using i.len⟩ ⟨c,w,.inr H⟩;·exact(w.2 s (UI (Uz (z_ e) (i.ok.cab d c d' H)))).trans (i.base.keep s o e n hb N)
   ·obtain⟨sl,A⟩:=i.base.slot s o e n hb N;exact⟨sl,(w.2 s (UI (Uz (z_ e) (i.ok.cab d c d' H)))).trans A⟩
   ·obtain⟨o',A⟩:=i.base.there s o e N;exact⟨o',(w.2 s (UI (Uz (z_ e) (i.ok.cab d c d' H)))).trans A⟩
   · by_cases hj:j=b;·subst hj;rw[hi]at A;cases A;rw[A_ b']at e2;cases e2;exact⟨Β,r,.inr ⟨.inl hk,c,H,i'⟩⟩
     · rw[p_ (UK hj)]at e2;obtain⟨u',r',q⟩:=hl j y v' A e2 e3;refine⟨u',r',?_⟩;rcases q with q|⟨k,c',e,z'⟩;·exact .inl q
       ·refine .inr ⟨k,c',e,z'.sameBut w ?_⟩;rintro rfl;exact hj (vg hN A (i.ok.inj _ _ _ e H▸hi))
   · by_cases g':c'=c;·subst g';exact⟨_,i'⟩
     ·obtain⟨w2,z2⟩:=i.cell y c' e;exact⟨w2,z2.sameBut w g'⟩
   ·obtain⟨e,n,ne,nf,v⟩:=i.pin p hp;refine⟨(w.2 p.1 ?_).trans e,n,ne,nf,v⟩;intro q;rw[q,e']at e;have q':oc=p.2:=UL e;exact v w' (by rw[<-q'];exact k')
theorem vh{Q:Unit->ge->Prop}(e:Í a ζ Å g f)(n:a.N.Nodup)(k:a.N[b]?=Z d)(j:ł a.env.scope d)(r:Ú ψ Β)(h:∀i,Í a ζ (Å.set b (Z ψ)) g i->Q () i)(m:a.fn d=L\/a.env.scope.names.lookup d=Z .local:=by first|exact .inl rfl|exact .inr rfl|assumption):v_ Æ I (storeName a.env d Β) Q τ f:=yc e n k j r (λi o _=>h i o) m
theorem Í.call'{s':ge}{ch:List O}(I:Í a ζ Å g f)(k:s'.os=f.os)(u:Un (frs a.stack) ch g Α f.heap s'.heap)(d:ĉ a.prog a.w Α s'.heap)(m:Y_ s'.gens)(h:∀b∈ch,(b∈a.ex\/a.s₀.heap.objs.size<=b)/\b≠a.env.locals/\(∀x c,a.env.cells.lookup x=Z c->c≠b)/\∀p∈a.pn++ζ,p.1≠b):Í a ζ Å Α s':=by obtain⟨q,n,o,i,j⟩:=s';have e:j=f.os:=k;subst e;exact I.call (g':=n) (t':=i) (d':=o) u d m h
abbrev XK:=B->Option O->Hp->Prop
abbrev St:=List (Option V)
abbrev VK:=V->Hp->Prop
abbrev TE:=St->Hp->VK->Prop
abbrev TT:=St->Hp->(Bool->Hp->Prop)->Prop
abbrev TA:=St->Hp->(List V->Hp->Prop)->Prop
structure vi where
 nx:St->Hp->Prop
 rt:VK
 bk:St->Hp->Prop:=λ_ _=>False
 ct:St->Hp->Prop:=λ_ _=>False
abbrev TS:=vi->St->Hp->Prop
def EP(X:C)(e:List (O×Obj))(b:St)(Q:VK)(u:B)(d:ge):Prop:=∃v a,Í X e b a d/\Ú v u/\Q v a
def TP(X:C)(f:List (O×Obj))(d:St)(Q:Bool->Hp->Prop)(b:Bool)(e:ge):Prop:=∃a,Í X f d a e/\Q b a
def AP(X:C)(g:List (O×Obj))(d:St)(Q:List V->Hp->Prop)(e:List B)(f:ge):Prop:=∃a b,Í X g d b f/\Ï a e/\Q a b
def SP(X:C)(g:List (O×Obj))(a:vi)(f:Flow)(e:ge):Prop:=match f with|.next=>∃b d,Í X g b d e/\a.nx b d|.brk=>∃b d,Í X g b d e/\a.bk b d|.cont=>∃b d,Í X g b d e/\a.ct b d|.ret u=>∃v b d,Í X g b d e/\Ú v u/\a.rt v d
def PE(X:C)(e:r_)(t:TE):Prop:=∀(b:List (O×Obj))(s:ge)(a:St)(H:Hp)(Q:VK),Í X b a H s->t a H Q->v_ (E_ X.prog X.w) X.A (eval e X.env) (EP X b a Q) X.xe s
def PT(X:C)(e:r_)(t:TT):Prop:=∀(b:List (O×Obj))(s:ge)(a:St)(H:Hp)(Q:Bool->Hp->Prop),Í X b a H s->t a H Q->v_ (E_ X.prog X.w) X.A (isTrue e X.env (eval e X.env)) (TP X b a Q) X.xe s
def PW(X:C)(e:r_)(t:TT):Prop:=∀(Ă:Sem B)(b:List (O×Obj))(s:ge)(a:St)(H:Hp)(Q:Bool->Hp->Prop),Í X b a H s->t a H Q->v_ (E_ X.prog X.w) X.A (isTrue e X.env Ă) (TP X b a Q) X.xe s
def PA(X:C)(d:List r_)(t:TA):Prop:=∀(pos:Pos)(b:List (O×Obj))(s:ge)(a:St)(H:Hp)(Q:List V->Hp->Prop),Í X b a H s->t a H Q->v_ (E_ X.prog X.w) X.A (spliced (UH pos (k_ d X.env))) (AP X b a Q) X.xe s
def PS(X:C)(e:U8)(t:TS):Prop:=∀(d:List (O×Obj))(s:ge)(b:St)(H:Hp)(a:vi),Í X d b H s->t a b H->v_ (E_ X.prog X.w) X.A (exec e X.env) (SP X d a) X.xe s
def Ľ(X:C)(e:List U8)(t:TS):Prop:=∀(d:List (O×Obj))(s:ge)(b:St)(H:Hp)(a:vi),Í X d b H s->t a b H->v_ (E_ X.prog X.w) X.A (execs e X.env) (SP X d a) X.xe s
theorem å{t:Sem δ}{Q b:δ->ge->Prop}(h:v_ Æ I t Q τ f)(d:∀a f,Q a f->b a f):v_ Æ I t b τ f:=U5 h d λ_ _ x=>x
noncomputable def yd(i:Nat):TE:=λa H Q=>∃v,a[i]?=Z (Z v)/\Q v H
noncomputable def tC(v:V):TE:=λ_ H Q=>Q v H
variable{m:Pos}
theorem ye(A:a.N[b]?=Z d)(q:Vis a.env.scope d)(k:(d==("__debug__":Str))=D:=by decide)(n:(d==("__classdict__":Str))=D:=by decide):PE a (.Name d m) (yd b):=by
 intro E s p H Q I h;obtain⟨v,e,h⟩:=h;obtain⟨f,w,z⟩:=I.loc;obtain⟨u,r,l⟩:=z b d v A e q;have j:EP a E p Q u s:=⟨v,H,I,r,h⟩;rcases l with⟨i,y⟩|⟨i,c,o,g⟩;·exact wpAny_Name (wpAny_loadName_local I.ok.kind i w y j) k
 · rcases i with i|i;·exact wpAny_Name (wpAny_loadName_cell I.ok.kind i o g j) k
   ·exact wpAny_Name (wpAny_loadName_free I.ok.kind i o g j n) k
theorem Kw{i j b}:PE a (.Constant (.int i) j b) (tC (.int i)):=λ_ _ _ H _ I h=>wpAny_Constant_int ⟨.int i,H,I.tok _,⟨_,rfl⟩,h⟩
theorem Ps{b j d}:PE a (.Constant (.bool b) j d) (tC (.bl b)):=λ_ _ _ H _ I h=>Constant_bool ⟨.bl b,H,I,rfl,h⟩
theorem Kx{j b}:PE a (.Constant .none j b) (tC .non):=λ_ _ _ H _ I h=>Constant_none ⟨.non,H,I,rfl,h⟩
theorem Ky{x j b}:PE a (.Constant (.str x) j b) (tC (.str x)):=λ_ _ _ H _ I h=>Calls.Constant_str ⟨.str x,H,I.tok _,⟨_,rfl⟩,h⟩
def Gl(X:C)(x:Str):Prop:=X.env.kindOf x=Z .globalImplicit
variable{Χ:St}{Ç:B->ge->Prop}
theorem lf(I:Í a ζ Χ g f)(e:Gl a d)(b:a.mg d=Z Β)(h:Ç Β f)(i:(d==("__debug__":Str))=D:=by decide):v_ (E_ a.prog a.w) a.A (eval (.Name d m) a.env) Ç τ f:=Zn I.ok.kind e (Calls.loadGlobal_global (by rw[I.ok.glob];exact I.mod.glob.keeps I.bk) b h) i
theorem jL(I:Í a ζ Χ g f)(j:Gl a d)(i:a.mg d=U)(b:VN d=Z Β)(h:Ç Β f)(e:d≠"__name__":=by decide)(k:(d==("__debug__":Str))=D:=by decide):v_ (E_ a.prog a.w) a.A (eval (.Name d m) a.env) Ç τ f:=by obtain⟨p,o,n⟩:=I.mod.blt;exact Zn I.ok.kind j (Calls.loadGlobal_builtin (by rw[I.ok.glob];exact I.mod.glob.keeps I.bk) i (by rw[I.ok.blt];exact o.keeps I.bk) ((n d e).trans b) h) k
theorem yf(e:Gl a d)(b:a.mg d=Z Β)(r:Ú ψ Β)(f:(d==("__debug__":Str))=D:=by decide):PE a (.Name d m) (tC ψ):=λ_ _ _ H _ I h=>lf I e b ⟨ψ,H,I,r,h⟩ f
theorem Gm(g:Gl a d)(f:a.mg d=U)(b:VN d=Z Β)(r:Ú ψ Β)(e:d≠"__name__":=by decide)(i:(d==("__debug__":Str))=D:=by decide):PE a (.Name d m) (tC ψ):=λ_ _ _ H _ I h=>jL I g f b ⟨ψ,H,I,r,h⟩ e i
noncomputable def tB(t:TE):TT:=λa H Q=>t a H λx b=>∃c,x=.bl c/\Q c b
variable{h:r_}{Ω:TE}
theorem Kz(b:PE a h Ω)(j:∀Ă,isTrue h a.env Ă=(do let v<-Ă;aaS h.pos;XA [v] (truthy v)):=by intro _;rfl):PT a h (tB Ω):=by intro k s e H Q I i;refine isTrue_plain (å (b k s e H _ I i) λv o⟨x,n,m,f,g⟩=>?_) (j _);obtain⟨d,rfl,q⟩:=g;cases f;exact VX ⟨n,m,q⟩
noncomputable def SW(t u:TT):TT:=λa H Q=>t a H λc b=>if c=L then u a b Q else Q D b
noncomputable def tOr(t u:TT):TT:=λa H Q=>t a H λc b=>if c=L then Q L b else u a b Q
noncomputable def SX(t:TT):TT:=λa H Q=>t a H λc b=>Q (!c) b
theorem Go{d:TT}(g:PT a h d):PW a (.BoolOp .And [h] m) d:=by intro j i s f H Q I b;refine isTrue_and (å (g i s f H Q I b) λc k e=>?_);cases c with|true=>exact isTrue_and_nil e|false=>exact e
theorem Ey{d:TT}(g:PT a h d):PW a (.BoolOp .Or [h] m) d:=by intro j i s f H Q I b;refine isTrue_or (å (g i s f H Q I b) λc k e=>?_);cases c with|false=>exact isTrue_or_nil e|true=>exact e
variable{w:r_}{v:List r_}
theorem KB{f d:TT}(q:PT a h f)(p:PW a (.BoolOp .And (w::v) m) d):PW a (.BoolOp .And (h::w::v) m) (SW f d):=by intro n i s e H Q I b;refine isTrue_and (å (q i s e H _ I b) λc o⟨k,j,g⟩=>?_);cases c with|true=>exact p n i o e k Q j g|false=>exact⟨k,j,g⟩
theorem KC{f d:TT}(q:PT a h f)(p:PW a (.BoolOp .Or (w::v) m) d):PW a (.BoolOp .Or (h::w::v) m) (tOr f d):=by intro n i s e H Q I b;refine isTrue_or (å (q i s e H _ I b) λc o⟨k,j,g⟩=>?_);cases c with|true=>exact⟨k,j,g⟩|false=>exact p n i o e k Q j g
theorem KF{d:TT}(f:PT a h d):PT a (.UnaryOp .Not h m) (SX d):=by intro g s e H Q I b;exact isTrue_not (f g s e H (λc i=>Q (!c) i) I b)
noncomputable def Pu(e d:TE):TE:=λa H Q=>e a H λx b=>∃c,x=.bl c/\if c=L then d a b Q else Q (.bl D) b
noncomputable def SY(e d:TE):TE:=λa H Q=>e a H λx b=>∃c,x=.bl c/\if c=L then Q (.bl L) b else d a b Q
noncomputable def Pv(b:TE):TE:=λa H Q=>b a H λx d=>∃c,x=.bl c/\Q (.bl (!c)) d
theorem KG{e}(b:PE a h Ω):PE a (.BoolOp e [h] m) Ω:=λg s d H Q I f=>BoolOp_one (b g s d H Q I f)
theorem KH{g:TE}(q:PE a h Ω)(p:PE a (.BoolOp .And (w::v) m) g):PE a (.BoolOp .And (h::w::v) m) (Pu Ω g):=by intro i s f H Q I b;refine BoolOp_and (å (q i s f H _ I b) λd n⟨x,k,j,o,e⟩=>?_);obtain⟨c,rfl,e⟩:=e;cases o;refine VX ?_;cases c with|true=>exact p i n f k Q j e|false=>exact⟨.bl D,k,j,rfl,e⟩
theorem Pw{g:TE}(q:PE a h Ω)(p:PE a (.BoolOp .Or (w::v) m) g):PE a (.BoolOp .Or (h::w::v) m) (SY Ω g):=by intro i s f H Q I b;refine BoolOp_or (å (q i s f H _ I b) λd n⟨x,k,j,o,e⟩=>?_);obtain⟨c,rfl,e⟩:=e;cases o;refine VX ?_;cases c with|false=>exact p i n f k Q j e|true=>exact⟨.bl L,k,j,rfl,e⟩
theorem KI(g:PE a h Ω):PE a (.UnaryOp .Not h m) (Pv Ω):=by intro i s e H Q I b;refine UnaryOp_ (å (g i s e H _ I b) λv n⟨x,k,j,f,d⟩=>?_);obtain⟨c,rfl,d⟩:=d;cases f;exact not_of (VX ⟨.bl (!c),k,j,rfl,d⟩)
noncomputable def tIf(t:TT)(e d:TE):TE:=λa H Q=>t a H λc b=>if c=L then e a b Q else d a b Q
theorem BM{g:TE}{i:TT}{c:r_}(p:PT a c i)(r:PE a h Ω)(q:PE a w g):PE a (.IfExp c h w m) (tIf i Ω g):=by intro f s e H Q I b;refine wpAny_IfExp (å (p f s e H _ I b) λd j⟨o,n,k⟩=>?_);cases d with|true=>exact r f j e o Q n k|false=>exact q f j e o Q n k
def ā(K:d_)(H:Hp)(a:O)(d:List V):Prop:=Rd H a (.lst d)\/∃(o:Obj)(b:Array B)(n:Nat),K.lookup a=Z o/\o.cls=.type "list"/\o.dict=U/\o.data=.seq b n/\b.size<=sizeLine/\Ï d b.toList
def ô(K:d_)(H:Hp)(a:O)(d:List V):Prop:=Rd H a (.tup d)\/∃(o:Obj)(b:Array B)(n:Nat),K.lookup a=Z o/\o.cls=.type "tuple"/\o.data=.seq b n/\b.size<=sizeLine/\Ï d b.toList
noncomputable def SZ:B->Option V|.none=>Z .non|.bool b=>Z (.bl b)|.int i _=>Z (.int i)|.str x _=>Z (.str x)|.bytes b _=>Z (.byt b)|.float b _=>Z (.flt b)|.ref a=>Z (.ref a)|.type n=>Z (.ty n)|_=>U
theorem Ú.abs(r:Ú ψ Β):SZ Β=Z ψ:=by cases ψ with|non=>cases r;rfl|bl _=>cases r;rfl|int _=>obtain⟨t,rfl⟩:=r;rfl|str _=>obtain⟨t,rfl⟩:=r;rfl|byt _=>obtain⟨t,rfl⟩:=r;rfl|flt _=>obtain⟨t,rfl⟩:=r;rfl|ref _=>cases r;rfl|ty _=>cases r;rfl
theorem Ú.inj{y:V}(r:Ú ψ Β)(q:Ú y Β):ψ=y:=UL (r.abs.symm.trans q.abs)
theorem Ï.inj:∀{b a:List V}{d:List B},Ï b d->Ï a d->b=a|_,_,_,.nil,.nil=>rfl|_,_,_,.cons r t,.cons f e=>by rw[r.inj f,Ï.inj t e]
variable{s:d_}
theorem ā.of(h:g e=Z (.lst ι)):ā s g e ι:=.inl (.inl h)
theorem ô.of(h:g e=Z (.tup ι)):ô s g e ι:=.inl (.inl h)
theorem Í.list(I:Í a ζ Χ g f)(h:ā a.K g e ι):∃d:List B,Ï ι d/\PlainL f.heap e d.toArray/\ι.length<=sizeLine:=by
 rcases h with h|⟨o,d,n,j,m,k,i,p,r⟩;·obtain⟨z,d,n,r,b⟩:=h.ok I.hok;exact⟨d,r,⟨_,n,b,rfl,rfl,rfl⟩,z⟩
 ·refine⟨d.toList,r,⟨o,n,I.kIn e o j,m,k,by simpa using i⟩,?_⟩;have b:=r.length;simp only[Ve]at b;omega
theorem Í.tuple(I:Í a ζ Χ g f)(h:ô a.K g e ι):∃d:List B,Ï ι d/\acx f.heap e d.toArray/\ι.length<=sizeLine:=by
 rcases h with h|⟨o,d,n,j,k,i,m,r⟩;·obtain⟨z,d,r,p⟩:=h.ok I.hok;exact⟨d,r,p,z⟩
 ·refine⟨d.toList,r,⟨o,I.kIn e o j,k,n,by simpa using i⟩,?_⟩;have b:=r.length;simp only[Ve]at b;omega
theorem Í.list_inj{k:List V}(I:Í a ζ Χ g f)(h:ā a.K g e ι)(s:ā a.K g e k):ι=k:=by
 obtain⟨j,r,⟨o,n,b,_,_,d⟩,_⟩:=I.list h;obtain⟨i,q,⟨v,w,m,_,_,p⟩,_⟩:=I.list s;rw[b]at m;cases m;rw[d]at p;injection p with u _;have:j=i:=by simpa using congrArg Array.toList u
 subst this;exact r.inj q
theorem Í.tuple_inj{k:List V}(I:Í a ζ Χ g f)(h:ô a.K g e ι)(s:ô a.K g e k):ι=k:=by
 obtain⟨j,r,⟨o,b,_,n,d⟩,_⟩:=I.tuple h;obtain⟨i,q,⟨v,m,_,w,p⟩,_⟩:=I.tuple s;rw[b]at m;cases m;rw[d]at p;injection p with u _;have:j=i:=by simpa using congrArg Array.toList u
 subst this;exact r.inj q
abbrev C.wish(X:C)(E:B->ge->Prop):C:={X with xe:=E}
abbrev C.nox(X:C):C:=X.wish λ_ _=>False
theorem C.Ok.wish(b:a.Ok)(E:B->ge->Prop):(a.wish E).Ok:=⟨b.mod,b.kind,b.glob,b.blt,b.above,b.inj,b.has,b.cab,b.hd,b.frames,b.stk,b.exf,b.bs,b.bsz,b.noex,b.exfs,b.funs,b.frf⟩
theorem C.Ok.unwish(b:(a.wish τ).Ok):a.Ok:=⟨b.mod,b.kind,b.glob,b.blt,b.above,b.inj,b.has,b.cab,b.hd,b.frames,b.stk,b.exf,b.bs,b.bsz,b.noex,b.exfs,b.funs,b.frf⟩
theorem Í.wish(I:Í a ζ Χ g f)(E:B->ge->Prop):Í (a.wish E) ζ Χ g f:=⟨I.ok.wish E,I.os,I.bare,I.base,I.loc,I.cell,I.free,I.freeC,I.pin,I.hok,I.len⟩
theorem Í.unwish(I:Í (a.wish τ) ζ Χ g f):Í a ζ Χ g f:=⟨I.ok.unwish,I.os,I.bare,I.base,I.loc,I.cell,I.free,I.freeC,I.pin,I.hok,I.len⟩
theorem SP.unwish{d:vi}{b:Flow}(h:SP (a.wish τ) ζ d b f):SP a ζ d b f:=by cases b with|next=>obtain⟨e,g,I,q⟩:=h;exact⟨e,g,I.unwish,q⟩|brk=>obtain⟨e,g,I,q⟩:=h;exact⟨e,g,I.unwish,q⟩|cont=>obtain⟨e,g,I,q⟩:=h;exact⟨e,g,I.unwish,q⟩|ret u=>obtain⟨v,e,g,I,r,q⟩:=h;exact⟨v,e,g,I.unwish,r,q⟩
variable{À:List U8}
theorem Ľ.nox{t:TS}(h:Ľ a.nox À t):Ľ a À t:=λf s d H b I e=>U5 (h f s d H b (I.wish _) e) (λ_ _ q=>q.unwish) λ_ _ z=>U4 z
noncomputable def Px:TS:=λa b H=>a.nx b H
noncomputable def Ta(t u:TS):TS:=λa b H=>t {a with nx:=u a} b H
theorem tY:Ľ a [] Px:=λ_ _ b H _ I h=>aak ⟨b,H,I,h⟩
variable{Ε:U8}
theorem gM{t u:TS}(k:PS a Ε t)(j:Ľ a À u):Ľ a (Ε::À) (Ta t u):=by intro e s g H b I h;refine wpAny_execs_cons (å (k e s g H {b with nx:=u b} I h) λf i q=>?_);cases f with|next=>obtain⟨d,n,m,q⟩:=q;exact j e i d n b m q|ret v=>exact q|brk=>exact q|cont=>exact q
theorem pv{t:TS}(e:PS a Ε t):Ľ a [Ε] t:=by intro g s d H b I h;refine wpAny_execs_cons (å (e g s d H b I h) λf i q=>?_);cases f with|next=>exact aak q|ret v=>exact q|brk=>exact q|cont=>exact q
theorem Í.quiet(I:Í a ζ Χ g f):interactive a.env=D:=by simp[interactive,I.ok.kind]
noncomputable def Py(d:TE):TS:=λa b H=>d b H λ_ e=>a.nx b e
theorem tZ(i:PE a h Ω)(g:Vb h U m.line a.env=pure D:=by rfl):PS a (.Expr h m) (Py Ω):=by intro j s e H d I b;exact wpAny_Expr_any (å (i j s e H _ I b) λv o⟨x,n,k,p,f⟩=>⟨e,n,k,f⟩) I.quiet g
noncomputable def Tc(d:TE):TS:=λa b H=>d b H a.rt
theorem yg(i:PE a h Ω):PS a (.Return (Z h) m) (Tc Ω):=by intro j s e H d I b;exact wpAny_Return_some (å (i j s e H _ I b) λv o⟨x,n,k,f,g⟩=>⟨x,e,n,k,f,g⟩)
noncomputable def Td(c:TT)(t u:TS):TS:=λa d H=>c d H λb e=>if b=L then t a d e else u a d e
theorem BN{t u:TS}{b:List U8}{j:TT}(q:PT a h j)(v:Ľ a À t)(r:Ľ a b u):PS a (.If h À b m) (Td j t u):=by intro i s g H e I f;refine wpAny_If (å (q i s g H _ I f) λd k⟨p,o,n⟩=>?_);cases d with|true=>exact v i k g p e o n|false=>exact r i k g p e o n
abbrev TG:=V->St->Hp->(St->Hp->Prop)->Prop
abbrev ų:=List V->St->Hp->(St->Hp->Prop)->Prop
def PG(X:C)(a:r_)(t:TG):Prop:=∀(e:List (O×Obj))(s:ge)(d:St)(H:Hp)(v:V)(u:B)(Q:St->Hp->Prop),Í X e d H s->Ú v u->t v d H Q->v_ (E_ X.prog X.w) X.A (W7 a X.env u) (λ_ g=>∃b f,Í X e b f g/\Q b f) X.xe s
def ŝ(X:C)(h:List r_)(t:ų):Prop:=∀(f:List (O×Obj))(s:ge)(b:St)(H:Hp)(d:List V)(e:List B)(Q:St->Hp->Prop),Í X f b H s->Ï d e->t d b H Q->v_ (E_ X.prog X.w) X.A (assignInOrder ((UJ h X.env).map (·.2)) e) (λ_ i=>∃a g,Í X f a g i/\Q a g) X.xe s
abbrev Pz:=V->V->V->Hp->(Hp->Prop)->Prop
def Sa(X:C)(t:Pz):Prop:=∀(e:List (O×Obj))(s:ge)(a:St)(H:Hp)(o i v:V)(b d u:B)(Q:Hp->Prop),Í X e a H s->Ú o b->Ú i d->Ú v u->t o i v H Q->v_ (E_ X.prog X.w) X.A (setItem b d u) (λ_ g=>∃f,Í X e a f g/\Q f) X.xe s
noncomputable def wL(i:Nat):TG:=λv a H Q=>Q (a.set i (Z v)) H
theorem iD(i:a.N.Nodup)(f:a.N[b]?=Z d)(e:ł a.env.scope d)(g:a.fn d=L\/a.env.scope.names.lookup d=Z .local:=by first|exact .inl rfl|exact .inr rfl|assumption):PG a (.Name d m) (wL b):=by intro o s k H v u Q I r h;exact wpAny_assign_Name (vh I i f e r (λn j=>⟨_,H,j,h⟩) g)
noncomputable def Te:ų:=λb a H Q=>b=[]/\Q a H
noncomputable def PB(t:TG)(u:ų):ų:=λd b H Q=>∃v r,d=v::r/\t v b H λa e=>u r a e Q
theorem yh:ŝ a [] Te:=by intro g s b H d f Q I r h;obtain⟨e,h⟩:=h;subst e;cases r;exact assignInOrder_nil ⟨b,H,I,h⟩
theorem pB{t:TG}{u:ų}(o:PG a h t)(n:ŝ a v u)(m:(UJ (h::v) a.env).map (·.2)=W7 h a.env::(UJ v a.env).map (·.2):=by rfl):ŝ a (h::v) (PB t u):=by intro f s g H y A Q I r b;obtain⟨d,z,p,b⟩:=b;subst p;cases r with|cons r j=>rw[m];refine assignInOrder_cons (å (o f s g H _ _ _ I r b) λ_ i⟨e,w,q,k⟩=>?_);exact n f i e w _ _ Q q j k
noncomputable def Tf(K:d_)(n:Nat)(t:ų):TG:=λv d H Q=>∃a b,v=.ref a/\ô K H a b/\b.length=n/\t b d H Q
variable{k:Nat}
theorem Ez{t:ų}(hc:a.calm=L)(h:ŝ a v t)(E:(UJ v a.env).length=k:=by rfl)(j:(UJ v a.env).findIdx? (·.1)=U:=by rfl):PG a (.Tuple v b m) (Tf a.K k t):=by intro q s n H f u Q I r i;obtain⟨g,w,e1,A,N,i⟩:=i;subst e1;cases r;obtain⟨a',p,z,hz⟩:=I.tuple A;refine assign_Tuple_tuple (I.ok.hd hc) z (by simp[E,<-N,p.length]) j λh' y=>?_;have I1:Í a q n H {s with heap:=h'}:=I.kept (t':=s.toks) λd o e=>y d o (UI (z_ e)) e;exact h q _ n H w _ Q I1 (by simpa using p) i
noncomputable def Tg(b d:TE)(t:Pz):TG:=λv a H Q=>b a H λo g=>d a g λi f=>t o i v f λe=>Q a e
theorem KL{i:TE}{t:Pz}(E:PE a h Ω)(N:PE a w i)(A:Sa a t)(ha:∀v,W7 (.Subscript h w m) a.env v=(do
 let d<-XA [v] (eval h a.env)let e<-XA [v,d] (eval w a.env)aaS m
 XA [v,d,e] (setItem d e v)release [v,d,e] []):=by intro _;rfl):PG a (.Subscript h w m) (Tg Ω i t):=by intro g s f H v u Q I r b;rw[ha];refine e_ (Vm (å (E g s f H _ I b) λd k⟨x,H1,I1,o,z⟩=>?_));refine e_ (Vm (å (N g k f H1 _ I1 z) λe j⟨y,H2,I2,n,q⟩=>?_));refine e_ (aa4 (e_ (Vm (å (A g j f H2 x y v d e u _ I2 o n r q) λ_ s3⟨H3,I3,p⟩=>?_))));exact wpAny_release ⟨f,H3,I3,p⟩
noncomputable def Sb(d:TE)(g:TG):TS:=λa b H=>d b H λx e=>g x b e a.nx
theorem EA{g:TG}(r:PE a w Ω)(p:PG a h g)(o:aa6 [h] w m.line a.env=pure D:=by rfl)(n:aa7 [h] w a.env=pure U:=by rfl)(u:(UJ [h] a.env).map (·.2)=[W7 h a.env]:=by rfl):PS a (.Assign [h] w m) (Sb Ω g):=by intro f s e H d I b;refine wpAny_Assign_stores (å (r f s e H _ I b) λv i⟨x,z,y,j,k⟩=>?_) o n;rw[u];exact å (p f i e z x v _ y j k) λ_ A q=>q
variable{u:Pos}
theorem oq(r:a.N.Nodup)(o:a.N[b]?=Z d)(k:ł a.env.scope d)(q:PE a h Ω)(n:Vb h (Z (.Name d u)) m.line a.env=pure D:=by rfl)(p:a.fn d=L\/a.env.scope.names.lookup d=Z .local:=by first|exact .inl rfl|exact .inr rfl|assumption):PS a (.Assign [.Name d u] h m) (Sb Ω (wL b)):=by intro w s g H f I e;refine wpAny_Assign_Name (å (q w s g H _ I e) λv s1⟨y,E,A,i,j⟩=>?_) n;exact vh A r o k i (λN z=>⟨_,E,z,j⟩) p
structure It where
 go:Nat->Hp->Prop
 yld:Nat->Hp->V->Hp->Prop
 stop:Nat->Hp->Prop
def ua(X:C)(a:List (O×Obj))(H:Hp)(b:O):Prop:=H b=U/\b≠X.env.locals/\b∉X.fs/\(b∈X.ex\/X.s₀.heap.objs.size<=b)/\(∀x c,X.env.cells.lookup x=Z c->c≠b)/\∀p∈X.pn++a,p.1≠b
theorem Í.fpOk(I:Í a ζ Χ g f)(d:f.heap.objs.size<=e)(i:Α e=U):ua a ζ Α e:=by
 refine⟨i,XG (Uz I.lt d),I.nofs d,.inr (UD I.sz d),λx c b z=>?_,λp h z=>?_⟩;·obtain⟨v,q⟩:=I.cell x c b;exact absurd (Uz q.lt (by rw[z];exact d)) (VM _)
 ·exact absurd (Uz (z_ (I.pin p h).1) (by rw[z];exact d)) (VM _)
structure BE(P:n_)(w:xy)(K:d_)(tg:r_)(J:It)(fp:List O)(it:O)(tn:Nat->N_->Prop):Prop where
 mem:it∈fp
 obj:∀i h,tn i h->∀b∈fp,∃o,h.get? b=Z o/\∀v,o.data≠.cell v
 keep:∀i h h',tn i h->(∀b∈fp,∀o,h.get? b=Z o->h'.get? b=Z o)->tn i h'
 item:∀(X:C),X.prog=P->X.w=w->X.K=K->X.calm=L->∀(i:Nat)(f':List (O×Obj))(s:ge)(σ:St)(H:Hp)(E:B->ge->Prop),Í X f' σ H s->(∀b∈fp,ua X f' H b)->tn i s.heap->J.go i H->v_ (E_ P w) X.A (Yg (.ref it)) (λr s1=>∃u,r=Z u/\v_ (E_ P w) X.A (YU tg (.ref it) u) (λ_ s2=>∃x H',Í X f' σ H' s2/\Ú x u/\J.yld i H x H'/\tn (i+1) s2.heap/\∀b∈fp,H' b=U) E s1) E s
 done:∀(X:C),X.prog=P->X.w=w->X.K=K->X.calm=L->∀(i:Nat)(f':List (O×Obj))(s:ge)(σ:St)(H:Hp)(E:B->ge->Prop),Í X f' σ H s->(∀b∈fp,ua X f' H b)->tn i s.heap->J.stop i H->v_ (E_ P w) X.A (Yg (.ref it)) (λr s1=>r=U/\Í X f' σ H s1) E s
 self:∀(A:D_)(i:Nat)(s:ge)(Q:B->ge->Prop)(E:B->ge->Prop),tn i s.heap->Q (.ref it) s->v_ (E_ P w) A (pyIter (.ref it)) Q E s
abbrev TI:=St->Hp->(It->Hp->Prop)->Prop
def PIE(X:C)(h:List (O×Obj))(i:St)(j:r_)(R:It->Hp->Prop)(d:B)(f:ge):Prop:=∃(it:O)(g:List O)(e:Nat->N_->Prop)(J:It)(a:Hp),d=.ref it/\Í X h i a f/\BE X.prog X.w X.K j J g it e/\e 0 f.heap/\(∀b∈g,ua X h a b)/\R J a
def PI(X:C)(f a:r_)(e:TI):Prop:=∀(d:List (O×Obj))(s:ge)(b:St)(H:Hp)(R:It->Hp->Prop),Í X d b H s->e b H R->v_ (E_ X.prog X.w) X.A (eval a X.env) (λv g=>v_ (E_ X.prog X.w) X.A (pyIter v) (PIE X d b f R) X.xe g) X.xe s
theorem BO{o:Obj}{n:String}{d:Array B}{Q:Unit->ge->Prop}(g:f.heap.get? e=Z o)(k:o.cls=.type n)(j:o.data=.fields d)(i:["enumerate","zip","dict_itemiterator","dict_reverseitemiterator","odict_iterator","itertools.zip_longest","itertools.pairwise"].contains n=D)(b:Q () f):v_ Æ I (YU h (.ref e) Β) Q τ f:=by unfold YU;cases h<;>first|exact j_ b|(cases Β<;>first|exact j_ b|(refine e_ (wpAny_load g ?_);rw[k,j];show v_ Æ I (if(["enumerate","zip","dict_itemiterator","dict_reverseitemiterator","odict_iterator","itertools.zip_longest","itertools.pairwise"].contains n&&d[0]?==Z (Ze _))=L then _ else _) Q τ f;rw[if_neg (by intro a;rw[i,Bool.false_and]at a;cases a)];exact j_ b))
noncomputable def Itl(K:d_)(a:O):It:=⟨λi H=>∃b x,ā K H a b/\b[i]?=Z x,λi H x d=>d=H/\∀b,ā K H a b->b[i]?=Z x,λi H=>∃b,ā K H a b/\b.length<=i⟩
noncomputable def Itt(K:d_)(a:O):It:=⟨λi H=>∃b x,ô K H a b/\b[i]?=Z x,λi H x d=>d=H/\∀b,ô K H a b->b[i]?=Z x,λi H=>∃b,ô K H a b/\b.length<=i⟩
noncomputable def Itr(a:Int)(n:Nat):It:=⟨λi _=>i<n,λi H x b=>b=H/\x=.int (a+i),λi _=>n<=i⟩
theorem yi(a j:O):BE r q s h (Itl s a) [j] j (λi g=>g.IsListIter j a i)where
 mem:=by simp
 obj:=λi g st b m=>by
  have e:b=j:=by simpa using m
  subst e;obtain⟨o,e,c,d⟩:=st;exact⟨o,e,λv z=>by rw[d]at z;cases z⟩
 keep:=λi g A st k=>st.at λo e=>k j (by simp) o e;item:=by intro X hP hw hK hc i f' f σ H E I y st hg;subst hP hw hK;obtain⟨xs,x,w,hx⟩:=hg;obtain⟨a',N,p,hz⟩:=I.list w;obtain⟨u,hu,ru⟩:=N.get hx;obtain⟨f0,f1,R,f3,f4,f5⟩:=y j (by simp);refine wpAny_pyNext_list_item st p.isList (x:=u) (by simpa using hu) λA n sb=>?_;have I1:Í X f' σ H {f with heap:=A}:=I.turned (t':=f.toks) (λb o m e=>(sb.2 b m).trans e) f0 f1 f3 f4 f5;obtain⟨o,e,c,d⟩:=id n;exact⟨u,rfl,BO (f:={f with heap:=A}) e c d (by decide) ⟨x,H,I1,ru,⟨rfl,λys hy=>by rw[I.list_inj hy w];exact hx⟩,n,λb m=>(y b m).1⟩⟩
 done:=by intro X hP hw hK hc i f' f σ H E I y st hg;subst hP hw hK;obtain⟨xs,w,hx⟩:=hg;obtain⟨a',N,p,hz⟩:=I.list w;obtain⟨f0,f1,R,f3,f4,f5⟩:=y j (by simp);have hl:=N.length;exact wpAny_pyNext_list_end (I.ok.hd hc) st p.isList (by simp;omega) λA eb=>⟨rfl,I.turned (t':=f.toks) (λb o m e=>eb b o m e) f0 f1 f3 f4 f5⟩
 self:=λ_ _ _ _ _ st g=>wpAny_pyIter_listiter st g
theorem ot(a j:O):BE r q s h (Itt s a) [j] j (λi g=>g.IsTupleIter j a i)where
 mem:=by simp
 obj:=λi g st b m=>by
  have e:b=j:=by simpa using m
  subst e;obtain⟨o,e,c,d⟩:=st;exact⟨o,e,λv z=>by rw[d]at z;cases z⟩
 keep:=λi g N st k=>st.at λo e=>k j (by simp) o e;item:=by intro X hP hw hK hc i f' f σ H E I A st hg;subst hP hw hK;obtain⟨xs,x,y,hx⟩:=hg;obtain⟨n,rv,p,hz⟩:=I.tuple y;obtain⟨u,hu,ru⟩:=rv.get hx;obtain⟨f0,f1,R,f3,f4,f5⟩:=A j (by simp);refine wpAny_pyNext_tuple_item st (show f.heap.IsTuple a n.toArray from p) (x:=u) (by simpa using hu) λN w sb=>?_;have I1:Í X f' σ H {f with heap:=N}:=I.turned (t':=f.toks) (λb o m e=>(sb.2 b m).trans e) f0 f1 f3 f4 f5;obtain⟨o,e,c,d⟩:=id w;exact⟨u,rfl,BO (f:={f with heap:=N}) e c d (by decide) ⟨x,H,I1,ru,⟨rfl,λys hy=>by rw[I.tuple_inj hy y];exact hx⟩,w,λb m=>(A b m).1⟩⟩
 done:=by intro X hP hw hK hc i f' f σ H E I A st hg;subst hP hw hK;obtain⟨xs,y,hx⟩:=hg;obtain⟨n,rv,p,hz⟩:=I.tuple y;obtain⟨f0,f1,R,f3,f4,f5⟩:=A j (by simp);have hl:=rv.length;exact wpAny_pyNext_tuple_end (I.ok.hd hc) st (show f.heap.IsTuple a n.toArray from p) (by simp;omega) λN eb=>⟨rfl,I.turned (t':=f.toks) (λb o m e=>eb b o m e) f0 f1 f3 f4 f5⟩
 self:=λ_ _ _ _ _ st g=>wpAny_pyIter_tupleiter st g
theorem wM(f:O)(m:Int)(n:Nat):BE r q s h (Itr m n) [f] f (λi d=>IsRangeIter d f (m+(i:Nat)*1) ((n:Int)-(i:Nat)) 1)where
 mem:=by simp
 obj:=λi d st b g=>by
  have e:b=f:=by simpa using g
  subst e;exact⟨_,st,λv z=>by have z':VA _=Data.cell v:=z;cases z'⟩
 keep:=λi d u st k=>k f (by simp) _ st;item:=by intro X N w hK A i f' a σ H E I p st y;subst N w hK;obtain⟨f0,f1,R,f3,f4,f5⟩:=p f (by simp);have W:=Walks.range (prog:=X.prog) (w:=X.w) (I.ok.hd A) f m 1 n;refine W.item i a _ _ y st λv u tk hv j kk=>?_;obtain⟨t,rfl⟩:=hv;have I1:Í X f' σ H {a with heap:=u,toks:=tk}:=I.turned (λb o g e=>kk b o (by simpa using g) e) f0 f1 f3 f4 f5;refine⟨_,rfl,BO (f:={a with heap:=u,toks:=tk}) (n:="range_iterator") j rfl rfl (by decide) ⟨.int (m+i),H,I1,⟨t,?_⟩,⟨rfl,rfl⟩,j,λb g=>(p b g).1⟩⟩;rw[Int.mul_one]
 done:=by intro X N w hK A i f' a σ H E I p st y;subst N w hK;obtain⟨f0,f1,R,f3,f4,f5⟩:=p f (by simp);exact wpAny_pyNext_range_end (I.ok.hd A) st (by have:n<=i:=y;omega) λu eb=>⟨rfl,I.turned (t':=a.toks) (λb o g e=>eb b o g e) f0 f1 f3 f4 f5⟩
 self:=λ_ _ _ _ _ st d=>wpAny_pyIter_rangeiter st d
def Th(K:d_)(f:TE):TI:=λd H R=>f d H λx b=>∃a,x=.ref a/\(∃e,ô K b a e)/\R (Itt K a) b
theorem KM(u:PE a w Ω):PI a h w (Th a.K Ω):=by
 intro z s k H R I f;refine å (u z s k H _ I f) λv g⟨x,A,i,m,n⟩=>?_;obtain⟨d,e,⟨E,r⟩,q⟩:=n;subst e;cases m;obtain⟨j,N,p,hz⟩:=i.tuple r;refine XZ (show g.heap.IsTuple d j.toArray from p) ?_;refine⟨g.heap.objs.size,[g.heap.objs.size],_,_,A,rfl,i.kept (t':=g.toks) λb o e=>l_ _ e,ot d _,⟨_,w_ _ rfl,rfl,rfl⟩,λb y=>?_,q⟩;have e:b=g.heap.objs.size:=by simpa using y
 subst e;exact i.fpOk (on _) (i.hok.fresh (on _))
variable{n Á:Int}
theorem vj{R:It->Hp->Prop}{t u v:Tok}(I:Í a ζ Χ g f)(r:-(2^62)<=n)(p:n<2^62)(m:-(2^62)<=Á)(k:Á<2^62)(q:R (Itr n (Á-n).toNat) g):v_ (E_ a.prog a.w) a.A (pyIter (.ref f.heap.objs.size)) (PIE a ζ Χ h R) τ {f with heap:=f.heap.push {cls:=.type "range",data:=.fields #[.int n t,.int Á u,.int 1 v]},toks:=b}:=by
 refine wpAny_pyIter_range (IsRange.new ..) (small_one r p m k) ?_;have i:Í a ζ Χ g {f with heap:=f.heap.push {cls:=.type "range",data:=.fields #[.int n t,.int Á u,.int 1 v]},toks:=b}:=I.kept λd o e=>l_ _ e;refine⟨(f.heap.push {cls:=.type "range",data:=.fields #[.int n t,.int Á u,.int 1 v]}).objs.size,[(f.heap.push {cls:=.type "range",data:=.fields #[.int n t,.int Á u,.int 1 v]}).objs.size],_,_,g,rfl,i.kept (t':=b) λd o e=>l_ _ e,wM _ n (Á-n).toNat,?_,λd j=>?_,q⟩
 · have w:n+((0:Nat):Int)*1=n:=by simp
   have s:(((Á-n).toNat:Nat):Int)-((0:Nat):Int)=Builtin.Range.rangeSize n Á 1:=by rw[rangeSize_one];split<;>omega
   show IsRangeIter _ _ (n+((0:Nat):Int)*1) ((((Á-n).toNat:Nat):Int)-((0:Nat):Int)) 1;rw[w,s];exact w_ _ rfl
 · have e:d=(f.heap.push {cls:=.type "range",data:=.fields #[.int n t,.int Á u,.int 1 v]}).objs.size:=by simpa using j
   subst e;exact i.fpOk (on _) (i.hok.fresh (on _))
def PC(d:TA):TI:=λa H R=>d a H λb e=>∃j:Int,b=[.int j]/\-(2^62)<=j/\j<2^62/\R (Itr 0 j.toNat) e
def PD(d:TA):TI:=λa H R=>d a H λb e=>∃i j:Int,b=[.int i,.int j]/\(-(2^62)<=i/\i<2^62/\-(2^62)<=j/\j<2^62)/\R (Itr i (j-i).toNat) e
theorem rg{f:TA}(v:Gl a "range")(p:a.mg "range"=U)(y:PA a [w] f)(o:k_ [w] a.env=[(D,eval w a.env)]:=by rfl):PI a h (.Call (.Name "range" m) [w] [] u) (PC f):=by intro z s g H R I b;refine Call_ (jL I v p boot_range (Vz (å (y u z s g H _ I b) λN s1⟨E,H1,A,k,d⟩=>?_) o rfl));obtain⟨j,e,d,n,q⟩:=d;subst e;cases k with|cons r i=>cases i;obtain⟨t,rfl⟩:=r;exact call_range_1 (vj A (by omega) (by omega) d n (by simpa using q))
theorem yj{b:r_}{n:TA}(hg:Gl a "range")(N:a.mg "range"=U)(ha:PA a [w,b] n)(E:k_ [w,b] a.env=[(D,eval w a.env),(D,eval b a.env)]:=by rfl)(f:k_ [b] a.env=[(D,eval b a.env)]:=by rfl):PI a h (.Call (.Name "range" m) [w,b] [] u) (PD n):=by intro f' s o H R I d;refine Call_ (jL I hg N boot_range (Vz (å (ha u f' s o H _ I d) λus s1⟨vs,H1,I1,p,k⟩=>?_) (by rw[E,f]) (by rw[f];rfl)));obtain⟨i,j,e,⟨k,A,z,y⟩,q⟩:=k;subst e;cases p with|cons r g=>cases g with|cons v g=>cases g;obtain⟨t,rfl⟩:=r;obtain⟨t',rfl⟩:=v;exact call_range_2 (vj I1 k A z y q)
def Ti(j:TI)(g:TG)(k:TS):TS:=λa b H=>j b H λJ o=>∃W:Nat->Nat->St->Hp->Prop,(∃m,W 0 m b o)/\∀i m b H,W i m b H->(J.stop i H/\a.nx b H)\/(J.go i H/\∃N:St->Hp->Prop,(∀e d,N e d->∃h,h<m/\W (i+1) h e d)/\∀x d,J.yld i H x d->g x b d λf n=>k {a with nx:=N,ct:=N,bk:=a.nx} f n)
noncomputable def eY(a:List O)(h:N_):List (O×Obj):=a.filterMap λb=>(h.get? b).map λo=>(b,o)
theorem dG{o:Obj}(b:e∈ο)(a:N.get? e=Z o):(e,o)∈eY ο N:=Zr.mpr ⟨e,b,by rw[a];rfl⟩
theorem mz{p:O×Obj}(a:p∈eY ο N):p.1∈ο/\N.get? p.1=Z p.2:=by obtain⟨b,d,e⟩:=Zr.mp a;cases q:N.get? b with|none=>rw[q]at e;cases e|some o=>rw[q]at e;have f:(b,o)=p:=UL e;subst f;exact⟨d,q⟩
theorem Í.pinned{fp:List O}(I:Í a ζ Χ g f)(m:∀b∈fp,ua a ζ g b)(k:∀b∈fp,∃o,f.heap.get? b=Z o/\∀v,o.data≠.cell v):Í a (ζ++eY fp f.heap) Χ g f:=I.pins_of λp j=>(R_.mp j).elim (λz=>I.pin p (o_ _ z)) λz=>by obtain⟨h,e⟩:=mz z;obtain⟨n,f1,R,_⟩:=m p.1 h;obtain⟨o,i,d⟩:=k p.1 h;rw[e]at i;cases i;exact⟨e,n,f1,R,d⟩
theorem Í.unpinned{b:List (O×Obj)}(I:Í a (ζ++b) Χ g f):Í a ζ Χ g f:=I.pins_of λp d=>I.pin p (o_ _ (K_ _ d))
theorem rh{wi:TI}{g:TG}{tb:TS}(hp:Xl (E_ a.prog a.w) a.A a.env a.xe)(hc:a.calm=L)(hi:PI a h w wi)(hg:PG a h g)(y:Ľ a À tb)(hs:∀x,UF w a.env x=pure x:=by intro _;rfl):PS a (.For h w À [] m) (Ti wi g tb):=by
 intro f' s σ H p I k;refine wpAny_For (å (hi f' s σ H _ I k) λv s1 h1=>å h1 λn' s2 h2=>?_) hs;obtain⟨it,fp,tn,J,H2,e,I2,T,i',R,W,⟨m0,w0⟩,turn⟩:=h2;subst e;have b':∀{H':Hp},(∀b∈fp,H' b=U)->∀b∈fp,ua a f' H' b:=λhn b y=>⟨hn b y,(R b y).2⟩;refine codeAny_forLoop_any (λn s'=>∃i a' H',Í a f' a' H' s'/\tn i s'.heap/\(∀b∈fp,H' b=U)/\W i n a' H') ?_ m0 ⟨0,σ,H2,I2,i',λb y=>(R b y).1,w0⟩;rintro n s3⟨i,E,H3,I3,d',e',w3⟩;rcases turn i n E H3 w3 with⟨g',qn⟩|⟨go,N,hN,step⟩;·refine XX hp (å (T.done a rfl rfl rfl hc i f' s3 E H3 a.xe I3 (b' e') d' g') λr s4⟨hr,I4⟩=>?_);subst hr;exact aak ⟨E,H3,I4,qn⟩
 · refine XX hp (å (T.item a rfl rfl rfl hc i f' s3 E H3 a.xe I3 (b' e') d' go) λr s4⟨u,hr,h4⟩=>?_);subst hr;refine XX hp (å h4 λ_ s5⟨x,H5,I5,r5,y5,c',k'⟩=>?_);have l':=I5.pinned (b' k') (T.obj _ _ c');refine XX hp (å (hg _ s5 E H5 x u _ l' r5 (step x H5 y5)) λ_ s6⟨h',H6,I6,q6⟩=>?_);refine XX hp (å (y _ s6 h' H6 _ I6 q6) λf s7 q7=>?_);have again:∀{q:St}{A:Hp},Í a (f'++eY fp s5.heap) q A s7->N q A->∃j,j<n/\∃i a' H',Í a f' a' H' s7/\tn i s7.heap/\(∀b∈fp,H' b=U)/\W i j a' H':=λ{q A}z n7=>by obtain⟨m',hm,w7⟩:=hN q A n7;refine⟨m',hm,i+1,q,A,z.unpinned,T.keep _ _ _ c' λb y o e=>(z.pin (b,o) (o_ _ (o_ _ (dG y e)))).1,λb y=>?_,w7⟩;obtain⟨o,e,d⟩:=T.obj _ _ c' b y;exact(z.pin (b,o) (o_ _ (o_ _ (dG y e)))).2.1
   cases f with|next=>obtain⟨q,A,z,n7⟩:=q7;exact again z n7|cont=>obtain⟨q,A,z,n7⟩:=q7;exact again z n7|brk=>obtain⟨q,A,z,q7⟩:=q7;exact⟨q,A,z.unpinned,q7⟩|ret v=>obtain⟨x7,q,A,z,r7,q7⟩:=q7;exact⟨x7,q,A,z.unpinned,r7,q7⟩
abbrev R2:=V->V->Hp->VK->Prop
def ù(X:C)(f:B->B->Sem B)(r:R2):Prop:=∀(b:List (O×Obj))(s:ge)(a:St)(H:Hp)(x y:V)(v u:B)(Q:VK),Í X b a H s->Ú x v->Ú y u->r x y H Q->v_ (E_ X.prog X.w) X.A (f v u) (EP X b a Q) X.xe s
def UnR(X:C)(f:B->Sem B)(r:V->Hp->VK->Prop):Prop:=∀(b:List (O×Obj))(s:ge)(a:St)(H:Hp)(x:V)(v:B)(Q:VK),Í X b a H s->Ú x v->r x H Q->v_ (E_ X.prog X.w) X.A (f v) (EP X b a Q) X.xe s
def mB(X:C)(f:B)(r:List V->Hp->VK->Prop):Prop:=∀(e:List (O×Obj))(s:ge)(a:St)(H:Hp)(b:List V)(d:List B)(Q:VK),Í X e a H s->Ï b d->r b H Q->v_ (E_ X.prog X.w) X.A (call f d) (EP X e a Q) X.xe s
noncomputable def KE(r:R2)(d b:TE):TE:=λa H Q=>d a H λx f=>b a f λy e=>r x y e Q
def tUn(r:V->Hp->VK->Prop)(b:TE):TE:=λa H Q=>b a H λx d=>r x d Q
def rI(C:Int->Int->Prop)(g:Int->Int->V):R2:=λx y H Q=>∃i j,x=.int i/\y=.int j/\C i j/\Q (g i j) H
noncomputable def Ř(g:Int->Int->V):R2:=λx y H Q=>∃i j,x=.int i/\y=.int j/\Q (g i j) H
def rU(g:Int->V):V->Hp->VK->Prop:=λx H Q=>∃i,x=.int i/\Q (g i) H
theorem PF{n:TE}(N:PE a h Ω)(E:PE a w n){k:List (O×Obj)}{s:ge}{d:St}{H:Hp}{R:V->V->Hp->Prop}(I:Í a k d H s)(b:Ω d H λx m=>n d m λy e=>R x y e){Q:B->ge->Prop}{f:B->B->Sem B}(A:∀v u j x y e,Í a k d e j->Ú x v->Ú y u->R x y e->v_ (E_ a.prog a.w) a.A (f v u) Q a.xe j):v_ (E_ a.prog a.w) a.A (eval h a.env) (λv i=>v_ (E_ a.prog a.w) a.A (eval w a.env) (λu g=>v_ (E_ a.prog a.w) a.A (f v u) Q a.xe g) a.xe i) a.xe s:=by refine å (N k s d H _ I b) λv o⟨x,m,I1,q,z⟩=>?_;refine å (E k o d m _ I1 z) λu j⟨y,e,I2,p,r⟩=>?_;exact A v u j x y e I2 q p r
theorem PH{d:TE}{e:Operator}{r:R2}(k:ù a (V2 e) r)(o:PE a h Ω)(n:PE a w d):PE a (.BinOp h e w m) (KE r Ω d):=by intro p s f H Q I b;exact wpAny_BinOp (PF o n I b λv u g x y A z j i q=>k p g f A x y v u Q z j i q)
theorem PJ{e:UnaryOp}{r:V->Hp->VK->Prop}(k:UnR a (unaryOp e) r)(n:PE a h Ω):PE a (.UnaryOp e h m) (tUn r Ω):=by intro f s d H Q I b;exact UnaryOp_ (å (n f s d H _ I b) λv g⟨x,p,o,i,j⟩=>k f g d p x v Q o i j)
theorem opI{f:B->B->Sem B}{b:Int->Int->Prop}{g:Int->Int->Int}(d:∀(i j:Int)(t u:Tok)(s:ge)(Q:B->ge->Prop)(E:B->ge->Prop),b i j->Q (.int (g i j) s.toks) {s with toks:=s.toks+1}->v_ (E_ a.prog a.w) a.A (f (.int i t) (.int j u)) Q E s):ù a f (rI b λi j=>.int (g i j)):=by intro p s o H x y v u Q I m k h;obtain⟨i,j,rfl,rfl,n,q⟩:=h;obtain⟨t,rfl⟩:=m;obtain⟨e,rfl⟩:=k;exact d i j t e s _ _ n ⟨.int (g i j),H,I.tok _,⟨_,rfl⟩,q⟩
theorem Sd{f:B->B->Sem B}{g:Int->Int->Int}(b:∀(i j:Int)(t u:Tok)(s:ge)(Q:B->ge->Prop)(E:B->ge->Prop),Q (.int (g i j) s.toks) {s with toks:=s.toks+1}->v_ (E_ a.prog a.w) a.A (f (.int i t) (.int j u)) Q E s):ù a f (Ř λi j=>.int (g i j)):=by intro n s m H x y v u Q I k e h;obtain⟨i,j,rfl,rfl,q⟩:=h;obtain⟨t,rfl⟩:=k;obtain⟨d,rfl⟩:=e;exact b i j t d s _ _ ⟨.int (g i j),H,I.tok _,⟨_,rfl⟩,q⟩
theorem PK{f:B->B->Sem B}{g:Int->Int->Bool}(b:∀(i j:Int)(t u:Tok)(s:ge)(Q:B->ge->Prop)(E:B->ge->Prop),Q (.bool (g i j)) s->v_ (E_ a.prog a.w) a.A (f (.int i t) (.int j u)) Q E s):ù a f (Ř λi j=>.bl (g i j)):=by intro n s m H x y v u Q I k e h;obtain⟨i,j,rfl,rfl,q⟩:=h;obtain⟨t,rfl⟩:=k;obtain⟨d,rfl⟩:=e;exact b i j t d s _ _ ⟨.bl (g i j),H,I,rfl,q⟩
def Se(i j:Int):Prop:=0<j/\j<1073741824
def ŉ(i j:Int):Prop:=(-(2^64)<i/\i<2^64)\/(-(2^64)<j/\j<2^64)
theorem ŉ.ok(h:ŉ n Á):IntMulOk n Á:=by
 rcases h with⟨b,a⟩|⟨b,a⟩;·exact .of_left (intBits_le_64 b a)
 ·exact .of_right (intBits_le_64 b a)
theorem op_add:ù a (V2 .Add) (Ř λi j=>.int (i+j)):=Sd λ_ _ _ _ _ _ _ q=>add_int q
theorem KN:ù a (V2 .Sub) (Ř λi j=>.int (i-j)):=Sd λ_ _ _ _ _ _ _ q=>sub_int q
theorem EB:ù a (V2 .Mult) (rI ŉ λi j=>.int (i*j)):=opI λ_ _ _ _ _ _ _ b q=>mul_int q b.ok
theorem Gp:ù a (V2 .FloorDiv) (rI Se λi j=>.int (i/j)):=opI λi j _ _ _ _ _ b q=>by have e:(0:Int)<j:=b.1;have d:j<1073741824:=b.2;exact floordiv_int (by omega) (by rw[Int.fdiv_eq_ediv_of_nonneg i (by omega)];exact q) (.inl (PyProof.noPylong_small (by omega)))
theorem KO:ù a (V2 .Mod) (rI (λ_ j=>0<j) λi j=>.int (i%j)):=opI λi j _ _ _ _ _ b q=>by have d:(0:Int)<j:=b;exact mod_int' (by omega) (by rw[Int.fmod_eq_emod_of_nonneg i (by omega)];exact q)
theorem unI{f:B->Sem B}{g:Int->Int}(b:∀(i:Int)(t:Tok)(s:ge)(Q:B->ge->Prop)(E:B->ge->Prop),Q (.int (g i) s.toks) {s with toks:=s.toks+1}->v_ (E_ a.prog a.w) a.A (f (.int i t)) Q E s):UnR a f (rU λi=>.int (g i)):=by intro j s e H x v Q I d h;obtain⟨i,rfl,q⟩:=h;obtain⟨t,rfl⟩:=d;exact b i t s _ _ ⟨.int (g i),H,I.tok _,⟨_,rfl⟩,q⟩
theorem KP:UnR a (unaryOp .USub) (rU λi=>.int (-i)):=unI λ_ _ _ _ _ q=>neg_int q
noncomputable def PM:V->V->Bool|.non,.non=>L|.non,.int _=>L|.int _,.non=>L|.non,.bl _=>L|.bl _,.non=>L|.non,.str _=>L|.str _,.non=>L|.int _,.int _=>L|.bl _,.bl _=>L|.str _,.str _=>L|.byt _,.byt _=>L|.int _,.str _=>L|.str _,.int _=>L|.bl _,.str _=>L|.str _,.bl _=>L|_,_=>D
def rEq:R2:=λx y H Q=>PM x y=L/\Q (.bl (s_ (x=y))) H
def rNe:R2:=λx y H Q=>PM x y=L/\Q (.bl (!s_ (x=y))) H
theorem ub:s_ (V.int n=V.int Á)=(n==Á):=by rw[VO];simp
variable{E Ã:Bool}
theorem yk:s_ (V.bl E=V.bl Ã)=(E==Ã):=by rw[VO];simp
variable{p:Str}
theorem uc:s_ (V.str d=V.str p)=(d==p):=by rw[VO];simp
theorem ym{i j:Array UInt8}:s_ (V.byt i=V.byt j)=(i.toList==j.toList):=by rw[VO];cases i;cases j;simp
variable{È:VK}
theorem bD(I:Í a ζ Χ g f)(q:È (.bl E) g)(e:E=Ã):EP a ζ Χ È (.bool Ã) f:=by subst e;exact⟨.bl E,g,I,rfl,q⟩
theorem op_eq:ù a (UN .Eq) rEq:=by intro k s g H x y v u Q I f b h;obtain⟨e,q⟩:=h;cases x with
 |non=>cases f;cases y with|non=>cases b;exact PySem.EqNone.eq_none_none (bD I q (by simp))|bl j=>cases b;exact PySem.EqNone.eq_none_bool (bD I q (by simp))|int j=>obtain⟨d,rfl⟩:=b;exact PySem.EqNone.eq_none_int (bD I q (by simp))|str j=>obtain⟨d,rfl⟩:=b;exact PySem.EqNone.eq_none_str (bD I q (by simp))|_=>exact absurd (show D=L from e) y_
 |bl i=>cases f;cases y with|non=>cases b;exact PySem.EqNone.eq_bool_none (bD I q (by simp))|bl j=>cases b;exact eq_bool (bD I q yk)|str j=>obtain⟨d,rfl⟩:=b;exact PySem.EqMixed.eq_bool_str (bD I q (by simp))|_=>exact absurd (show D=L from e) y_
 |int i=>obtain⟨t,rfl⟩:=f;cases y with|non=>cases b;exact PySem.EqNone.eq_int_none (bD I q (by simp))|int j=>obtain⟨d,rfl⟩:=b;exact eq_int (bD I q ub)|str j=>obtain⟨d,rfl⟩:=b;exact PySem.EqMixed.eq_int_str (bD I q (by simp))|_=>exact absurd (show D=L from e) y_
 |str i=>obtain⟨t,rfl⟩:=f;cases y with|non=>cases b;exact PySem.EqNone.eq_str_none (bD I q (by simp))|bl j=>cases b;exact PySem.EqMixed.eq_str_bool (bD I q (by simp))|int j=>obtain⟨d,rfl⟩:=b;exact PySem.EqMixed.eq_str_int (bD I q (by simp))|str j=>obtain⟨d,rfl⟩:=b;exact eq_str (bD I q uc)|_=>exact absurd (show D=L from e) y_
 |byt i=>obtain⟨t,rfl⟩:=f;cases y with|byt j=>obtain⟨d,rfl⟩:=b;exact PySem.W.eq_bytes (bD I q ym)|_=>exact absurd (show D=L from e) y_
 |_=>cases y<;>exact absurd (show D=L from e) y_
theorem op_ne:ù a (UN .NotEq) rNe:=by intro k s g H x y v u Q I f b h;obtain⟨e,q⟩:=h;cases x with
 |non=>cases f;cases y with|non=>cases b;exact PySem.EqNone.ne_none_none (bD I q (by simp))|bl j=>cases b;exact PySem.EqNone.ne_none_bool (bD I q (by simp))|int j=>obtain⟨d,rfl⟩:=b;exact PySem.EqNone.ne_none_int (bD I q (by simp))|str j=>obtain⟨d,rfl⟩:=b;exact PySem.EqNone.ne_none_str (bD I q (by simp))|_=>exact absurd (show D=L from e) y_
 |bl i=>cases f;cases y with|non=>cases b;exact PySem.EqNone.ne_bool_none (bD I q (by simp))|bl j=>cases b;exact ne_bool (bD I q (congrArg not yk))|str j=>obtain⟨d,rfl⟩:=b;exact PySem.EqMixed.ne_bool_str (bD I q (by simp))|_=>exact absurd (show D=L from e) y_
 |int i=>obtain⟨t,rfl⟩:=f;cases y with|non=>cases b;exact PySem.EqNone.ne_int_none (bD I q (by simp))|int j=>obtain⟨d,rfl⟩:=b;exact ne_int (bD I q (congrArg not ub))|str j=>obtain⟨d,rfl⟩:=b;exact PySem.EqMixed.ne_int_str (bD I q (by simp))|_=>exact absurd (show D=L from e) y_
 |str i=>obtain⟨t,rfl⟩:=f;cases y with|non=>cases b;exact PySem.EqNone.ne_str_none (bD I q (by simp))|bl j=>cases b;exact PySem.EqMixed.ne_str_bool (bD I q (by simp))|int j=>obtain⟨d,rfl⟩:=b;exact PySem.EqMixed.ne_str_int (bD I q (by simp))|str j=>obtain⟨d,rfl⟩:=b;exact ne_str (bD I q (congrArg not uc))|_=>exact absurd (show D=L from e) y_
 |byt i=>obtain⟨t,rfl⟩:=f;cases y with|byt j=>obtain⟨d,rfl⟩:=b;exact PySem.W.ne_bytes (bD I q (congrArg not ym))|_=>exact absurd (show D=L from e) y_
 |_=>cases y<;>exact absurd (show D=L from e) y_
theorem op_lt:ù a (UN .Lt) (Ř λi j=>.bl (s_ (i<j))):=PK λ_ _ _ _ _ _ _ q=>lt_int q
theorem op_le:ù a (UN .LtE) (Ř λi j=>.bl (s_ (i<=j))):=PK λ_ _ _ _ _ _ _ q=>le_int q
theorem KQ:ù a (UN .Gt) (Ř λi j=>.bl (s_ (j<i))):=PK λ_ _ _ _ _ _ _ q=>gt_int q
theorem yn:ù a (UN .Lt) (λx y H Q=>∃i j,x=.str i/\y=.str j/\Q (.bl (s_ (i.cps.toList<j.cps.toList))) H):=by intro g s e H x y v u Q I d b h;obtain⟨i,j,rfl,rfl,q⟩:=h;obtain⟨t,rfl⟩:=d;obtain⟨f,rfl⟩:=b;exact lt_str (bD I q rfl)
theorem op_in_str:ù a (UN .In) (λx y H Q=>∃i j,x=.str i/\y=.str j/\Q (.bl (!(UU j i 0 j.length 1).isEmpty)) H):=by intro g s e H x y v u Q I d b h;obtain⟨i,j,rfl,rfl,q⟩:=h;obtain⟨t,rfl⟩:=d;obtain⟨f,rfl⟩:=b;exact in_str (bD I q rfl)
theorem EC:ù a (UN .Is) (λx y H Q=>y=.non/\Q (.bl (s_ (x=.non))) H):=by intro f s e H x y v u Q I b d h;obtain⟨rfl,q⟩:=h;cases d;refine is_none_gen (bD I q ?_);cases x<;>first|(cases b;rfl)|(obtain⟨t,rfl⟩:=b;rfl)
theorem yo:ù a (UN .IsNot) (λx y H Q=>y=.non/\Q (.bl (!s_ (x=.non))) H):=by intro f s e H x y v u Q I b d h;obtain⟨rfl,q⟩:=h;cases d;refine isnot_none_gen (bD I q ?_);cases x<;>first|(cases b;rfl)|(obtain⟨t,rfl⟩:=b;rfl)
theorem ù.or{f:B->B->Sem B}{r g:R2}(h:ù a f r)(j:ù a f g):ù a f (λx y H Q=>r x y H Q\/g x y H Q):=by
 intro i s b H x y v u Q I e d q;rcases q with q|q;·exact h i s b H x y v u Q I e d q
 ·exact j i s b H x y v u Q I e d q
theorem Sf(b:r_){a:M'}(h:a≠.In:=by decide)(d:a≠.NotIn:=by decide):Uw a b=D:=by
 have f:(a==CmpOp.In)=D:=by cases a<;>first|rfl|exact absurd rfl h
 have e:(a==CmpOp.NotIn)=D:=by cases a<;>first|rfl|exact absurd rfl d
 cases b<;>simp[Uw,f,e]
theorem yp{e:TE}{d:M'}{r:R2}(k:ù a (UN d) r)(p:PE a h Ω)(o:PE a w e)(n:Uw d w=D):PE a (.Compare h [d] [w] m) (KE r Ω e):=by intro z s f H Q I b;exact wpAny_Compare1 (PF p o I b λv u g x y E A j i q=>k z g f E x y v u Q A j i q) n
noncomputable def PN(t:TE):TT:=λa H Q=>t a H λx b=>∃k,x=.bl k/\Q k b
theorem ud{i:TE}{f:M'}{r:R2}(ho:ù a (UN f) r)(ha:PE a h Ω)(hb:PE a w i)(hm:Uw f w=D):PT a (.Compare h [f] [w] m) (PN (KE r Ω i)):=by intro g s d H Q I b;refine wpAny_isTrue_Compare1 (å (ha g s d H _ I b) λv n⟨x,H1,I1,q,N⟩=>å (hb g n d H1 _ I1 N) λu j⟨y,H2,I2,p,E⟩=>å (ho g j d H2 x y v u _ I2 q p E) λc s3⟨z,H3,I3,o,k,e,A⟩=>?_) hm;subst e;cases o;exact VX ⟨H3,I3,A⟩
theorem rj:(sizeLine:Nat)<2^63:=by rw[X6];decide
theorem op_add_str:ù a (V2 .Add) (λx y H Q=>∃i j,x=.str i/\y=.str j/\i.length+j.length<=sizeLine/\Q (.str (i++j)) H):=by intro m s g H x y v u Q I e d h;obtain⟨i,j,rfl,rfl,f,q⟩:=h;obtain⟨t,rfl⟩:=e;obtain⟨b,rfl⟩:=d;exact add_str (λb k=>⟨.str (i++j),H,I.tok _,⟨_,rfl⟩,q⟩) f
theorem iE(r:Ï [ψ] μ):∃u,μ=[u]/\Ú ψ u:=by cases r with|cons b a=>cases a;exact⟨_,rfl,b⟩
theorem KR{y:V}(r:Ï [ψ,y] μ):∃u a,μ=[u,a]/\Ú ψ u/\Ú y a:=by cases r with|cons f e=>cases e with|cons d b=>cases b;exact⟨_,_,rfl,f,d⟩
theorem yq(e:a.calm=L):mB a (.builtin "min") (λd H Q=>∃i j,d=[.int i,.int j]/\Q (.int (if j<i then j else i)) H):=by
 intro v s f H d m Q I r h;obtain⟨i,j,rfl,q⟩:=h;obtain⟨u,g,rfl,⟨t,rfl⟩,⟨o,rfl⟩⟩:=KR r;refine min_two_ints (I.ok.hd e) λp n k=>⟨_,H,I.kept k,?_,q⟩;by_cases b:j<i;·rw[if_pos b,if_pos b];exact⟨_,rfl⟩
 ·rw[if_neg b,if_neg b];exact⟨_,rfl⟩
def Tj(K:d_)(x:V)(H:Hp)(n:Nat):Prop:=match x with|.str y=>y.length<=sizeLine/\n=y.length|.byt y=>y.size<=sizeLine/\n=y.size|.ref p=>(∃a,ā K H p a/\n=a.length)\/∃a,ô K H p a/\n=a.length|_=>False
theorem BP:mB a (.builtin "len") (λb H Q=>∃x n,b=[x]/\Tj a.K x H n/\Q (.int n) H):=by intro E s v H b w Q I r h;obtain⟨x,n,rfl,e,q⟩:=h;obtain⟨u,rfl,g⟩:=iE r;have A:=rj;have z:sizeLine=16777216:=X6;cases x with
 |str y=>obtain⟨t,rfl⟩:=g;obtain⟨o,f⟩:y.length<=sizeLine/\n=y.length:=e;subst f;exact len_str (by omega) ⟨.int _,H,I.tok _,⟨_,rfl⟩,q⟩|byt y=>obtain⟨t,rfl⟩:=g;obtain⟨o,f⟩:y.size<=sizeLine/\n=y.size:=e;subst f;exact PySem.W.len_bytes (by omega) ⟨.int _,H,I.tok _,⟨_,rfl⟩,q⟩|ref p=>
 cases g;have f:(∃b,ā a.K H p b/\n=b.length)\/∃b,ô a.K H p b/\n=b.length:=e;rcases f with⟨b,j,f⟩|⟨b,j,f⟩;·subst f;obtain⟨k,i,pl,m⟩:=I.list j;have d:=i.length;exact Calls.call_len_list pl.isList (by simp only[F_];omega) ⟨.int b.length,H,I.tok _,⟨_,by simp only[F_];rw[d]⟩,q⟩
 ·subst f;obtain⟨k,i,pl,m⟩:=I.tuple j;have d:=i.length;exact len_tuple pl (by simp only[F_];omega) ⟨.int b.length,H,I.tok _,⟨_,by simp only[F_];rw[d]⟩,q⟩|_=>exact(show False from e).elim
structure ň(h:N_)(x dx C:O)(mA:Str->Option B):Prop where
 obj:h.get? x=Z (Wg C dx)ns:h.Ns1 dx mA
 ne:dx≠x
variable{Ι:Str->Option B}
theorem yr(n:N.Ns1 e Ι):∃g,N.get? e=Z g/\∀d,Zi d g=Z (Ι d):=by
 obtain⟨o,h,s,j,p,m,_,k⟩:=n;refine⟨o,j,λd=>?_⟩;have b:=k d;unfold nsFind findBy at b;rw[<-Array.find?_toList]at b;unfold Zi;rw[p];dsimp only;split;·rename_i y q;rw[q]at b;exact congrArg Z b
 · rename_i q;rw[q]at b;have a:h.toList.any (·.refKey)=D:=by rw[abI];intro y i;obtain⟨z,t,f⟩:=m y (WI.mp i);simp[DictEntry.refKey,f]
   have r:¬h.toList.any (·.refKey)=L:=by rw[a];exact y_
   rw[if_neg r];exact congrArg Z b
theorem ň.look{C:O}(I:ň N e A C Ι):∃b,PySem.W.InstAt N e (Wg C A) C (Z b)/\∀a,Zi a b=Z (Ι a):=let⟨b,d,f⟩:=yr I.ns;⟨b,⟨I.obj,rfl,rfl,d⟩,f⟩
theorem Gq{C:O}(X:s.In f.heap)(a:ň f.heap e A C Ι)(k:XD s C d=L)(j:Yh s C=L)(m:Vt s (.ref C) d=Z U)(g:Ι d=Z Β)(b:abM Β=L)(h:Ç Β {f with toks:=f.toks+1}):v_ (E_ r q) I (getAttr (.ref e) d E) Ç τ f:=by obtain⟨n,J,i⟩:=a.look;exact PySem.W.get_value X J (Y0 k).1 (PySem.W.findObj_own j m rfl (by rw[i,g])) b h
theorem BQ{C a:O}{i:Sem Bool}{Q:B×List B->ge->Prop}(X:s.In f.heap)(b:ň f.heap e A C Ι)(g:XD s C d=L)(o:Vt s (.ref C) d=Z (Z (.ref a)))(m:Z8 s (.ref a)=L)(k:Ι d=U)(h:Q (.ref a,[.ref e]) f):v_ (E_ r q) I (aaT (.ref e) d i) Q τ f:=by obtain⟨j,J,n⟩:=b.look;exact PySem.W.method_fn X J (Y0 g).1 (Y0 g).2 o (beq_iff_eq.mp m) (by show(Zi d j).map (·.isSome)=Z D;rw[n,k];rfl) h
theorem Gr{C:O}{Q:Unit->ge->Prop}(X:s.In f.heap)(a:ň f.heap e A C Ι)(z:Vt s (.ref C) "__setattr__"=Z (Z (.builtin "object.__setattr__")))(E:Zw s C=L)(w:aan s C d=Z U)(H:Yh s C=L)(v:abt Ι y)(a':y.length<=sizeLine)(h:∀k,ň k e A C (λg=>if g=d then Z Β else Ι g)->Wm A f.heap k->Q () {f with heap:=k,toks:=f.toks+2}):v_ (E_ r q) I (setAttr (.ref e) d Β) Q τ f:=by obtain⟨od,J,hl⟩:=a.look;refine PySem.W.set_plain X J z (PySem.W.osa_open (s:={f with toks:=f.toks+1}) (r:=U) X J E w λb=>?_);obtain⟨cd,N,o⟩:=PySem.W.any_some H;have u:f.heap.get? e=Z ⟨.ref C,Z A,.plain,#[]⟩:=a.obj;refine e_ (j_ (e_ (e_ (wpAny_loadPart u (e_ (PySem.W.Looks.here (s:={f with toks:=f.toks+1}) (PySem.W.looks_clsIn X N) ?_))))));rw[o];refine j_ (a:=Z A) (e_ (j_ (e_ ?_)));refine wpAny_nsSet1 (s:={f with toks:=f.toks+1}) a.ns λk j i=>?_;obtain⟨oD,b',c',m,n,p⟩:=j.count (PySem.Within.cons d Β v);refine e_ (wpAny_lookBehind m (by rw[n];exact pastItsLine_dict (UD p (by rw[UB];omega))) ?_);exact j_ (h _ ⟨(i.2 _ (UK a.ne)).trans a.obj,j,a.ne⟩ i)
theorem BR{R:abh->ge->Prop}{b:List (Str×B)}(X:s.In f.heap)(i:ab9 s e=L)(j:Vt s (.ref e) "__init__"=Z (Z (.ref A)))(k:PySem.W.typeIn s (.ref A)=Z (.type "function"))(h:Xp (E_ r q) (I.under (.builtin "type.__call__" ⟨.ref e::μ,b⟩)) (.call (.ref A) ⟨.ref (f.heap.objs.size+1)::μ,b⟩) (PySem.W.InitBack (f.heap.objs.size+1) R) {f with heap:=(f.heap.push VH).push (Wg e f.heap.objs.size)}):Xp (E_ r q) I (.call (.ref e) ⟨μ,b⟩) R f:=by obtain⟨m,g,d,t,os⟩:=f;exact PySem.W.make_core (PySem.W.makes_of X i) (PySem.W.looks_findIn X j) (λa=>PySem.W.bind_fn X a k) (.inl rfl) h
noncomputable def ou(f:Str)(v:V):List (Str×V)->List (Str×V)|[]=>[(f,v)]|(g,x)::r=>if g=f then(g,v)::r else(g,x)::ou f v r
theorem mC(f g:Str)(v:V):∀fs:List (Str×V),(ou f v fs).lookup g=if g=f then Z v else fs.lookup g
 |[]=>by
  show X9 g [(f,v)]=_;by_cases h:g=f;·have a:(g==f)=L:=beq_iff_eq.mpr h;simp only[X9,a,if_pos h]
  ·have a:(g==f)=D:=beq_eq_false_iff_ne.mpr h;simp only[X9,a,if_neg h]|(k,x)::r=>by
  have d:=mC f g v r;rw[show ou f v ((k,x)::r)=(if k=f then(k,v)::r else(k,x)::ou f v r)from rfl];by_cases b:k=f
  · rw[if_pos b];by_cases h:g=k;·have a:(g==k)=L:=beq_iff_eq.mpr h;simp only[X9,a,if_pos (h.trans b)]
    ·have a:(g==k)=D:=beq_eq_false_iff_ne.mpr h;simp only[X9,a,if_neg (λe:g=f=>h (e.trans b.symm))]
  · rw[if_neg b];by_cases h:g=k;·have a:(g==k)=L:=beq_iff_eq.mpr h;simp only[X9,a,if_neg (λe:g=f=>b (h.symm.trans e))]
    ·have a:(g==k)=D:=beq_eq_false_iff_ne.mpr h;simp only[X9,a];exact d
theorem mD(f:Str)(v:V):∀fs:List (Str×V),f∈(ou f v fs).map (·.1)/\∀g,g∈fs.map (·.1)->g∈(ou f v fs).map (·.1)
 |[]=>⟨by simp[ou],λg h=>by simp at h⟩|(k,x)::r=>by
  obtain⟨b,i2⟩:=mD f v r;rw[show ou f v ((k,x)::r)=(if k=f then(k,v)::r else(k,x)::ou f v r)from rfl];by_cases a:k=f;·rw[if_pos a];subst a;exact⟨by simp,λg h=>by simpa using h⟩
  · rw[if_neg a];refine⟨?_,λg h=>?_⟩;·rw[G_];exact rl _ b
    · rw[G_]at h⊢;rcases uk.mp h with e|e;·exact uk.mpr (.inl e)
      ·exact rl _ (i2 g e)
theorem mE(f:Str)(v:V):∀fs:List (Str×V),(ou f v fs).length<=fs.length+1
 |[]=>by simp[ou]|(k,x)::r=>by
  have b:=mE f v r;rw[show ou f v ((k,x)::r)=(if k=f then(k,v)::r else(k,x)::ou f v r)from rfl];by_cases a:k=f;·rw[if_pos a,UB,UB];omega
  ·rw[if_neg a,UB,UB];omega
theorem Č.some_of{o:Option B}(r:Č (Z ψ) o):∃u,o=Z u/\Ú ψ u:=by cases o with|none=>exact(show False from r).elim|some u=>exact⟨u,rfl,r⟩
theorem Č.none_of{o:Option B}(r:Č U o):o=U:=by cases o with|none=>rfl|some u=>exact(show False from r).elim
theorem yt(r:Ú ψ Β):abM Β=L:=by cases ψ with|non=>cases(show Β=J_ from r);rfl|bl b=>cases(show Β=Q_ b from r);rfl|int i=>obtain⟨t,e⟩:=(show∃t,Β=ZR i t from r);cases e;rfl|str x=>obtain⟨t,e⟩:=(show∃t,Β=V6 x t from r);cases e;rfl|byt b=>obtain⟨t,e⟩:=(show∃t,Β=Value.bytes b t from r);cases e;rfl|flt b=>obtain⟨t,e⟩:=(show∃t,Β=ab6 b t from r);cases e;rfl|ref a=>cases(show Β=B_ a from r);rfl|ty n=>cases(show Β=q_ n from r);rfl
theorem pC{k:O}{j:List (Str×V)}(m:ĉ r q g N)(h:g e=Z (.ins A k j)):∃i,ň N e k A i/\(∀f,Č (j.lookup f) (i f))/\abt i (j.map (·.1))/\j.length<=1000/\g k=Z (.own e):=by obtain⟨d,z,ne,o,i,n,a,b⟩:=(show ã r q g N e (.ins A k j)from m e _ h);exact⟨i,⟨o,n,ne⟩,a,b,z,d⟩
structure ŧ(K:d_)(C:O):Prop where
 pg:XD K C abP=L
 hd:Yh K C=L
 po:Zw K C=L
 sa:Vt K (.ref C) "__setattr__"=Z (Z (.builtin "object.__setattr__"))
theorem ŧ.get(c:ŧ s e)(f:Str):XD s e f=L:=c.pg
def Đ(K:d_)(C:O)(f:Str):Prop:=Vt K (.ref C) f=Z U
theorem Đ.taker(n:Đ s e d):aan s e d=Z U:=by unfold aan;rw[show Vt s (.ref e) d=Z U from n];rfl
structure Kc(K:d_)(C:O)(m:Str)(f:O):Prop where
 at_:Vt K (.ref C) m=Z (Z (.ref f))fn:Z8 K (.ref f)=L
 kp:Vk K (.ref f)=L
theorem wN{s:O}{o:List (Str×V)}(b:Í a ζ Χ g f)(i:g e=Z (.ins A s o))(c:ŧ a.K A)(n:Đ a.K A d)(l:o.lookup d=Z ψ)(h:∀u k,Í a ζ Χ g k->Ú ψ u->Ç u k):v_ (E_ a.prog a.w) I (getAttr (.ref e) d E) Ç τ f:=by obtain⟨p,j,r,_,_,_⟩:=pC b.hok i;obtain⟨u,q,m⟩:=Č.some_of (ψ:=ψ) (o:=p d) (by rw[<-l];exact r d);exact Gq b.kIn j (c.get d) c.hd n q (yt m) (h u _ (b.tok _) m)
theorem ow{s:O}{n:List (Str×V)}{b:O}{o:Sem Bool}{Q:B×List B->ge->Prop}(i:Í a ζ Χ g f)(j:g e=Z (.ins A s n))(c:ŧ a.K A)(k:Kc a.K A d b)(l:n.lookup d=U)(h:Q (.ref b,[.ref e]) f):v_ (E_ a.prog a.w) I (aaT (.ref e) d o) Q τ f:=by obtain⟨p,m,r,_,_,_⟩:=pC i.hok j;have q:p d=U:=Č.none_of (by rw[<-l];exact r d);exact BQ i.kIn m (c.get d) k.at_ k.fn q h
theorem wO{s:O}{p:List (Str×V)}{Q:Unit->ge->Prop}(k:Í a ζ Χ g f)(m:g e=Z (.ins A s p))(c:ŧ a.K A)(n:Đ a.K A d)(hl:p.length<1000)(N:Ú ψ Β)(h:∀w,Í a ζ Χ (ß g e (.ins A s (ou d ψ p))) w->Q () w):v_ (E_ a.prog a.w) I (setAttr (.ref e) d Β) Q τ f:=by
 obtain⟨y,j,r,v,_,E⟩:=pC k.hok m;have hz:(p.map (·.1)).length<=sizeLine:=by rw[S_,X6];omega
 refine Gr k.kIn j c.sa c.po n.taker c.hd v hz λh' u H=>h _ ?_;have hd:∃o,h'.get? s=Z o:=let⟨o,_,_,e',_⟩:=u.ns;⟨o,e'⟩;refine k.write (x:=e) (e:=s) (by rw[m];exact WJ) (.inr E) (λb q hb z=>(H.2 b hb).trans z) hd ?_;refine⟨by rw[aA j.ne];exact E,?_,j.ne,u.obj,_,u.ns,λi=>?_,λi hg=>?_⟩;·have:=mE d ψ p;omega
 · show Č ((ou d ψ p).lookup i) (if i=d then Z Β else y i);rw[mC];by_cases q:i=d;·rw[if_pos q,if_pos q];exact N
   ·rw[if_neg q,if_neg q];exact r i
 · by_cases q:i=d;·rw[q];exact(mD d ψ p).1
   ·refine(mD d ψ p).2 i (v i λz=>hg ?_);show(if i=d then Z Β else y i)=U;rw[if_neg q];exact z
theorem Í.made(I:Í a ζ Χ g f):Í a ζ Χ (ß (ß g f.heap.objs.size (.own (f.heap.objs.size+1))) (f.heap.objs.size+1) (.ins e f.heap.objs.size [])) {f with heap:=(f.heap.push VH).push (Wg e f.heap.objs.size)}:=by
 have h:(f.heap.push VH).get? f.heap.objs.size=Z VH:=w_ f.heap rfl;have m:((f.heap.push VH).push (Wg e f.heap.objs.size)).get? (f.heap.objs.size+1)=Z (Wg e f.heap.objs.size):=by have:=w_ (f.heap.push VH) (o:=Wg e f.heap.objs.size) rfl;rwa[U7]at this
 have k:(f.heap.push VH).Ns f.heap.objs.size (λ_=>U):=⟨VH,#[],_,h,rfl,(λd j=>absurd j (by simp)),λ_=>rfl⟩;have n:=I.laid (a:=f.heap.objs.size) (o:=.own (f.heap.objs.size+1)) (h':=f.heap.push VH) (t':=f.toks) (λb u q=>l_ _ q) (on _) ⟨_,h⟩;refine n.laid (a:=f.heap.objs.size+1) (o:=.ins e f.heap.objs.size []) (t':=f.toks) (λb u q=>l_ _ q) (Yt (U7 _ _)) ?_;have ne:f.heap.objs.size≠f.heap.objs.size+1:=UI (ZY _);refine⟨by rw[aA ne,aw],UQ _,ne,m,λ_=>U,(Heap.Ns1.of_empty k).at λo q=>l_ _ q,λ_=>WJ,λy i=>absurd rfl i⟩
theorem Gs{b:Env}(g:Vd h d b (eval h b)=eval h b)(a:v_ (E_ r q) I (eval h b) (λo e=>v_ (E_ r q) I (getAttr o d L) Ç τ e) τ f):v_ (E_ r q) I (eval (.Attribute h d m) b) Ç τ f:=Attribute_any_ a (by rw[arm_eval_Attribute,g])
noncomputable def Tk(K:d_)(e:TE)(f:Str):TE:=λd H Q=>e d H λx b=>∃a C g fs v,x=.ref a/\b a=Z (.ins C g fs)/\ŧ K C/\Đ K C f/\fs.lookup f=Z v/\Q v b
def Tl(K:d_)(i h:TE)(f:Str):TS:=λb d H=>h d H λy j=>i d j λx g=>∃a C e fs,x=.ref a/\g a=Z (.ins C e fs)/\ŧ K C/\Đ K C f/\fs.length<1000/\b.nx d (ß g a (.ins C e (ou f y fs)))
theorem ED(k:PE a h Ω)(o:Vd h d a.env (eval h a.env)=eval h a.env):PE a (.Attribute h d m) (Tk a.K Ω d):=by intro p s g H Q I b;refine Gs o (å (k p s g H _ I b) λu s1⟨x,A,z,i,e,f,dx,fs,v,r,w,c,n,l,q⟩=>?_);subst r;obtain rfl:u=B_ e:=i;exact wN z w c n l λE N y j=>⟨v,A,y,j,q⟩
theorem KS{k:TE}(ha:PE a h Ω)(E:PE a w k)(N:Vb w (Z (.Attribute h d u)) m.line a.env=pure D):PS a (.Assign [.Attribute h d u] w m) (Tl a.K Ω k d):=by intro o s j H g I b;refine plainObj_wpAny_Assign_Attribute (å (E o s j H _ I b) λf p⟨y,H1,I1,r,q⟩=>å (ha o p j H1 _ I1 q) λA s2⟨x,H2,I2,v,e,i,dx,fs,ex,ea,c,n,l,z⟩=>?_) N;subst ex;obtain rfl:A=B_ e:=v;exact wO I2 ea c n l r λs3 I3=>⟨j,_,I3,z⟩
inductive vm(K:d_)(H:Hp):V->B->Prop where|non:vm K H .non (.type "NoneType")|bl(x:Bool):vm K H (.bl x) (.type "bool")|int(i:Int):vm K H (.int i) (.type "int")|str(x:Str):vm K H (.str x) (.type "str")|flt(x:UInt64):vm K H (.flt x) (.type "float")|lst{a:O}{xs:List V}(e:H a=Z (.lst xs)):vm K H (.ref a) (.type "list")|frz{a:O}{o:Obj}{xs:List V}(e:H a=Z (.frz o (.lst xs))):vm K H (.ref a) (.type "list")|tup{a:O}{xs:List V}(e:H a=Z (.tup xs)):vm K H (.ref a) (.type "tuple")|dK{a:O}{kvs:List (ò×V)}(e:H a=Z (.dK kvs)):vm K H (.ref a) (.type "dict")|dT{a:O}{kvs:List (List ò×V)}(e:H a=Z (.dT kvs)):vm K H (.ref a) (.type "dict")|ins{a C dx:O}{fs:List (Str×V)}(e:H a=Z (.ins C dx fs))(cl:ŧ K C)(ha:Vt K (.ref C) "__class__"=Z (Z (.builtin "object.__class__")))(hn:PySem.W.specialIn K (.builtin "object.__class__") "__get__"=Z (Z (.builtin "getset_descriptor.__get__")))(htk:PySem.W.takesIn K (.builtin "object.__class__")=Z L)(hm:PySem.W.mroIn K C (.type "object")=Z L):vm K H (.ref a) (.ref C)
theorem yu{u t:B}(d:Í a ζ Χ g f)(m:Ú ψ u)(ty:vm a.K g ψ t)(e:WT a.K t Β=Z E)(h:∀tk,Ç (.bool E) {f with toks:=tk}):v_ (E_ a.prog a.w) I (call (.builtin "isinstance") [u,Β]) Ç τ f:=by cases ty with|non=>cases(show u=J_ from m);exact VC PySem.W.kitx_none d.kIn WJ e (λz=>nomatch z) h|bl y=>cases(show u=Q_ y from m);exact VC PySem.W.kitx_bool d.kIn WJ e (λz=>nomatch z) h|int i=>obtain⟨t,q⟩:=(show∃t,u=ZR i t from m);cases q;exact VC PySem.W.kitx_int d.kIn WJ e (λz=>nomatch z) h|str y=>obtain⟨t,q⟩:=(show∃t,u=V6 y t from m);cases q;exact VC PySem.W.kitx_str d.kIn WJ e (λz=>nomatch z) h|flt y=>obtain⟨t,q⟩:=(show∃t,u=ab6 y t from m);cases q;exact VC PySem.W.kitx_float d.kIn WJ e (λz=>nomatch z) h|@lst b w r=>cases(show u=B_ b from m);obtain⟨_,_,n,_,s⟩:=(show ã a.prog a.w g f.heap b (.lst w)from d.hok b _ r);exact VC abu d.kIn ⟨_,s,rfl⟩ e (λz=>nomatch z) h|@frz b ob w r=>cases(show u=B_ b from m);obtain⟨_,_,_,n,_,s⟩:=(show ã a.prog a.w g f.heap b (.frz ob (.lst w))from d.hok b _ r);exact VC abu d.kIn ⟨_,s,rfl⟩ e (λz=>nomatch z) h|@tup b w r=>cases(show u=B_ b from m);obtain⟨_,_,_,p⟩:=(show ã a.prog a.w g f.heap b (.tup w)from d.hok b _ r);obtain⟨o,s,A,_⟩:=p;exact VC PySem.W.kitx_tuple d.kIn ⟨o,s,A⟩ e (λz=>nomatch z) h|@dK b v r=>cases(show u=B_ b from m);obtain⟨_,_,vs,_,p⟩:=(show ã a.prog a.w g f.heap b (.dK v)from d.hok b _ r);obtain⟨o,es,ep,s,A,_⟩:=p;exact VC abv d.kIn ⟨o,s,A.1⟩ e (λz=>nomatch z) h|@dT b v r=>cases(show u=B_ b from m);obtain⟨_,_,w,_,o,es,ep,s,A,_⟩:=(show ã a.prog a.w g f.heap b (.dT v)from d.hok b _ r);exact VC abv d.kIn ⟨o,s,A.1⟩ e (λz=>nomatch z) h|@ins b k dx fs r N ha hn H hm=>cases(show u=B_ b from m);obtain⟨mA,j,_⟩:=pC d.hok r;obtain⟨od,J,_⟩:=j.look;exact VC (PySem.W.kitx_own (N.get _) N.hd ha hn H hm) d.kIn J e (λz=>nomatch z) h
structure Ü(k:Nat)(A:D_):Prop where
 hd:A.handled=U
 dp:A.depth+3*k+5<recursionLimit
 un:A.units+16*k+200<cLine
 gd:A.guards=Z []
theorem Ü.mono(r:Ü k I)(h:b<=k):Ü b I:=⟨r.hd,by have:=r.dp;omega,by have:=r.un;omega,r.gd⟩
theorem Ü.deeper(r:Ü (b+1) I)(a:Env):Ü b (I.deeper a):=⟨r.hd,by have:=r.dp;show I.depth+1+3*b+5<_;omega,by have:=r.un;show I.units+3+16*b+200<_;omega,r.gd⟩
theorem Ü.in1(r:Ü (b+1) I):Ü b I.in1:=⟨r.hd,by have:=r.dp;show I.depth+3*b+5<_;omega,by have:=r.un;show I.units+1+16*b+200<_;omega,r.gd⟩
theorem wP{a:List (Str×B)}:(I.under (.builtin "type.__call__" ⟨.ref e::μ,a⟩)).depth=I.depth+1:=by first|rfl|simp[aae,Code.weight,Code.isCreation,Code.isGuard,Code.isCaller,Code.frames,aby,guardIds]
theorem wQ{a:List (Str×B)}:(I.under (.builtin "type.__call__" ⟨.ref e::μ,a⟩)).units=I.units+1:=by first|rfl|simp[aae,Code.cUnits,Code.frames,aby]
theorem Ü.make(r:Ü (b+1) I)(C:O)(a:List B)(d:List (Str×B)):Ü b (I.under (.builtin "type.__call__" ⟨.ref C::a,d⟩)):=⟨r.hd,by have:=r.dp;rw[wP];omega,by have:=r.un;rw[wQ];omega,by have:=r.gd;simp[aae,Code.guards,Code.isGuard,guardIds,pushGuards,this]⟩
theorem Ü.depth(r:Ü b I):I.depth<recursionLimit:=by have:=r.dp;omega
theorem Ü.units(r:Ü b I):I.units+64<cLine:=by have:=r.un;omega
theorem Ü.units0(r:Ü b I):I.units<cLine:=by have:=r.un;omega
noncomputable def Sg:TA:=λ_ H Q=>Q [] H
noncomputable def PP(e:TE)(d:TA):TA:=λa H Q=>e a H λx g=>d a g λb f=>Q (x::b) f
theorem vn:PA a [] Sg:=λ_ _ _ _ H Q I h=>Yo ⟨[],H,I,.nil,h⟩
theorem lg{t:TA}(p:PE a h Ω)(o:PA a v t)(n:k_ (h::v) a.env=(D,eval h a.env)::k_ v a.env:=by rfl):PA a (h::v) (PP Ω t):=by intro pos e s d H Q I b;rw[n];show v_ _ _ (spliced ((D,eval h a.env)::UH pos (k_ v a.env))) _ _ s;refine Xa (å (p e s d H _ I b) λu g⟨x,y,r,j,m⟩=>?_);exact å (o pos e g d y _ r m) λz A⟨f,w,q,i,k⟩=>⟨x::f,w,q,.cons j i,k⟩
def To(t:TA):TE:=λd H Q=>t d H λa b=>a.length<=sizeLine/\∀p,b p=U->Q (.ref p) (ß b p (.tup a))
def Tp(t:TA):TE:=λd H Q=>t d H λa b=>a.length<=sizeLine/\∀p,b p=U->Q (.ref p) (ß b p (.lst a))
theorem KU{t:TA}{k}(h:PA a v t):PE a (.Tuple v k m) (To t):=by intro w s i H Q I o;refine wpAny_Tuple_spliced (å (h m w s i H _ I o) λn d⟨j,g,f,r,z,q⟩=>⟨by rw[<-r.length];exact z,?_⟩);have p:g d.heap.objs.size=U:=f.hok.fresh (on _);refine⟨.ref d.heap.objs.size,ß g d.heap.objs.size (.tup j),f.laid (t':=d.toks) (λb u e=>l_ _ e) (on _) ?_,rfl,q _ p⟩;exact⟨z,n,r,⟨_,w_ _ rfl,rfl,_,rfl⟩⟩
theorem yw{t:TA}(h:PA a v t):PE a (.List v m) (Tp t):=by intro p s i H Q I n;refine wpAny_List_spliced (å (h m p s i H _ I n) λk d⟨j,g,f,r,z,q⟩=>⟨by rw[<-r.length];exact z,?_⟩);have o:g d.heap.objs.size=U:=f.hok.fresh (on _);refine⟨.ref d.heap.objs.size,ß g d.heap.objs.size (.lst j),f.laid (t':=d.toks) (λb u e=>l_ _ e) (on _) ?_,rfl,q _ o⟩;exact⟨z,k,0,r,w_ _ rfl⟩
abbrev Sp:=List V->Hp->VK->XK->Prop
abbrev ŀ:=List Env->Hp->ge->XK->B->ge->Prop
structure Ō(P:n_)(w:xy)(K:d_)(mg:Str->Option B)(base:N_)(A:D_)(outer:List Env)(s:ge)(H:Hp):Prop where
 frames:A.frames=Z outer
 mod:Mod K mg base
 bs:∀b o,base.get? b=Z o->s.heap.get? b=Z o/\H b=U
 bsz:base.objs.size<=s.heap.objs.size
 funs:s.heap.FunFrames base outer
 frf:∀b∈frs outer,H b=U
 hok:ĉ P w H s.heap
 bare:Y_ s.gens
def CE(a:List Env)(P:n_)(w:xy)(H:Hp)(s:ge)(Q:VK)(u:B)(b:ge):Prop:=∃v d,b.os=s.os/\Y_ b.gens/\Un (frs a) [] H d s.heap b.heap/\ĉ P w d b.heap/\Ú v u/\Q v d
def CR(d:ŀ)(a:List Env)(P:n_)(w:xy)(H:Hp)(s:ge)(Q:VK)(E:XK)(r:abh)(b:ge):Prop:=match r with|.ok (.ret u)=>CE a P w H s Q u b|.ok _=>False|.error e=>d a H s E e b
structure í(P:n_)(w:xy)(K:d_)(mg:Str->Option B)(base:N_)(CX:ŀ)(k:Nat)(f:O)(fd:Vg)(ps:List Str)(sp:Sp):Prop where
 len:∀vs H Q E,sp vs H Q E->vs.length=ps.length
 run:∀(A:D_)(outer:List Env)(s:ge)(H:Hp)(args:Args)(us:List B)(vs:List V)(Q:VK)(E:XK),Ü k A->Ō P w K mg base A outer s H->abA s fd args (ps.zip us)->Ï vs us->sp vs H Q E->Xp (E_ P w) A (.call (.ref f) args) (CR CX outer P w H s Q E) s
variable{Ä:Vg}
theorem í.mono{i:ŀ}{g:Sp}(F:í r q s Ι N i b e Ä y g)(h:b<=k):í r q s Ι N i k e Ä y g:=⟨F.len,λA d a H f m j Q E n=>F.run A d a H f m j Q E (n.mono h)⟩
theorem Ō.make{a:List Env}(e:Ō r q s Ι N I a f g)(C:O)(b:List B)(d:List (Str×B)):Ō r q s Ι N (I.under (.builtin "type.__call__" ⟨.ref C::b,d⟩)) a f g:=⟨by first|exact e.frames|(simpa[aae,Code.envs,aby,pushEnvs]using e.frames),e.mod,e.bs,e.bsz,e.funs,e.frf,e.hok,e.bare⟩
theorem Í.env0(I:Í a ζ Χ g f):Ō a.prog a.w a.K a.mg a.base a.A a.stack f g:=⟨I.ok.frames,I.ok.mod,I.bs,UD I.ok.bsz I.sz,I.stack,I.stkFree,I.hok,I.bare⟩
theorem Í.after{j:ge}(I:Í a ζ Χ g f)(h:CE a.stack a.prog a.w g f È Β j):EP a ζ Χ È Β j:=by obtain⟨v,o,os,i,un,m,r,q⟩:=h;obtain⟨n,e,d,t,k⟩:=j;obtain rfl:k=f.os:=os;exact⟨v,o,I.call (h':=n) (g':=e) (d':=d) (t':=t) (ch:=[]) un m i (λb z=>absurd z (by simp)),r,q⟩
noncomputable def PQ(e:Sp)(a:List V)(E:XK)(t:TA):TE:=λb H Q=>t b H λd f=>e (d++a) f Q E
noncomputable def KW(C:O)(m:Str)(h:Sp)(b:List V)(E:XK)(g:TE)(t:TA):TE:=λd H Q=>g d H λx e=>∃a i fs,x=.ref a/\e a=Z (.ins C i fs)/\fs.lookup m=U/\t d e λf j=>h (x::(f++b)) j Q E
def PR(C:O)(g:Sp)(d:List V)(E:XK)(t:TA):TE:=λe H Q=>t e H λf b=>∀x a,b x=U->b a=U->a≠x->g (.ref x::(f++d)) (ß (ß b a (.own x)) x (.ins C a [])) (λv h=>v=.non/\Q (.ref x) h) E
def ð(K:d_)(e:Vg)(b:List Str)(d:List B):Prop:=∀(s:ge)(a:List B),K.In s.heap->(a++d).length=b.length->abA s e ⟨a,[]⟩ (b.zip (a++d))
theorem ð.all(h:∀b:List B,b.length=y.length->abr Ä ⟨b,[]⟩=pure (y.zip b)):ð s Ä y []:=λa b _ d=>by rw[WA]at d⊢;exact .of_eq (h b d)
def j9(f:ŀ)(X:C)(E:XK):Prop:=∀(d:List (O×Obj))(b:St)(H:Hp)(s:ge)(e:B)(a:ge),Í X d b H s->f X.stack H s E e a->X.xe e a
theorem yx{o:ŀ}{m:Sp}{E:XK}{i:List B}{k:List V}(F:í a.prog a.w a.K a.mg a.base o b e Ä y m)(s:Ü b a.A)(z:ð a.K Ä y μ)(w:Ï ι μ)(q:j9 o a E)(I:Í a ζ Χ g f)(r:Ï k i)(h:m (k++ι) g È E):v_ (E_ a.prog a.w) a.A (call (.ref e) i) (EP a ζ Χ È) a.xe f:=by
 have n:Ï (k++ι) (i++μ):=r.append w;have v:(i++μ).length=y.length:=by rw[<-n.length];exact F.len _ _ _ _ h
 refine abd (XB (F.run a.A a.stack f g ⟨i,[]⟩ (i++μ) (k++ι) È E s I.env0 (z f i I.kIn v) n h) λr p j=>?_);cases r with|error d=>exact q ζ Χ g f d p I j|ok A=>cases A with|ret u=>exact I.after j|next=>exact U4 j|brk=>exact U4 j|cont=>exact U4 j
theorem pD{n:ŀ}{j:Sp}{E:XK}{t:TA}(F:í a.prog a.w a.K a.mg a.base n b e Ä y j)(w:Ü b a.A)(N:Gl a d)(z:a.mg d=Z (.ref e))(A:Vk a.K (.ref e)=L)(hb:ð a.K Ä y μ)(hd:Ï ι μ)(p:j9 n a E)(ha:PA a (h::v) t)(i:(d==("__debug__":Str))=D:=by decide)(he:k_ (h::v) a.env=(D,eval h a.env)::k_ v a.env:=by rfl)(g:(UH u (k_ v a.env)).any (·.1)=D:=by rfl):PE a (.Call (.Name d m) (h::v) [] u) (PQ j ι E t):=by intro f' s o H Q I f;refine V5 (lf I N z ?_ i);refine Zj (h₀:=a.base) I.ok.mod.kin A (å (ha u f' s o H _ I f) λus s1⟨vs,H1,k,r,q⟩=>⟨k.kIn,?_⟩) he g;exact yx F w hb hd p k r q
theorem Gu{CX:ŀ}{o:Sp}{E:XK}{t:TA}{p:Sem Bool}(he:PE a w Ω)(c:ŧ a.K A)(N:Kc a.K A d e)(F:í a.prog a.w a.K a.mg a.base CX b e Ä y o)(hr:Ü b a.A)(hb:ð a.K Ä y μ)(hd:Ï ι μ)(hx:j9 CX a E)(ha:PA a (h::v) t)(j:k_ (h::v) a.env=(D,eval h a.env)::k_ v a.env:=by rfl)(k:(UH m (k_ v a.env)).any (·.1)=D:=by rfl)(ht:eval (.Call (.Attribute w d u) (h::v) [] m) a.env=(do
 let z<-eval w a.env
 aaS u.atName let(e,first)<-XA [z] (aaT z d p)callWith m e first (UH m (k_ (h::v) a.env)) (Wd m (Vo [] a.env))):=by rfl):PE a (.Call (.Attribute w d u) (h::v) [] m) (KW A d o ι E Ω t):=by intro f' s n H Q I i;refine aax (pl:=p) (å (he f' s n H _ I i) λg s1⟨x,H1,I1,rx,f,dx,fs,ex,ea,l,q⟩=>?_) ht;subst ex;obtain rfl:g=B_ f:=rx;refine ow I1 ea c N l ?_;refine Zj (first:=[.ref f]) (h₀:=a.base) I.ok.mod.kin N.kp (å (ha m f' s1 n H1 _ I1 q) λus s2⟨vs,H2,I2,r,q2⟩=>⟨I2.kIn,?_⟩) j k;exact yx (i:=.ref f::us) (k:=.ref f::vs) F hr hb hd hx I2 (.cons rfl r) q2
theorem pE{r:ŀ}{k:Sp}{E:XK}{n:Sem Bool}(he:PE a h Ω)(c:ŧ a.K A)(p:Kc a.K A d e)(F:í a.prog a.w a.K a.mg a.base r b e Ä y k)(hr:Ü b a.A)(hb:ð a.K Ä y μ)(hd:Ï ι μ)(z:j9 r a E)(N:eval (.Call (.Attribute h d u) [] [] m) a.env=(do
 let o<-eval h a.env
 aaS u.atName let(e,first)<-XA [o] (aaT o d n)callWith m e first (UH m (k_ [] a.env)) (Wd m (Vo [] a.env))):=by rfl):PE a (.Call (.Attribute h d u) [] [] m) (KW A d k ι E Ω Sg):=by intro f' s v H Q I i;refine aax (pl:=n) (å (he f' s v H _ I i) λg s1⟨x,H1,j,w,f,dx,fs,ex,ea,l,q⟩=>?_) N;subst ex;obtain rfl:g=B_ f:=w;refine ow j ea c p l ?_;exact PySem.W.callWith_K0 (first:=[.ref f]) j.kIn p.kp (yx (i:=[.ref f]) (k:=[.ref f]) F hr hb hd z j (.cons rfl .nil) q)
structure Mk(K:d_)(C f:O):Prop where
 makes:ab9 K C=L
 init:Vt K (.ref C) "__init__"=Z (Z (.ref f))fn:Z8 K (.ref f)=L
 kp:Vk K (.ref C)=L
theorem BS{s:ŀ}{o:Sp}{E:XK}{j:List B}{n:List V}(M:Mk a.K A e)(F:í a.prog a.w a.K a.mg a.base s b e Ä y o)(hr:Ü (b+1) a.A)(hb:ð a.K Ä y μ)(hd:Ï ι μ)(N:j9 s a E)(I:Í a ζ Χ g f)(r:Ï n j)(h:∀x k,g x=U->g k=U->k≠x->o (.ref x::(n++ι)) (ß (ß g k (.own x)) x (.ins A k [])) (λv H2=>v=.non/\È (.ref x) H2) E):v_ (E_ a.prog a.w) a.A (call (.ref A) j) (EP a ζ Χ È) a.xe f:=by
 have q:=h (f.heap.objs.size+1) f.heap.objs.size (I.hok.fresh (ZB _)) (I.hok.fresh (on _)) (UI (ZY _));have m:=Í.made (e:=A) I;have p:Ï (V.ref (f.heap.objs.size+1)::(n++ι)) (B_ (f.heap.objs.size+1)::(j++μ)):=.cons rfl (r.append hd);have hl:(B_ (f.heap.objs.size+1)::j++μ).length=y.length:=by have d:=p.length;rw[F.len _ _ _ _ q]at d;exact d.symm
 refine abd (BR (A:=e) I.kIn M.makes M.init (beq_iff_eq.mp M.fn) (XB (F.run _ a.stack _ _ ⟨B_ (f.heap.objs.size+1)::j,[]⟩ (B_ (f.heap.objs.size+1)::(j++μ)) _ _ E (hr.make A j []) (m.env0.make A j []) (hb _ (B_ (f.heap.objs.size+1)::j) m.kIn hl) p q) λr w i=>?_));cases r with|error d=>exact N ζ Χ _ _ d w m i|ok fl=>cases fl with|ret u=>obtain⟨v,H',I3,z,ev,H⟩:=m.after i;subst ev;exact⟨z,⟨V.ref (f.heap.objs.size+1),H',I3,rfl,H⟩⟩|next=>exact U4 i|brk=>exact U4 i|cont=>exact U4 i
theorem Gx{n:ŀ}{j:Sp}{E:XK}{t:TA}(M:Mk a.K A e)(F:í a.prog a.w a.K a.mg a.base n b e Ä y j)(w:Ü (b+1) a.A)(N:Gl a d)(z:a.mg d=Z (.ref A))(hb:ð a.K Ä y μ)(hd:Ï ι μ)(p:j9 n a E)(ha:PA a (h::v) t)(i:(d==("__debug__":Str))=D:=by decide)(he:k_ (h::v) a.env=(D,eval h a.env)::k_ v a.env:=by rfl)(g:(UH u (k_ v a.env)).any (·.1)=D:=by rfl):PE a (.Call (.Name d m) (h::v) [] u) (PR A j ι E t):=by intro f' s o H Q I f;refine V5 (lf I N z ?_ i);refine Zj (h₀:=a.base) I.ok.mod.kin M.kp (å (ha u f' s o H _ I f) λus s1⟨vs,H1,k,r,q⟩=>⟨k.kIn,?_⟩) he g;exact BS M F w hb hd p k r q
structure iF(N P:List Str)(sc:VU):Prop where
 kind:sc.kind=.function
 co:sc.isCoroutine=D
 gen:sc.isGenerator=D
 nd:N.Nodup
 pre:N.take P.length=P
 par:∀x∈P,sc.names.lookup x=Z .local\/sc.names.lookup x=Z .cell
 nofree:∀y∈sc.names,y.2≠.free
theorem rm{a:Str->Option WU}{x:Str}:∀{binds:List (Str×B)}{m:Str->Option B},(∀v,(x,v)∉binds)->acm a binds m x=m x
 |[],_,_=>rfl|(n,v)::r,m,h=>by
  unfold acm;rw[rm λw b=>h w (rl _ b)];split
  · have:x≠n:=by rintro rfl;exact h v pi
    simp[this]
  ·rfl
theorem rn{a:Str->Option WU}{x:Str}:∀{binds:List (Str×B)}{m:Str->Option B},(∀v,(x,v)∉binds)->acn a binds m x=m x
 |[],_,_=>rfl|(n,v)::r,m,h=>by
  unfold acn;rw[rn λw b=>h w (rl _ b)];split;·rfl
  · have:x≠n:=by rintro rfl;exact h v pi
    simp[this]
theorem rp{a:Str->Option WU}{x:Str}{v:B}:∀{P:List Str}{b:List B}{i:Nat}{m:Str->Option B},P.Nodup->P[i]?=Z x->b[i]?=Z v->a x=Z .local->acm a (P.zip b) m x=Z v|[],_,_,_,_,h,_,_=>by simp at h|_::_,[],_,_,_,_,h,_=>by simp at h|p::P,w::b,0,m,f,e,d,g=>by simp at e d;subst e;subst d;show acm a ((p,w)::P.zip b) m p=_;unfold acm;rw[rm λv j=>(Vw.mp f).1 (aas j).1,if_pos g];simp|p::P,w::b,i+1,m,f,e,d,g=>by show acm a ((p,w)::P.zip b) m x=_;unfold acm;exact rp (i:=i) (Vw.mp f).2 (by simpa using e) (by simpa using d) g
theorem rq{a:Str->Option WU}{x:Str}{v:B}:∀{P:List Str}{b:List B}{i:Nat}{m:Str->Option B},P.Nodup->P[i]?=Z x->b[i]?=Z v->a x≠Z .local->acn a (P.zip b) m x=Z v|[],_,_,_,_,h,_,_=>by simp at h|_::_,[],_,_,_,_,h,_=>by simp at h|p::P,w::b,0,m,f,e,d,g=>by simp at e d;subst e;subst d;show acn a ((p,w)::P.zip b) m p=_;unfold acn;rw[rn λv j=>(Vw.mp f).1 (aas j).1,if_neg g];simp|p::P,w::b,i+1,m,f,e,d,g=>by show acn a ((p,w)::P.zip b) m x=_;unfold acn;exact rq (i:=i) (Vw.mp f).2 (by simpa using e) (by simpa using d) g
noncomputable def start(N:List Str)(a:List V):St:=a.map Z++u_ (N.length-a.length) U
noncomputable def pF(h:ŀ)(P:n_)(w:xy)(K:d_)(mg:Str->Option B)(base:N_)(N:List Str)(b:Str)(a:VU)(f:O)(g:B)(A:D_)(outer:List Env)(s:ge)(H:Hp)(E:XK):C where prog:=P;w:=w;K:=K;mg:=mg;base:=base;A:=A.deeper (Xc b a s.heap.objs.size f g);N:=N;s₀:=s;H₀:=H;env:=Xc b a s.heap.objs.size f g;outer:=outer;stack:=Xc b a s.heap.objs.size f g::outer;ex:=[];calm:=L;fn:=λ_=>L;pn:=[];xe:=λe i=>v_ (E_ P w) (A.deeper (Xc b a s.heap.objs.size f g)) (leaving (Xc b a s.heap.objs.size f g) e) (λ_ d=>h outer H s E e d) (λj d=>h outer H s E j d) i
variable{χ:VU}
theorem vo(h:χ.names.lookup d=Z .cell):∃c,(Vc b χ.names []).lookup d=Z c:=by have q:=Z9 χ.names b [] (.inl h);exact WP.mp q
theorem yy{CX:ŀ}{ps:List Str}{w:List Env}{s1:ge}{E:XK}(S:iF y ps χ)(hd:I.handled=U)(H:Ō r q s Ι N I w f g)(hl:ι.length=ps.length)(o:Ï ι μ)(x:InCallC f f.heap.objs.size (acm (Xc d χ f.heap.objs.size e Β).kindOf (ps.zip μ) λ_=>U) (Vc (f.heap.objs.size+1) χ.names []) (acn (Xc d χ f.heap.objs.size e Β).kindOf (ps.zip μ) λ_=>U) s1):Í (pF CX r q s Ι N y d χ e Β I w f g E) [] (start y ι) g s1:=by
 have c':ps.length<=y.length:=by have:=congrArg YR S.pre;rw[Z1]at this;omega
 obtain⟨h1,tk,rfl,hk⟩:=x.done;have a':∀b:O,b∉(pF CX r q s Ι N y d χ e Β I w f g E).ex:=λb z=>absurd (show b∈([]:List O)from z) (by simp);refine⟨⟨H.mod,S.kind,rfl,rfl,on _,λj z c h1 A=>?_,λj hy=>?_,λj c _ h=>?_,λ_=>hd,Around.frames_deeper H.frames,.inr ⟨rfl,rfl⟩,λb z=>absurd z (a' b),H.bs,H.bsz,λb _ _=>a' b,λb z=>absurd z (a' b),H.funs,H.frf⟩,rfl,H.bare,Un.kept hk,⟨_,x.toInCall.ns,λi j v h1 A h3=>?_⟩,λj c h=>⟨_,x.cell j c h⟩,H.hok.fresh (on _),λj c h=>?_,λp hp=>absurd (show p∈([]:List (O×Obj))from hp) (by simp),H.hok.kept hk,?_⟩;·exact name_of_addr x.apart (WQ h1) (WQ A)
 · have hy:χ.names.lookup j=Z .cell\/χ.names.lookup j=Z .free:=hy;rcases hy with hy|hy;·exact vo hy
   ·exact absurd rfl (S.nofree _ (WQ hy))
 ·exact Za (x.above j c (WQ h))
 · have hi:i<ι.length:=by
    unfold start at A;by_cases hi:i<ι.length;·exact hi
    ·rw[L_ (by simpa using hi)]at A;rw[W0]at A;split at A<;>cases A
   have ha:ι[i]?=Z v:=by unfold start at A;rw[M_ (by simpa using hi),P_]at A;cases m:ι[i]? with|none=>rw[m]at A;cases A|some a=>rw[m]at A;cases A;rfl
   obtain⟨u,hu,rv⟩:=o.get ha;have hp:ps[i]?=Z j:=by rw[<-S.pre,ZM (by omega)];exact h1
   have b':ps.Nodup:=by rw[<-S.pre];exact S.nd.sublist (List.take_sublist _ _)
   refine⟨u,rv,?_⟩;rcases S.par j (UG hp)with k|k;·exact .inl ⟨k,rp b' hp hu k⟩
   ·obtain⟨c,m⟩:=vo (b:=f.heap.objs.size+1) k;refine .inr ⟨.inl k,c,m,?_⟩;have n:=x.cell j c m;rw[rq b' hp hu (by show χ.names.lookup j≠_;rw[k];decide)]at n;exact n
 ·exact H.hok.fresh (Za (x.above j c (WQ h)))
 ·unfold start;show _=y.length;rw[UX,S_,VI];omega
theorem BU{CX:ŀ}{w:Arguments}{kV g' pm m ct oc:B}{an od:Option O}{h':Array (Option B)}{ps:List Str}{sp:Sp}(lk:s.lookup e=Z ⟨oc,od,.func (V8 d p w À χ Β kV g' pm an m ct),h'⟩)(k':Yi s m p=L)(S:iF y ps χ)(d':∀z H Q E,sp z H Q E->z.length=ps.length)(c':∀(A:D_)(k:List Env)(f:ge)(H:Hp)(z:List V)(Q:VK)(E:XK),Ü b (A.deeper (Xc p χ f.heap.objs.size e m))->sp z H Q E->∃t,Ľ (pF CX r q s Ι N y p χ e m A k f H E) À t/\t {nx:=λ_ H'=>Q .non H',rt:=Q} (start y z) H):í r q s Ι N CX (b+1) e (V8 d p w À χ Β kV g' pm an m ct) ps sp:=by
 refine⟨d',λA k f H l' us z Q E hr e0 hb j e'=>?_⟩;have hl:=d' _ _ _ _ e';have KX:s.In f.heap:=e0.mod.kin.keeps λi o g=>(e0.bs i o g).1;have i':f.heap.NoLimit:=e0.mod.nolimit.keeps λi o g=>(e0.bs i o g).1;have b':∀h∈ps.zip us,χ.names.lookup h.1=Z .local\/(χ.names.lookup h.1=Z .cell/\((Vc (f.heap.objs.size+1) χ.names []).lookup h.1).isSome=L):=λ⟨n,v⟩hy=>by
  rcases S.par n (aas hy).1 with a|a;·exact .inl a
  ·exact .inr ⟨a,Z9 _ _ _ (.inl a)⟩
 refine codeAny_call_function hr.depth (KX _ _ lk) rfl S.co S.gen rfl (PySem.W.codeRec_of KX k') (hb _ _ _ _ ?_);refine wpAny_newFunctionEnv_cells S.kind b' λm' he s1 x=>?_;subst he;refine⟨i'.keeps x.toInCall.keep,codeAny_func ?_⟩;obtain⟨t,ht,hq⟩:=c' A k f H z Q E (hr.deeper _) e';have I:Í (pF CX r q s Ι N y p χ e m A k f H E) [] (start y z) H s1:=yy S hr.hd e0 hl j x;refine U5 (ht [] s1 (start y z) H _ I hq) (λfl s' hs=>?_) λg s' hs=>hs;have f':∀{a':St}{H':Hp}{v:V}{u:B},Í (pF CX r q s Ι N y p χ e m A k f H E) [] a' H' s'->Ú v u->Q v H'->CE k r q H f Q u s':=λ{a' H' v u}J rv a=>⟨v,H',J.os,J.bare,J.base,J.hok,rv,a⟩;cases fl with|ret u=>obtain⟨v,a',H',J,rv,a⟩:=hs;exact f' J rv a|next=>obtain⟨a',H',J,a⟩:=hs;exact f' (v:=V.non) (u:=J_) J rfl a|brk=>obtain⟨_,_,_,a⟩:=hs;exact U4 a|cont=>obtain⟨_,_,_,a⟩:=hs;exact U4 a
def tCB(r:List V->Hp->VK->Prop)(t:TA):TE:=λa H Q=>t a H λb d=>r b d Q
theorem ka{t:TA}{i:String}{r:List V->Hp->VK->Prop}(N:mB a (.builtin i) r)(A:Gl a d)(z:a.mg d=U)(w:VN d=Z (.builtin i))(ha:PA a (h::v) t)(y:d≠"__name__":=by decide)(f:(d==("__debug__":Str))=D:=by decide)(E:k_ (h::v) a.env=(D,eval h a.env)::k_ v a.env:=by rfl)(e:(UH u (k_ v a.env)).any (·.1)=D:=by rfl):PE a (.Call (.Name d m) (h::v) [] u) (tCB r t):=by intro j s g H Q I b;refine V5 (jL I A z w ?_ y f);exact YG (å (ha u j s g H _ I b) λn o⟨k,H1,I1,p,q⟩=>N j o g H1 k n Q I1 p q) E e
theorem kc{t:TA}{T:String}{r:List V->Hp->VK->Prop}(E:mB a (.type T) r)(z:Gl a d)(y:a.mg d=U)(q:VN d=Z (.type T))(N:PA a (h::v) t)(w:d≠"__name__":=by decide)(f:(d==("__debug__":Str))=D:=by decide)(A:k_ (h::v) a.env=(D,eval h a.env)::k_ v a.env:=by rfl)(e:(UH u (k_ v a.env)).any (·.1)=D:=by rfl):PE a (.Call (.Name d m) (h::v) [] u) (tCB r t):=by intro i s g H Q I b;refine V5 (jL I z y q ?_ w f);exact Vz (å (N u i s g H _ I b) λk n⟨j,H1,I1,o,p⟩=>E i n g H1 j k Q I1 o p) A e
end L2
variable{ι:List L2.V}{μ:List B}{g:L2.Hp}{e A:O}{N:N_}{Α:L2.Hp}{ο:List O}{a:L2.C}{ζ:List (O×Obj)}{Å:List (Option L2.V)}{y:List Str}{Æ:Xq}{I:D_}{τ:B->ge->Prop}{d:Str}{ψ:L2.V}{Β:B}{m:Pos}{Χ:L2.St}{Ç:B->ge->Prop}{h:r_}{Ω:L2.TE}{w:r_}{v:List r_}{s:d_}{À:List U8}{Ε:U8}{k:Nat}{u:Pos}{n Á:Int}{E Ã:Bool}{p:Str}{È:L2.VK}{Ι:Str->Option B}{Ä:Vg}{χ:VU}
namespace HT
theorem cat_tup{b:List B}(E:acx f.heap e μ.toArray)(H:acx f.heap A b.toArray)(u:μ≠[])(h1:b=[]->Ç (.ref e) f)(N:b≠[]->Ç (.ref f.heap.objs.size) {f with heap:=f.heap.push {cls:=.type "tuple",data:=.seq (μ++b).toArray}})(o:μ.length+b.length<=sizeLine):v_ (E_ r q) I (V2 .Add (.ref e) (.ref A)) Ç τ f:=by
 obtain⟨⟨cls,y,data,p⟩,m,w,n,v⟩:=id E;obtain⟨⟨z,j,data2,g⟩,d,i,s,h⟩:=id H;simp only at w v i h;subst w v i h;have a:μ.toArray++b.toArray=(μ++b).toArray:=by simp
 by_cases k:b=[]
 ·exact abp ⟨_,m,rfl⟩ ⟨_,d,rfl⟩ ZQ aa8 Ym X7 (XS _ _) (tuple_addW1 e A μ.toArray b.toArray n s y j p g (by simpa using u) (by simp[k])) ⟨m,d,h1 k⟩
 ·refine abp ⟨_,m,rfl⟩ ⟨_,d,rfl⟩ ZQ aa8 Ym X7 (XS _ _) (tuple_addW2 e A μ.toArray b.toArray n s y j p g (by simpa using u) (by simpa using k) (by rw[F_,F_];exact o)) ⟨m,d,?_⟩;rw[a];exact N k
noncomputable def sIx(n d:Nat):Option Int->Nat|none=>d|some v=>if v<0 then(v+(n:Int)).toNat else min v.toNat n
theorem KY(n d:Nat)(b:d<=n)(o:Option Int):sIx n d o<=n:=by cases o with|none=>exact b|some v=>
 show(if v<0 then(v+(n:Int)).toNat else min v.toNat n)<=n;by_cases a:v<0;·rw[if_pos a];omega
 ·rw[if_neg a];exact Nat.min_le_right _ _
theorem yz(v:Int)(n d:Nat):(if v<0 then max (v+(n:Int)) 0 else min v (n:Int))=((sIx n d (Z v):Nat):Int):=by
 show(if v<0 then max (v+(n:Int)) 0 else min v (n:Int))=(((if v<0 then(v+(n:Int)).toNat else min v.toNat n):Nat):Int);by_cases a:v<0;·simp only[if_pos a];omega
 ·simp only[if_neg a];omega
theorem wR(a b:Option Int)(n:Nat):XN a b 1 (n:Int)=(((sIx n 0 a:Nat):Int),((sIx n n b:Nat):Int)):=by
 have d:¬((1:Int)<0):=by omega
 unfold XN;simp only[d,if_false];refine Prod.ext ?_ ?_;·cases a with|none=>rfl|some v=>exact yz v n 0
 ·cases b with|none=>rfl|some v=>exact yz v n n
theorem wS(i j:Nat):Ww (i:Int) (j:Int) 1=j-i:=by
 unfold Ww;have a:(1:Int)>0:=by omega
 simp only[a,if_true,Int.ediv_one];split<;>omega
variable{Ζ:Option Int}
theorem ox{Q:Option Int->ge->Prop}(p:Ż Β Ζ)(h:Q Ζ f):v_ (E_ r q) I (Builtin.Slice.slicePartIndex Β) Q τ f:=by cases p with|none=>exact slicePart_none h|int i t=>exact slicePart_int h
variable{Ν:Option Int}
theorem sliceApplied_gen{g:B}{Q:Int×Int×Nat->ge->Prop}(k:f.heap.IsSliceOf e Β g .none)(j:Ż Β Ζ)(i:Ż g Ν)(h:Q (((sIx b 0 Ζ:Nat):Int),1,sIx b b Ν-sIx b 0 Ζ) f):v_ (E_ r q) I (Zp (.ref e) (pure (b:Int))) Q τ f:=by obtain⟨os,a,m,d⟩:=id k;unfold Zp Builtin.Slice.sliceFields;refine e_ (e_ (Vy a d (x:=Β) rfl (e_ (Vy a d (x:=g) rfl (e_ (Vy a d (x:=.none) rfl (j_ ?_)))))));refine e_ (slicePart_none ?_);show v_ _ _ (if((1:Int)==0)=L then _ else _) _ _ f;rw[if_neg (by decide)];refine e_ (ox j (e_ (ox i (e_ (j_ ?_)))));show v_ _ _ (match XN Ζ Ν 1 (b:Int)with|(Ζ,Ν)=>pure (Ζ,(1:Int),Ww Ζ Ν 1)) _ _ f;rw[wR Ζ Ν b];show v_ _ _ (pure (((sIx b 0 Ζ:Nat):Int),(1:Int),Ww ((sIx b 0 Ζ:Nat):Int) ((sIx b b Ν:Nat):Int) 1)) _ _ f;rw[wS];exact j_ h
theorem BV(a:Array B)(i k:Nat):((t_ k).filterMap λ(m:Nat)=>a[((i:Int)+(m:Int)*1).toNat]?).toArray=((a.toList.drop i).take k).toArray:=by
 have e:(λ(m:Nat)=>a[((i:Int)+(m:Int)*1).toNat]?)=λm=>a[i+m]?:=by
  funext m;have:((i:Int)+(m:Int)*1).toNat=i+m:=by omega
  rw[this]
 rw[e];have:=pick_run a i k;rw[Zu]at this;have b:((λx=>a[x]?)∘λx=>i+x)=λm=>a[i+m]?:=rfl;rw[b]at this;rw[this]
theorem getItem_tuple_cut{b:Array B}{n:B}(g:acx f.heap e b)(o:f.heap.IsSliceOf A Β n .none)(s:Ż Β Ζ)(p:Ż n Ν)(u:¬(sIx b.size 0 Ζ=0/\sIx b.size b.size Ν=b.size))(h:Ç (.ref f.heap.objs.size) {f with heap:=f.heap.push {cls:=.type "tuple",data:=.seq ((b.toList.drop (sIx b.size 0 Ζ)).take (sIx b.size b.size Ν-sIx b.size 0 Ζ)).toArray}})(v:b.size<=sizeLine):v_ (E_ r q) I (Z7 (.ref e) (.ref A)) Ç τ f:=by
 have d:sizeOk (.seq ((b.toList.drop (sIx b.size 0 Ζ)).take (sIx b.size b.size Ν-sIx b.size 0 Ζ)).toArray):=by show((b.toList.drop (sIx b.size 0 Ζ)).take (sIx b.size b.size Ν-sIx b.size 0 Ζ)).toArray.size<=sizeLine;rw[F_,Z1,YH,Ve];omega
 have E:sIx b.size b.size Ν<=b.size:=KY _ _ (on _) Ν;obtain⟨os,i,k,w⟩:=id o;have m:f.TypeIs (.ref A) "slice":=⟨os,i,k⟩;unfold Z7;try with_reducible refine Vm ?_
 first|refine e_ (j_ ?_)|skip
 refine e_ (wpAny_sequenceKey g.typeIs (by decide) ?_);refine e_ (Vj (name:=b_ "__getitem__") g.typeIs Vh (VD Vh g.typeIs entry_tuple_getitem ?_ (args_tuple_getitem _ _)));show v_ _ _ (Zo (.ref e)>>=_) _ _ f;refine e_ (tupleItemsOf_ g ?_);refine e_ (Yc m ?_);rw[if_pos (by decide)];refine e_ (sliceApplied_gen o s p ?_);have j:¬((((sIx b.size 0 Ζ:Nat):Int)==0&&(1:Int)==1&&(sIx b.size b.size Ν-sIx b.size 0 Ζ)==b.size)=L):=by intro a;rw[m_,m_]at a;have z:((sIx b.size 0 Ζ:Nat):Int)=0:=YI a.1.1;have y:sIx b.size b.size Ν-sIx b.size 0 Ζ=b.size:=YI a.2;exact u ⟨by omega,by omega⟩
 show v_ _ _ (if(((sIx b.size 0 Ζ:Nat):Int)==0&&(1:Int)==1&&(sIx b.size b.size Ν-sIx b.size 0 Ζ)==b.size)=L then _ else _) _ _ f;rw[if_neg j,BV];first|exact e_ (m:=WO _) (Vl (j_ ⟨_,rfl,j_ h⟩) d)|exact e_ (m:=WO _) (Vl (e_ (j_ (j_ ⟨_,rfl,j_ h⟩))) d)|exact e_ (e_ (m:=WO _) (Vl (j_ (j_ ⟨_,rfl,j_ h⟩)) d))|exact e_ (e_ (m:=WO _) (Vl (j_ ⟨_,rfl,j_ h⟩) d))
end HT
variable{Ζ Ν:Option Int}
namespace L2
abbrev TO:=St->Hp->(Option Int->Hp->Prop)->Prop
def PO(X:C)(e:Option r_)(t:TO):Prop:=∀(b:List (O×Obj))(s:ge)(a:St)(H:Hp)(Q:Option Int->Hp->Prop),Í X b a H s->t a H Q->v_ (E_ X.prog X.w) X.A (evalPart e X.env) (λu f=>∃o d,Í X b a d f/\Ż u o/\Q o d) X.xe s
noncomputable def Gy:TO:=λ_ H Q=>Q U H
noncomputable def PU(t:TE):TO:=λa H Q=>t a H λx b=>∃i,x=.int i/\Q (Z i) b
theorem Gz:PO a U Gy:=by intro d s b H Q I h;rw[evalPart_none];exact j_ ⟨U,H,I,.none,h⟩
theorem GA(b:PE a h Ω):PO a (Z h) (PU Ω):=by intro j s d H Q I g;rw[evalPart_some];refine å (b j s d H _ I g) λu n⟨x,m,k,e,f⟩=>?_;obtain⟨i,rfl,q⟩:=f;obtain⟨t,rfl⟩:=e;exact⟨Z i,m,k,.int i t,q⟩
def ź(X:C)(r:V->Option Int->Option Int->Hp->VK->Prop):Prop:=∀(g:List (O×Obj))(s:ge)(a:St)(H:Hp)(x:V)(v d b:B)(lo f:Option Int)(e:O)(Q:VK),Í X g a H s->Ú x v->s.heap.IsSliceOf e d b .none->Ż d lo->Ż b f->r x lo f H Q->∃T id,typeLookup (.type T) "__getitem__"=pure (Z (.builtin id))/\s.TypeIs v T/\v_ (E_ X.prog X.w) X.A (Z7 v (.ref e)) (EP X g a Q) X.xe s
theorem ź.or{r j:V->Option Int->Option Int->Hp->VK->Prop}(h:ź a r)(o:ź a j):ź a (λx lo b H Q=>r x lo b H Q\/j x lo b H Q):=by
 intro n s d H x v f e lo b g Q I i m pl k q;rcases q with q|q;·exact h n s d H x v f e lo b g Q I i m pl k q
 ·exact o n s d H x v f e lo b g Q I i m pl k q
def tSl(r:V->Option Int->Option Int->Hp->VK->Prop)(e:TE)(b d:TO):TE:=λa H Q=>e a H λx h=>b a h λl g=>d a g λu f=>r x l u f Q
theorem vp{n o:Option r_}{p w:TO}{r:V->Option Int->Option Int->Hp->VK->Prop}(hr:ź a r)(he:PE a h Ω)(hl:PO a n p)(hu:PO a o w):PE a (.Subscript h (.Slice n o U u) m) (tSl r Ω p w):=by intro i s g H Q I e;refine Subscript_ (å (he i s g H _ I e) λv A⟨x,H1,I1,E,q1⟩=>?_);refine wpAny_Slice (å (hl i A g H1 _ I1 q1) λk z⟨l,H2,I2,pl,q2⟩=>å (hu i z g H2 _ I2 q2) λj f⟨d,y,I3,pu,N⟩=>?_);rw[evalPart_none];refine j_ ?_;have I4:Í a i g y {f with heap:=f.heap.push {cls:=.type "slice",data:=.fields #[k,j,.none]}}:=I3.kept (t':=f.toks) λb ob q=>l_ _ q;obtain⟨T,id,hT,ht,hg⟩:=hr i {f with heap:=f.heap.push {cls:=.type "slice",data:=.fields #[k,j,.none]}} g y x v k j l d f.heap.objs.size Q I4 E (Heap.IsSliceOf.new ..) pl pu N;show v_ (E_ a.prog a.w) a.A (subscriptTail h (.Slice n o U u) v (.ref f.heap.objs.size)) (EP a i g Q) a.xe {f with heap:=f.heap.push {cls:=.type "slice",data:=.fields #[k,j,.none]}};exact tail_any (ops:=[.ref f.heap.objs.size,v]) ht hT hg (by with_unfolding_all rfl)
def BW(a:List V)(b d:Option Int):List V:=(a.drop (HT.sIx a.length 0 b)).take (HT.sIx a.length a.length d-HT.sIx a.length 0 b)
theorem mF(a:List V)(b d:Option Int):(BW a b d).length<=a.length:=by unfold BW;rw[Z1,YH];omega
def Tq(K:d_):V->Option Int->Option Int->Hp->VK->Prop:=λx lo d H Q=>∃a b,x=.ref a/\ô K H a b/\¬(HT.sIx b.length 0 lo=0/\HT.sIx b.length b.length d=b.length)/\∀p,H p=U->Q (.ref p) (ß H p (.tup (BW b lo d)))
theorem sl_tup:ź a (Tq a.K):=by
 intro N s w H x v z y lo g A Q I m u pl n h;obtain⟨d,f,rfl,o,p,q⟩:=h;cases m;obtain⟨i,r,k,j⟩:=I.tuple o;have e:i.toArray.size=f.length:=by rw[F_];exact r.length.symm
 refine⟨"tuple",_,Vh.lookup,k.typeIs,?_⟩;refine HT.getItem_tuple_cut k u pl n (by rw[e];exact p) ?_ (by rw[e];exact j);rw[e];refine⟨.ref s.heap.objs.size,_,I.laid (t':=s.toks) (o:=.tup (BW f lo g)) (λb E q=>l_ _ q) (on _) ?_,rfl,q _ (I.hok.fresh (on _))⟩;exact⟨UD (mF f lo g) j,_,(r.drop (HT.sIx f.length 0 lo)).take (HT.sIx f.length f.length g-HT.sIx f.length 0 lo),acF _ _⟩
def KZ(K:d_):R2:=λx y H Q=>∃a b e d,x=.ref a/\y=.ref b/\ô K H a e/\ô K H b d/\e≠[]/\e.length+d.length<=sizeLine/\(d=[]->Q (.ref a) H)/\(d≠[]->∀p,H p=U->Q (.ref p) (ß H p (.tup (e++d))))
theorem Ï.nil_iff(r:Ï ι μ):μ=[]↔ι=[]:=by cases r with|nil=>simp|cons _ _=>simp
theorem op_catT:ù a (V2 .Add) (KZ a.K):=by intro f' s σ H x y v u Q I n m h;obtain⟨d,b,k,j,rfl,rfl,ha,N,E,g,p,o⟩:=h;cases n;cases m;obtain⟨a',f,A,_⟩:=I.tuple ha;obtain⟨i,e,r,_⟩:=I.tuple N;refine HT.cat_tup A r (λz=>E (f.nil_iff.mp z)) (λz=>⟨.ref d,H,I,rfl,p (e.nil_iff.mp z)⟩) (λz=>?_) (by rw[<-f.length,<-e.length];exact g);refine⟨.ref s.heap.objs.size,_,I.laid (t':=s.toks) (o:=.tup (k++j)) (λb ob q=>l_ _ q) (on _) ?_,rfl,o (λw=>z (e.nil_iff.mpr w)) _ (I.hok.fresh (on _))⟩;exact⟨by rw[UX];exact g,_,f.append e,acF _ _⟩
noncomputable def ž(n:Nat)(i:Int):Option Nat:=if 0<=i then(if i<n then Z i.toNat else U)else if-(n:Int)<=i then Z (i+n).toNat else U
def W'(a:List δ)(i:Int):Option δ:=(ž a.length i).bind λj=>a[j]?
theorem yA(h:ž b n=Z k):seqIndex? n b=Z k/\k<b/\-(b:Int)<=n/\n<b:=by
 unfold ž at h;by_cases d:0<=n
 · rw[if_pos d]at h;by_cases a:n<b;·rw[if_pos a]at h;have e:n.toNat=k:=UL h;exact⟨by rw[ab5 d a,e],by omega,by omega,a⟩
   ·rw[if_neg a]at h;cases h
 · rw[if_neg d]at h;by_cases a:-(b:Int)<=n;·rw[if_pos a]at h;have e:(n+b).toNat=k:=UL h;exact⟨by rw[seqIndex_neg (by omega) a,e],by omega,a,by omega⟩
   ·rw[if_neg a]at h;cases h
theorem ue{a:List δ}(h:W' a n=Z Ë):∃j,seqIndex? n a.length=Z j/\a[j]?=Z Ë/\j<a.length/\-(a.length:Int)<=n/\n<a.length:=by unfold W' at h;cases e:ž a.length n with|none=>rw[e]at h;cases h|some j=>rw[e]at h;obtain⟨g,f,d,b⟩:=yA e;exact⟨j,g,h,f,d,b⟩
def yB(b:r_):Prop:=∀o i,ab3 b D o i=operate [o,i] (Z7 o i)
def Ŷ(X:C)(r:R2):Prop:=∀(b a:r_)(e:List (O×Obj))(s:ge)(d:St)(H:Hp)(x y:V)(v u:B)(Q:VK),Í X e d H s->Ú x v->Ú y u->r x y H Q->ab3 a D v u=operate [v,u] (Z7 v u)->v_ (E_ X.prog X.w) X.A (subscriptTail b a v u) (EP X e d Q) X.xe s
def Ŗ(X:C)(f:String)(r:V->List V->Hp->VK->Prop):Prop:=∀(e:List (O×Obj))(s:ge)(a:St)(H:Hp)(x:V)(b:List V)(v:B)(d:List B)(Q:VK),Í X e a H s->Ú x v->Ï b d->r x b H Q->v_ (E_ X.prog X.w) X.A (call (.builtin f) (v::d)) (EP X e a Q) X.xe s
theorem Ŷ.or{r i:R2}(h:Ŷ a r)(m:Ŷ a i):Ŷ a (λx y H Q=>r x y H Q\/i x y H Q):=by
 intro b d k s e H x y v u Q I g f q j;rcases q with q|q;·exact h b d k s e H x y v u Q I g f q j
 ·exact m b d k s e H x y v u Q I g f q j
theorem PV{d:TE}{r:R2}(k:Ŷ a r)(o:PE a h Ω)(n:PE a w d)(j:yB w):PE a (.Subscript h w m) (KE r Ω d):=by intro p s e H Q I b;exact Subscript_ (PF o n I b λv u f x y A z i g q=>k h w p f e A x y v u Q z i g q (j _ _))
def Sh(K:d_):R2:=λx y H Q=>∃p a i v,x=.ref p/\y=.int i/\ā K H p a/\W' a i=Z v/\Q v H
def Si(K:d_):R2:=λx y H Q=>∃p a i v,x=.ref p/\y=.int i/\ô K H p a/\W' a i=Z v/\Q v H
def Sj:R2:=λx y H Q=>∃z i c,x=.str z/\y=.int i/\z.length<=sizeLine/\W' z.cps.toList i=Z c/\Q (.str ⟨#[c]⟩) H
theorem ix_list:Ŷ a (Sh a.K):=by
 intro k m E s n H x y v u Q I rx ry h o;obtain⟨p,xs,i,z,rfl,rfl,hq,he,q⟩:=h;cases rx;obtain⟨t,rfl⟩:=ry;obtain⟨g,r,pl,hz⟩:=I.list hq;obtain⟨j,d,h2,h3,h4,h5⟩:=ue he;obtain⟨w,N,f⟩:=r.get h2;have hl:=r.length;have hn:=rj;have b:EP a E n Q w s:=⟨z,H,I,f,q⟩;by_cases A:0<=i
 · have e:i.toNat=j:=by rw[ab5 A h5]at d;exact UL d
   exact item_listR pl.isList A (by omega) (by rw[e];simpa using N) b o
 · have e:(i+(g.toArray.size:Int)).toNat=j:=by rw[seqIndex_neg (by omega) h4]at d;rw[F_,<-hl];exact UL d
   exact aaf (x:=w) pl.isList.typeIs slot_list_getitem.lookup (wpAny_getItem_list_neg (Q:=λr s'=>r=w/\EP a E n Q r s') pl.isList (by omega) (by rw[F_]<;>omega) (by omega) (by rw[e];simpa using N) ⟨rfl,b⟩) o
theorem ix_tup:Ŷ a (Si a.K):=by intro e f k s g H x y v u Q I o n h A;obtain⟨p,xs,i,z,rfl,rfl,E,he,q⟩:=h;cases o;obtain⟨t,rfl⟩:=n;obtain⟨a',r,pl,hz⟩:=I.tuple E;obtain⟨j,h1,h2,h3,h4,h5⟩:=ue he;obtain⟨w,ew,b⟩:=r.get h2;have N:=r.length;have hn:=rj;have d:EP a k g Q w s:=⟨z,H,I,b,q⟩;exact aaf (x:=w) pl.typeIs slot_tuple_getitem.lookup (getItem_tuple (j:=j) (Q:=λr m=>r=w/\EP a k g Q r m) pl (by omega) (by omega) (by rw[F_,<-N];exact h1) (by simpa using ew) ⟨rfl,d⟩) A
theorem K0:Ŷ a Sj:=by
 intro b d f' s E H x y v u Q I g f h k;obtain⟨z,i,c,rfl,rfl,hz,n,q⟩:=h;obtain⟨t,rfl⟩:=g;obtain⟨N,rfl⟩:=f;obtain⟨j,e,r,h3,p,o⟩:=ue n;have m:z.cps.toList.length=z.length:=by simp[Zl]
 rw[m]at e p o;have hn:=rj;exact tail_any (X0 s z t) slot_str_getitem.lookup (getItem_str (c:=c) (by have A:s_ (i< -(2^63:Int))=D:=decide_eq_false (by omega);have w:s_ (i>=2^63)=D:=decide_eq_false (by omega);rw[A,w,abc]) (by rw[e];simpa using r) ⟨.str ⟨#[c]⟩,H,I.tok _,⟨_,rfl⟩,q⟩) k
def rIx(K:d_):R2:=λx y H Q=>Sh K x y H Q\/Si K x y H Q\/Sj x y H Q
theorem K1:Ŷ a (rIx a.K):=ix_list.or (ix_tup.or K0)
theorem wT(a:List B)(n j:Nat)(u:B):U1 (·.setIfInBounds j u) {cls:=.type "list",data:=.seq a.toArray n}={cls:=.type "list",data:=.seq (a.set j u).toArray n}:=by simp[U1]
theorem Í.lst(I:Í a ζ Χ g f)(h:g e=Z (.lst ι)):∃(d:List B)(n:Nat),Ï ι d/\f.heap.get? e=Z {cls:=.type "list",data:=.seq d.toArray n}/\ι.length<=sizeLine:=by obtain⟨z,d,n,r,b⟩:=I.hok e _ h;exact⟨d,n,r,b,z⟩
theorem Í.lstUpd{n:List V}{m:List B}{d:Obj->Obj}(I:Í a ζ Χ g f)(h:g e=Z (.lst ι))(s:f.heap.get? e=Z {cls:=.type "list",data:=.seq μ.toArray b})(o:d {cls:=.type "list",data:=.seq μ.toArray b}={cls:=.type "list",data:=.seq m.toArray k})(r:Ï n m)(p:n.length<=sizeLine)(t:Nat):Í a ζ Χ (ß g e (.lst n)) {f with heap:=f.heap.update e d,toks:=t}:=by
 have i:(f.heap.update e d).get? e=Z {cls:=.type "list",data:=.seq m.toArray k}:=by rw[V3 d s (by rw[o]<;>rfl),o]
 refine I.write (x:=e) (e:=e) (by rw[h];trivial) (.inl rfl) (λj u v q=>(Yl _ _ (UK v)).trans q) ⟨_,i⟩ ?_;exact⟨p,m,k,r,i⟩
def PX:V->V->V->Hp->(Hp->Prop)->Prop:=λo i v H Q=>∃p a k j,o=.ref p/\i=.int k/\H p=Z (.lst a)/\ž a.length k=Z j/\Q (ß H p (.lst (a.set j v)))
theorem BX:Sa a PX:=by
 intro f' s E H o i v ov iv u Q I ro ri rv h;obtain⟨p,N,k,j,rfl,rfl,m,hj,q⟩:=h;cases ro;obtain⟨t,rfl⟩:=ri;obtain⟨b,n,r,e,hz⟩:=I.lst m;obtain⟨d,h2,y,w⟩:=yA hj;have f:=r.length;have hn:=rj;have A:Í a f' E (ß H p (.lst (N.set j v))) {s with heap:=s.heap.update p (U1 (·.setIfInBounds j u))}:=I.lstUpd m e (wT b n j u) (r.set rv j) (by rw[UM];exact hz) s.toks;by_cases z:0<=k
 · have g:k.toNat=j:=by rw[ab5 z w]at d;exact UL d
   exact PySem.W.ki_setAt e z (by omega) (by rw[F_,<-f];exact w) (by rw[g];exact⟨_,A,q⟩)
 · have g:(k+(b.toArray.size:Int)).toNat=j:=by rw[seqIndex_neg (by omega) y]at d;rw[F_,<-f];exact UL d
   exact PySem.W.ki_setBack e (by omega) (by rw[F_,<-f];exact y) (by omega) (by rw[g];exact⟨_,A,q⟩)
theorem rA(a b:Option Int)(n:Nat):(X5 a b U n).1=((HT.sIx n 0 a:Nat):Int)/\(X5 a b U n).2.1=((HT.sIx n n b:Nat):Int)/\(X5 a b U n).2.2=1:=by
 refine⟨?_,?_,rfl⟩;·cases a with|none=>simp[X5,HT.sIx]|some i=>
  simp only[X5,HT.sIx,abW,show(1:Int)>0 by decide,if_true];by_cases h:i<0;·simp only[h,if_true]<;>omega
  ·simp only[h,if_false]<;>omega
 ·cases b with|none=>simp[X5,HT.sIx]|some i=>
  simp only[X5,HT.sIx,abW,show(1:Int)>0 by decide,if_true];by_cases h:i<0;·simp only[h,if_true]<;>omega
  ·simp only[h,if_false]<;>omega
theorem pG(a:List B)(b d:Option Int):slicePick a.toArray b d U=((a.drop (HT.sIx a.length 0 b)).take (HT.sIx a.length a.length d-HT.sIx a.length 0 b)).toArray:=by obtain⟨g,f,e⟩:=rA b d a.toArray.size;unfold slicePick;rw[g,f,e];simp only[sliceRange_one,pick_run,F_]<;>rfl
def Tr(K:d_):V->Option Int->Option Int->Hp->VK->Prop:=λx lo d H Q=>∃a b,x=.ref a/\ā K H a b/\∀p,H p=U->Q (.ref p) (ß H p (.lst (BW b lo d)))
theorem yC:ź a (Tr a.K):=by intro E s u H x v y w lo g z Q I j o pl k h;obtain⟨d,e,rfl,n,q⟩:=h;cases j;obtain⟨p,r,i,m⟩:=I.list n;have f:=r.length;refine⟨"list",_,slot_list_getitem.lookup,i.isList.typeIs,?_⟩;refine wpAny_getItem_list_slice i.isList o pl k .none (by simp) ?_ (by rw[F_]<;>omega);rw[pG,<-f];refine⟨.ref s.heap.objs.size,_,I.laid (t':=s.toks) (o:=.lst (BW e lo g)) (λb A q=>l_ _ q) (on _) ?_,rfl,q _ (I.hok.fresh (on _))⟩;exact⟨UD (mF e lo g) m,_,0,(r.drop (HT.sIx e.length 0 lo)).take (HT.sIx e.length e.length g-HT.sIx e.length 0 lo),w_ _ rfl⟩
noncomputable def jR:V->Bool|.non=>L|.bl _=>L|.int _=>L|.str _=>L|_=>D
noncomputable def Ŋ:V->V->Bool|.non,.non=>L|.bl a,.bl b=>a==b|.bl a,.int b=>(if a then 1 else 0)==b|.int a,.bl b=>a==(if b then 1 else 0)|.int a,.int b=>a==b|.str a,.str b=>a==b|_,_=>D
theorem K2{x:V}{v:B}(g:Ú ψ Β)(d:Ú x v)(i:jR ψ=L)(h:jR x=L):SeqAt.EqAt I f Β v (Ŋ ψ x):=by cases ψ with
 |non=>cases g;cases x with|non=>cases d;exact SeqAt.EqAt.same _|bl b=>cases d;exact SeqAt.EqAt.none_bool b|int b=>obtain⟨t,rfl⟩:=d;exact SeqAt.EqAt.none_int b t|str b=>obtain⟨t,rfl⟩:=d;exact SeqAt.EqAt.none_str b t|_=>exact absurd (show D=L from h) y_
 |bl a=>cases g;cases x with|non=>cases d;exact SeqAt.EqAt.bool_none a|bl b=>cases d;exact aaH a b|int b=>obtain⟨t,rfl⟩:=d;exact SeqAt.EqAt.bool_int a b t|str b=>obtain⟨t,rfl⟩:=d;exact SeqAt.EqAt.bool_str a b t|_=>exact absurd (show D=L from h) y_
 |int a=>obtain⟨e,rfl⟩:=g;cases x with|non=>cases d;exact SeqAt.EqAt.int_none a e|bl b=>cases d;exact SeqAt.EqAt.int_bool a e b|int b=>obtain⟨t,rfl⟩:=d;exact SeqAt.EqAt.int_int a e b t|str b=>obtain⟨t,rfl⟩:=d;exact abg a e b t|_=>exact absurd (show D=L from h) y_
 |str a=>obtain⟨e,rfl⟩:=g;cases x with|non=>cases d;exact SeqAt.EqAt.str_none a e|bl b=>cases d;exact SeqAt.EqAt.str_bool a e b|int b=>obtain⟨t,rfl⟩:=d;exact abf a e b t|str b=>obtain⟨t,rfl⟩:=d;exact SeqAt.EqAt.str_str a e b t|_=>exact absurd (show D=L from h) y_
 |_=>exact absurd (show D=L from i) y_
def Ń(x:V)(u:B):Bool:=match u with|.none=>Ŋ .non x|.bool b=>Ŋ (.bl b) x|.int i _=>Ŋ (.int i) x|.str z _=>Ŋ (.str z) x|_=>D
theorem yD{y:V}(r:Ú y Β)(f:jR y=L):Ń ψ Β=Ŋ y ψ:=by cases y with|non=>cases r;rfl|bl b=>cases r;rfl|int i=>obtain⟨t,rfl⟩:=r;rfl|str z=>obtain⟨t,rfl⟩:=r;rfl|_=>exact absurd (show D=L from f) y_
theorem mG{x:V}:∀{a:List V}{b:List B},Ï a b->a.all jR=L->b.any (Ń x)=a.any λy=>Ŋ y x|_,_,.nil,_=>rfl|y::a,u::b,.cons r t,f=>by rw[Wa,m_]at f;rw[V_,V_,yD r f.1,mG t f.2]
theorem jx{A:D_}{s:ge}{x:V}{v:B}(e:Ú x v)(g:jR x=L):∀{b:List V}{d:List B},Ï b d->b.all jR=L->∀u∈d,SeqAt.EqAt A s u v (Ń x u)
 |_,_,.nil,_=>λu a=>by cases a|y::b,u::d,.cons r t,f=>λh a=>by
  rw[Wa,m_]at f;rcases uk.mp a with rfl|a;·rw[yD r f.1];exact K2 r e f.1 g
  ·exact jx e g t f.2 h a
def inV(x:V)(a:List V):Bool:=a.any λy=>Ŋ y x
def rIn(K:d_)(b:Bool):R2:=λx y H Q=>∃p a,y=.ref p/\(ā K H p a\/ô K H p a)/\jR x=L/\a.all jR=L/\Q (.bl (if b then !inV x a else inV x a)) H
theorem yE:ù a (UN .In) (rIn a.K D):=by
 intro n s k H x y v u Q I f i h;obtain⟨p,m,rfl,d,g,fs,q⟩:=h;cases i;rcases d with d|d;·obtain⟨b,r,pl,j⟩:=I.list d;refine SeqAt.in_listAt (Ń x) pl.isList (λw e=>jx f g r fs w (by simpa using e)) ⟨.bl _,H,I,rfl,?_⟩;rw[show b.toArray.any (Ń x)=b.any (Ń x)by simp,mG r fs];exact q
 ·obtain⟨b,r,pl,j⟩:=I.tuple d;refine SeqAt.in_tupleAt (Ń x) pl (λw e=>jx f g r fs w (by simpa using e)) ⟨.bl _,H,I,rfl,?_⟩;rw[show b.toArray.any (Ń x)=b.any (Ń x)by simp,mG r fs];exact q
theorem rB:ù a (UN .NotIn) (rIn a.K L):=by
 intro n s k H x y v u Q I f i h;obtain⟨p,m,rfl,d,g,fs,q⟩:=h;cases i;rcases d with d|d;·obtain⟨b,r,pl,j⟩:=I.list d;refine SeqAt.notIn_listAt (Ń x) pl.isList (λw e=>jx f g r fs w (by simpa using e)) ⟨.bl _,H,I,rfl,?_⟩;rw[show b.toArray.any (Ń x)=b.any (Ń x)by simp,mG r fs];exact q
 ·obtain⟨b,r,pl,j⟩:=I.tuple d;refine SeqAt.notIn_tupleAt (Ń x) pl (λw e=>jx f g r fs w (by simpa using e)) ⟨.bl _,H,I,rfl,?_⟩;rw[show b.toArray.any (Ń x)=b.any (Ń x)by simp,mG r fs];exact q
theorem op_notIn_str:ù a (UN .NotIn) (λx y H Q=>∃i j,x=.str i/\y=.str j/\Q (.bl (!(!(UU j i 0 j.length 1).isEmpty))) H):=by intro g s e H x y v u Q I d b h;obtain⟨i,j,rfl,rfl,q⟩:=h;obtain⟨t,rfl⟩:=d;obtain⟨f,rfl⟩:=b;exact notIn_str ⟨.bl _,H,I,rfl,q⟩
theorem rD:mB a (.type "list") (λN H Q=>∃p g,N=[.ref p]/\(ā a.K H p g\/ô a.K H p g)/\∀l,H l=U->Q (.ref l) (ß H l (.lst g))):=by
 intro f' s σ H N us Q I r h;obtain⟨p,g,rfl,v,q⟩:=h;obtain⟨u,rfl,rx⟩:=iE r;cases rx;have w:∀(d:List B),Ï g d->g.length<=sizeLine->∀(f:N_)(j:Nat),(∀b o',s.heap.get? b=Z o'->f.get? b=Z o')->f.get? s.heap.objs.size=Z {cls:=.type "list",dict:=U,data:=.seq d.toArray j,slots:=#[]}->EP a f' σ Q (.ref s.heap.objs.size) {s with heap:=f}:=λd i m f j k e=>⟨.ref s.heap.objs.size,_,I.laid (t':=s.toks) k (on _) (show ã a.prog a.w _ f _ (.lst g)from⟨m,d,j,i,e⟩),rfl,q _ (I.hok.fresh (on _))⟩;rcases v with v|v;·obtain⟨d,i,pl,m⟩:=I.list v;have y:=i.length;obtain⟨o,z,E,n,A⟩:=pl.isList;exact call_list_seq p (.inl rfl) z E A (λf j k e=>w d i m f j k e) (by simp only[F_]<;>omega)
 ·obtain⟨d,i,pl,m⟩:=I.tuple v;have y:=i.length;obtain⟨o,z,E,n,A⟩:=pl;exact call_list_seq p (.inr rfl) z E A (λf j k e=>w d i m f j k e) (by simp only[F_]<;>omega)
theorem pH:mB a (.type "tuple") (λm H Q=>∃p f,m=[.ref p]/\((ā a.K H p f/\∀l,H l=U->Q (.ref l) (ß H l (.tup f)))\/(ô a.K H p f/\Q (.ref p) H))):=by
 intro v s k H m N Q I r h;obtain⟨p,f,rfl,h⟩:=h;obtain⟨u,rfl,z⟩:=iE r;cases z;rcases h with⟨j,q⟩|⟨j,q⟩
 ·obtain⟨d,i,pl,n⟩:=I.list j;have y:=i.length;refine call_tuple_list pl.isList (λg A=>?_) (by simp only[F_]<;>omega);have w:Í a v k H {s with heap:=g}:=I.kept (t':=s.toks) A;have E:Í a v k (ß H g.objs.size (.tup f)) {s with heap:=g.push {cls:=.type "tuple",data:=.seq d.toArray}}:=w.laid (t':=s.toks) (λb o e=>l_ _ e) (on _) (show ã a.prog a.w _ _ _ (.tup f)from⟨n,d,i,acF _ _⟩);exact⟨.ref g.objs.size,_,E,rfl,q _ (w.hok.fresh (on _))⟩
 ·obtain⟨d,i,pl,n⟩:=I.tuple j;exact call_tuple_same pl ⟨.ref p,H,I,rfl,q⟩
def tyV(K:d_)(T:String)(x:V)(H:Hp):Prop:=match x with|.str _=>T="str"|.int _=>T="int"|.ref p=>(T="list"/\∃b,ā K H p b)\/(T="tuple"/\∃o,K.lookup p=Z o/\o.cls=.type "tuple"/\o.dict=U)\/(T="dict"/\((∃a,H p=Z (.dK a))\/∃a,H p=Z (.dT a)))\/(T="set"/\∃S n,H p=Z (.set S n))|_=>False
theorem EE{T:String}(I:Í a ζ Χ g f)(r:Ú ψ Β)(j:tyV a.K T ψ g):f.TypeIs Β T/\∀b,Β=.ref b->∃s,f.heap.get? b=Z s/\s.dict=U:=by cases ψ with
 |str z=>obtain⟨t,rfl⟩:=r;cases(show T="str"from j);exact⟨X0 f z t,λ_ e=>nomatch e⟩|int i=>obtain⟨t,rfl⟩:=r;cases(show T="int"from j);exact⟨abe f i t,λ_ e=>nomatch e⟩|ref p=>
 cases r;rcases j with⟨rfl,y,u⟩|⟨rfl,o,d,v,k⟩|⟨rfl,d⟩|⟨rfl,S,n,d⟩;·obtain⟨w,_,pl,_⟩:=I.list u;refine⟨pl.isList.typeIs,λb e=>?_⟩;cases e;obtain⟨o,n,e,c,k,_⟩:=pl;exact⟨o,e,k⟩
 ·refine⟨⟨o,I.kIn p o d,v⟩,λb e=>?_⟩;cases e;exact⟨o,I.kIn _ o d,k⟩
 · have z:∃o,f.heap.get? p=Z o/\o.ExactDict:=by
    rcases d with⟨q,d⟩|⟨q,d⟩;·obtain⟨_,_,_,_,o,_,_,e,h,_⟩:=I.hok p _ d;exact⟨o,e,h⟩
    ·obtain⟨_,_,_,_,o,_,_,e,h,_⟩:=I.hok p _ d;exact⟨o,e,h⟩
   obtain⟨o,e,h⟩:=z;refine⟨⟨o,e,h.1⟩,λb m=>?_⟩;cases m;exact⟨o,e,h.2.1⟩
 ·obtain⟨o,_,_,_,e,h,_⟩:=I.hok p _ d;refine⟨⟨o,e,h.1⟩,λb m=>?_⟩;cases m;exact⟨o,e,h.2.1⟩|_=>exact U4 j
def Tt(K:d_)(T:String)(r:V->List V->Hp->VK->Prop)(d:TE):TE:=λb H Q=>d b H λx a=>tyV K T x a/\r x [] a Q
def tBM(K:d_)(T:String)(r:V->List V->Hp->VK->Prop)(e:TE)(t:TA):TE:=λa H Q=>e a H λx b=>tyV K T x b/\t a b λd f=>r x d f Q
theorem K4{T i:String}{r:V->List V->Hp->VK->Prop}(z:PlainAttrs T)(g:Slot T d i)(j:acg (.builtin i)=pure (.type "method_descriptor"))(E:Ŗ a i r)(A:PE a h Ω)(f:Vd h d a.env (eval h a.env)=eval h a.env:=by rfl)(e:(m.endLine==u.line)=L:=by rfl):PE a (.Call (.Attribute h d m) [] [] u) (Tt a.K T r Ω):=by intro o s k H Q I b;refine wpAny_Call_method0_late f e (å (A o s k H _ I b) λv w⟨x,H1,p,n,q,y⟩=>?_);obtain⟨h1,N⟩:=EE p n q;exact⟨T,i,z,g,j,h1,N,Xb rfl (aaW (E o w k H1 x [] v [] Q p n .nil y))⟩
theorem BY{t:TA}{T n:String}{r:V->List V->Hp->VK->Prop}(pa:PlainAttrs T)(j:Slot T d n)(q:acg (.builtin n)=pure (.type "method_descriptor"))(hm:Ŗ a n r)(ho:PE a h Ω)(ha:PA a (w::v) t)(i:Vd h d a.env (eval h a.env)=eval h a.env:=by rfl)(k:((UH u (k_ (w::v) a.env)).all (λx=>!x.1)&&(Wd u (Vo [] a.env)).all (λx=>x.1.isSome)&&s_ ((w::v).length+([]:List Wl).length+(if([]:List Wl).isEmpty then 0 else 1)<30))=L:=by rfl)(g:(m.endLine==u.line)=L:=by rfl)(hs:k_ (w::v) a.env=(D,eval w a.env)::k_ v a.env:=by rfl)(f:(UH u (k_ v a.env)).any (·.1)=D:=by rfl):PE a (.Call (.Attribute h d m) (w::v) [] u) (tBM a.K T r Ω t):=by intro p s o H Q I e;refine wpAny_Call_method_late i k g rfl (å (ho p s o H _ I e) λb s1⟨x,H1,z,y,N,q1⟩=>?_);obtain⟨h1,h2⟩:=EE z y N;refine⟨T,n,pa,j,q,h1,h2,?_⟩;have hA:=ha u p s1 o H1 _ z q1;rw[hs]at hA⊢;refine Xb (by show(D||(UH u (k_ v a.env)).any (·.1))=D;rw[f]<;>rfl) (YO ?_);exact å hA λE s2⟨A,H2,I2,r2,q2⟩=>hm p s2 o H2 x A b E Q I2 y r2 q2
def MtM(X:C)(f:String)(r:V->List V->Hp->VK->Prop):Prop:=∀(e:List (O×Obj))(s:ge)(a:St)(H:Hp)(x:V)(b:List V)(v:B)(d:List B)(Q:VK),Í X e a H s->Ú x v->Ï b d->r x b H Q->v_ (E_ X.prog X.w) X.A (call (.builtin f) (v::d)) (EP X e a Q) X.xe s
theorem Ï.one:∀{x:V}{a:List B},Ï [x] a->∃u,a=[u]/\Ú x u|_,_,.cons r .nil=>⟨_,rfl,r⟩
theorem Ï.two:∀{x y:V}{a:List B},Ï [x,y] a->∃u v,a=[u,v]/\Ú x u/\Ú y v|_,_,_,.cons r (.cons q .nil)=>⟨_,_,rfl,r,q⟩
theorem Ï.zero:∀{a:List B},Ï [] a->a=[]|_,.nil=>rfl
theorem Ï.dropLast(h:Ï ι μ):Ï ι.dropLast μ.dropLast:=by induction h with|nil=>exact .nil|cons r t a=>cases t with|nil=>exact .nil|cons q b=>exact .cons r a
theorem Ï.rep{a:List V}{b:List B}(h:Ï a b):∀k:Nat,Ï (u_ k a).flatten (u_ k b).flatten|0=>.nil|k+1=>by rw[VG,VG,WH,WH];exact Ï.append h (Ï.rep h k)
theorem wU(l:List δ):l.eraseIdx (l.length-1)=l.dropLast:=by induction l with|nil=>rfl|cons a r d=>cases r with|nil=>rfl|cons b r=>
 have e:(a::b::r).length-1=((b::r).length-1)+1:=by have g:(a::b::r).length=r.length+2:=rfl;have f:(b::r).length=r.length+1:=rfl;omega
 rw[e,List.eraseIdx_cons_succ,d];all_goals rfl
theorem rE(a:List B):∀(k:Nat)(b:List B),abk (λf d=>f++d) b.toArray (u_ k a.toArray)=(b++(u_ k a).flatten).toArray
 |0,b=>by simp|k+1,b=>by
  have e:b.toArray++a.toArray=(b++a).toArray:=by simp
  have g:(b++a)++(u_ k a).flatten=b++(u_ (k+1) a).flatten:=by rw[VG,WH,Vn]
  rw[<-g,<-rE a k (b++a),<-e,VG,Xj]
theorem Í.lset{i:List V}{its':List B}{d:Array B->Array B}(I:Í a ζ Χ g f)(r:g e=Z (.lst ι))(h:f.heap.get? e=Z {cls:=.type "list",data:=.seq μ.toArray b})(o:d μ.toArray=its'.toArray)(m:Ï i its')(j:i.length<=sizeLine):Í a ζ Χ (ß g e (.lst i)) {f with heap:=f.heap.update e (U1 d),toks:=k}:=by have q:=abS h d;rw[o]at q;refine I.write (x:=e) (e:=e) (by rw[r];exact trivial) (.inl rfl) (λs u p n=>(Yl f.heap (U1 d) (UK p)).trans n) ⟨_,q⟩ ?_;exact⟨j,its',_,m,q⟩
theorem Í.lnew{ys:List V}{its:List B}{t':Nat}(I:Í a ζ Χ g f)(d:Ï ys its)(b:ys.length<=sizeLine):Í a ζ Χ (ß g f.heap.objs.size (.lst ys)) {f with heap:=f.heap.push {cls:=.type "list",data:=.seq its.toArray},toks:=t'}:=I.laid (λ_ _ q=>l_ _ q) (on _) ⟨b,its,0,d,w_ _ rfl⟩
theorem Í.fresh(I:Í a ζ Χ g f):g f.heap.objs.size=U:=I.hok.fresh (on _)
theorem Í.lstM{l:O}{xs:List V}(I:Í a ζ Χ g f)(d:g l=Z (.lst xs)):xs.length<=sizeLine/\∃(b:List B)(n:Nat),Ï xs b/\xs.length=b.length/\f.heap.get? l=Z {cls:=.type "list",data:=.seq b.toArray n}:=by obtain⟨z,b,n,r,e⟩:=I.hok l _ d;exact⟨z,b,n,r,r.length,e⟩
theorem BZ(h:b<=sizeLine):XT b=D:=by unfold XT;exact decide_eq_false (by omega)
def GB:V->List V->Hp->VK->Prop:=λx b H Q=>∃l a y,x=.ref l/\b=[y]/\H l=Z (.lst a)/\a.length<sizeLine/\Q .non (ß H l (.lst (a++[y])))
theorem rF:MtM a "list.append" GB:=by intro A s j H x m v o Q I f g h;obtain⟨l,k,y,rfl,rfl,d,p,q⟩:=h;cases f;obtain⟨u,rfl,i⟩:=g.one;obtain⟨z,b,n,r,w,e⟩:=I.lstM d;refine W6 Xo ⟨_,e,rfl⟩ aaY (aaL _ _) (abo l b.toArray n u (by rw[F_];omega)) ⟨e,?_⟩;refine⟨.non,_,I.lset (its':=b++[u]) d e (by simp) (r.append (.cons i .nil)) ?_,rfl,q⟩;rw[UX,aaB];omega
def Tu:V->List V->Hp->VK->Prop:=λx b H Q=>∃l a y,x=.ref l/\b=[]/\H l=Z (.lst a)/\a[a.length-1]?=Z y/\Q y (ß H l (.lst a.dropLast))
theorem K5:MtM a "list.pop" Tu:=by
 intro f' s w H x E v N Q I i j h;obtain⟨l,A,y,rfl,rfl,g,m,q⟩:=h;cases i;have f:=j.zero;subst f;obtain⟨z,b,n,r,p,e⟩:=I.lstM g;obtain⟨u,o,k⟩:=r.get m;have d:b.toArray[b.toArray.size-1]?=Z u:=by show b.toArray[b.length-1]?=Z u;rw[<-Wv,<-p];exact o
 refine W6 abi ⟨_,e,rfl⟩ F.entry_list_pop (F.args_list_pop_1 _) (MeetsSeq.list_pop_last l b.toArray n u d (by rw[F_];omega)) ⟨e,?_⟩;refine⟨y,_,I.lset (its':=b.dropLast) g e ?_ r.dropLast ?_,k,q⟩;·show b.toArray.eraseIdxIfInBounds (b.toArray.size-1)=b.dropLast.toArray;rw[F_,List.eraseIdxIfInBounds_toArray,wU]
 ·rw[List.length_dropLast];omega
def Sk:R2:=λx y H Q=>∃l b d a,x=.ref l/\y=.ref b/\H l=Z (.lst d)/\H b=Z (.lst a)/\d.length+a.length<=sizeLine/\∀p,H p=U->Q (.ref p) (ß H p (.lst (d++a)))
theorem K6:ù a (V2 .Add) Sk:=by
 intro f' s w H x y v u Q I i g h;obtain⟨l,b,N,A,rfl,rfl,k,hB,hz,q⟩:=h;cases i;cases g;obtain⟨z,f,n,r,hl,e⟩:=I.lstM k;obtain⟨E,d,n2,j,p,o⟩:=I.lstM hB;refine PySem.P.add_list e o ?_ (by rw[F_,F_];omega);have m:f.toArray++d.toArray=(f++d).toArray:=by simp
 rw[m];exact⟨.ref _,_,I.lnew (t':=s.toks) (r.append j) (by rw[UX];omega),rfl,q _ I.fresh⟩
def Sl:R2:=λx y H Q=>∃l k a,x=.ref l/\y=.int k/\H l=Z (.lst a)/\-(2^63)<=k/\k<2^63/\a.length*k.toNat<=sizeLine/\∀p,H p=U->Q (.ref p) (ß H p (.lst (u_ k.toNat a).flatten))
theorem GC(a:List δ)(k:Nat):(u_ k a).flatten.length=k*a.length:=by induction k with|zero=>simp|succ k b=>rw[VG,WH,UX,b,Nat.succ_mul,Nat.add_comm]
theorem op_rep:ù a (V2 .Mult) Sl:=by
 intro f' s σ H x y v u Q I rx N h;obtain⟨l,k,xs,rfl,rfl,hH,h1,h2,A,q⟩:=h;cases rx;obtain⟨t,rfl⟩:=N;obtain⟨z,d,n,r,hl,e⟩:=I.lstM hH;have i:d.toArray.size*k.toNat<=sizeLine:=by rw[F_,<-hl];exact A
 have o:¬d.toArray.size*k.toNat>(2^63-1)/8:=by
  have:(sizeLine:Nat)<=(2^63-1)/8:=by decide
  omega
 have j:¬(!Builtin.List.listFitsIndex k)=L:=by rw[fitsIndex_both h1 h2];exact y_
 have f:¬XT (d.toArray.size*k.toNat)=L:=by rw[BZ i];exact y_
 have g:abk (λw p=>w++p) #[] (u_ (if d.toArray.isEmpty=L then 0 else k.toNat) d.toArray)=(u_ k.toNat d).flatten.toArray:=by
  have f0:∀m:Nat,abk (λw p=>w++p) #[] (u_ m d.toArray)=(u_ m d).flatten.toArray:=λm=>by have:=rE d m [];rw[aat]at this;exact this
  rw[f0];cases d with|nil=>simp|cons b r'=>rw[if_neg (by simp)]
 refine wpAny_binaryOp_repeat_ref (T:="list") (U:="int") (by decide) ⟨_,e,rfl⟩ (λE=>abe E k t) noFill_list_mul F.fills_int_mul F.slot_int_rmul repeat_list F.slot_int_index.lookup (W6 F.slot_int_rmul (abe s k t) F.entry_int_rmul (F.args_int_rmul_2 _ _) (int___rmul___int_list k t l d.toArray n) ⟨e,rfl,⟨_,e,rfl⟩,W6 F.slot_list_mul ⟨_,e,rfl⟩ F.entry_list_mul (F.args_list_mul_2 _ _) (AutoListH.list___mul___list_int_3 l d.toArray n k t j o f) ⟨e,?_⟩⟩);rw[g];exact⟨.ref _,_,I.lnew (t':=s.toks) (r.rep k.toNat) (by rw[GC,abE];exact A),rfl,q _ I.fresh⟩
end L2
namespace Att
open PySem.W PySem.Calls
theorem mH{P:j'}:∀(d:List Int)(e:List B),WellAll P N e (d.map WData.int)->acf e d:=by intro d;induction d with|nil=>intro e w;rw[Yw]at w;cases w;exact .nil|cons n d f=>intro e w;rw[G_]at w;cases w with|cons a b=>cases a;exact .cons _ _ (f _ b)
theorem yF{l:OpenLaw}(y:l.most=Z b){P:j'}{h:N_}{args:List WData}{f:List B}(g:l.row.toRowW.claim.pre args=L)(n:WellAll P h f args):∃a o e,f=[B_ a]/\args=[WData.list (e.map WData.int)]/\h.get? a=Z {cls:=.type "list",data:=.seq o.toArray}/\acf o e/\e.length<=b:=by
 have Ħ:WShape.hasAll [] args [.list .int]=L:=(pre_splitW g).1;have p:l.pre.holds [] {args:=args}=L:=(pre_splitW g).2;obtain⟨d,r,rfl,E,A⟩:=hasAllW_cons Ħ;obtain rfl:=hasAllW_nil A;obtain⟨H,rfl,z⟩:=hasW_list E;obtain⟨e,rfl⟩:=items_int z;have i:e.length<=b:=by
  unfold OpenLaw.pre at p;have m:(WTm.not (.lt (.lit (.int (b:Int))) (.len (.arg 0)))).holds [] {args:=[.list (e.map .int)]}=L:=by have m:=(holds_andW p).1;rw[y]at m;exact m
  have k:=condW_of m (w_not (w_lt w_lit (w_len_list (w_arg rfl))));rw[S_]at k;refine Nat.le_of_not_lt λq=>?_;have v:(b:Int)<((e.length:Nat):Int):=by omega
  first|(rw[decide_eq_true v]at k;exact absurd k (by decide))|(simp at k;omega)
 cases n with|cons u s=>cases s;cases u with|list w j=>exact⟨_,_,e,rfl,rfl,w,mH e _ j,i⟩
theorem yG(l:OpenLaw)(args:List WData):l.row.toRowW.claim.post args (.bool L) args=L:=postW_of (r:=l.row.toRowW) (X:=(L==L)) (show WShape.has [] (.bool L) .bool=L by first|rfl|decide|simp[WShape.has,WShape.arms,WShape.armsAll]) (show(WTm.eq .res (.lit (.bool L))).value [] {args:=args,res:=Z (.bool L),after:=args}=Z (.bool (L==L))from w_eq_bool (w_res rfl) w_lit) rfl
theorem attach_call{l:OpenLaw}{XP:(Str->Option B)->N_->Prop}{YP:xy->N_->Prop}{d:DefRec}(hn:l.most=Z b)(a':d.params.defaults=[])(s:∀(w:xy)(h g:ge)(z H:Str->Option B)(m:O)(o:Obj)(E A i:B)(a:O)(k:List B)(v:List Int),Ground r y [] XP w h z H g.heap->YP w g.heap->g.heap.get? m=Z o->o.data=.func (docDef d.name d.params d.body d.scope E A i)->g.heap.CodeRec A d.name->z d.name=Z (.ref m)->g.heap.get? a=Z {cls:=.type "list",data:=.seq k.toArray}->acf k v->v.length<=b->g.gens=#[]->Xp (E_ l.prog w) aaU (.call (.ref m) ⟨[.ref a],[]⟩) (λe u=>e=.ok (.ret (.bool L))/\OldK g.heap u.heap/\u.os=g.os/\Y_ u.gens) g):WalkO r y XP YP l.row.toRowW d [] (λf k=>ack f k):=by intro w h g z H G Y m o E A i dV kV ho hd b' hD N hg e' c' as n d' f' I g';obtain rfl:dV=.none:=Dflts.none hD a';obtain rfl:kV=.none:=Dflts.noKw hD;obtain⟨a,k,v,rfl,rfl,p,j,q⟩:=yF hn n I;refine enter_call (XB (s w h g z H m o E A i a k v G Y ho (fd_plain hd) b' N p j q hg) λe u hq=>?_);obtain⟨rfl,h2,h3,h4⟩:=hq;exact⟨.inl ⟨.bool L,.bool L,[],rfl,λ_=>rfl,.bool L,yG l _,λ_=>⟨ZC,λ_ hm=>(nomatch hm)⟩⟩,h2,h3,h4⟩
noncomputable def Sm(h:N_)(b d:O):List (O×Obj):=(t_ h.objs.size).filterMap λa=>if a=b\/a=d then U else(h.get? a).map λo=>(a,o)
end Att
namespace L2
theorem rG:∀{a:List B}{b:List Int},acf a b->Ï (b.map V.int) a|_,_,.nil=>.nil|_,_,.cons n t h=>.cons ⟨t,rfl⟩ (rG h)
def O9(H:Hp):Prop:=∀b,H b=U\/∃o a,H b=Z (.frz o (.lst a))
theorem B0{mb:Str->Option B}{CX:ŀ}{sp:Sp}{ns:List Int}(KX:s.In f.heap)(c':f.heap.Ns C_ Ι)(y:f.heap.Ns Zh mb)(n':∀d:Str,d≠"__name__"->mb d=VN d)(i':f.heap.NoLimit)(hg:f.gens=#[])(ha:f.heap.get? A=Z {cls:=.type "list",data:=.seq μ.toArray})(hi:acf μ ns)(hl:ns.length<=sizeLine)(hr:Ü b aaU)(F:∀base:N_,s.In base->base.Ns C_ Ι->í r q s Ι base CX b e Ä [d] sp)(a':∀(p:ge)(u:B),abA p Ä ⟨[u],[]⟩ [(d,u)])(m':∀H:Hp,O9 H->ā s H A (ns.map V.int)->sp [.ref A] H (λv _=>v=.bl L) λ_ _ _=>False)(o':∀H g E,CX [] H f (λ_ _ _=>False) g E->False):Xp (E_ r q) aaU (.call (.ref e) ⟨[.ref A],[]⟩) (λj E=>j=.ok (.ret (.bool L))/\OldK f.heap E.heap/\E.os=f.os/\Y_ E.gens) f:=by
 have rv:=rG hi;have g':=hi.length;have N:∀H:Hp,O9 H->ā s H A (ns.map V.int)->ĉ r q H f.heap->(∀a,H a≠U->a=A)->(H A≠U->s.lookup A=U)->Xp (E_ r q) aaU (.call (.ref e) ⟨[.ref A],[]⟩) (λj E=>j=.ok (.ret (.bool L))/\OldK f.heap E.heap/\E.os=f.os/\Y_ E.gens) f:=by
  intro H hO hS b' hA hK;have w:∀{a:O}{o:Obj},f.heap.get? a=Z o->H a=U->(BK f.heap H).get? a=Z o:=λg n=>BL g n;have l':∀{a:O}{o:Obj}{es:Array DictEntry}{ep:Nat},f.heap.get? a=Z o->o.data=.dict es ep->H a=U:=λ{a o es ep}g k=>by cases i:H a with|none=>rfl|some u=>have e':a=A:=hA a (by rw[i];simp);subst e';rw[ha]at g;cases g;have d':Data.seq μ.toArray _=Wz es ep:=k;cases d'
  have I:∀{a:O}{m:Str->Option B},f.heap.Ns a m->(BK f.heap H).Ns a m:=λ{a m}⟨o,es,ep,g,k,j⟩=>⟨o,es,ep,w g (l' g k),k,j⟩;have f':s.In (BK f.heap H):=λa o g=>w (KX a o g) (by cases i:H a with|none=>rfl|some u=>have e':a=A:=hA a (by rw[i];simp);subst e';rw[hK (by rw[i];simp)]at g;cases g);have hM:Mod s Ι (BK f.heap H):=⟨f',I c',⟨mb,I y,n'⟩,let⟨mc,h1,h2⟩:=i';⟨mc,I h1,h2⟩⟩;have e0:Ō r q s Ι (BK f.heap H) aaU [] f H:=⟨rfl,hM,λa o g=>Gj g,Yt (yb _ _),trivial,λa y=>absurd (show a∈([]:List O)from y) (by simp),b',.of_eq hg⟩;refine XB ((F _ f' (I c')).run aaU [] f H ⟨[.ref A],[]⟩ [.ref A] [.ref A] _ _ hr e0 (a' f (.ref A)) (.cons rfl .nil) (m' H hO hS)) λj E h=>?_;cases j with|error g=>exact(o' H g E h).elim|ok fl=>cases fl with|next=>exact U4 h|brk=>exact U4 h|cont=>exact U4 h|ret u=>obtain⟨v,H',os,k',un,h',r',i⟩:=h;have q':v=.bl L:=i;subst q';obtain rfl:u=Q_ L:=r';refine⟨rfl,OldK.of_keep λa o g=>?_,os,k'⟩;cases i:H a with|none=>exact un.keep a o g i (by intro z;exact absurd (show a∈([]:List O)from z) (by simp)) (by simp)|some u=>
    rcases hO a with z|⟨ob,xs,z⟩;·rw[i]at z;cases z
    ·have z2:=un.frzs a ob _ z;obtain⟨e1,_⟩:=b' a _ z;obtain⟨e2,_⟩:=h' a _ z2;rw[g]at e1;cases e1;exact e2
 cases hk:s.lookup A with|some o=>have g:=KX A o hk;rw[ha]at g;cases g;refine N (λ_=>U) (λ_=>.inl rfl) (.inr ⟨_,μ.toArray,_,hk,rfl,rfl,rfl,by rw[F_,g'];exact hl,by simpa using rv⟩) (λa u z=>by have z':(U:Option HO)=Z u:=z;cases z') (λa z=>absurd rfl z) λz=>absurd rfl z|none=>
  refine N (λa=>if a=A then Z (.frz {cls:=.type "list",data:=.seq μ.toArray} (.lst (ns.map V.int)))else U) (λa=>?_) (.inl (.inr ⟨{cls:=.type "list",data:=.seq μ.toArray},if_pos rfl⟩)) (λa u z=>?_) (λa z=>?_) λ_=>hk
  · by_cases y:a=A;·exact .inr ⟨_,_,if_pos y⟩
    ·exact .inl (if_neg y)
  · by_cases y:a=A;·have z':=(if_pos y).symm.trans z;cases z';subst y;exact⟨ha,by rw[S_];exact hl,μ,_,rv,ha⟩
    ·have z':=(if_neg y).symm.trans z;cases z'
  · by_cases y:a=A;·exact y
    ·exact absurd (if_neg y) z
theorem walk_of{l:aao}{XP:(Str->Option B)->N_->Prop}{YP:xy->N_->Prop}{g:DefRec}{K:j'->d_}{CX:xy->ŀ}{sp:xy->Sp}(hn:l.most=Z b)(N:b<=sizeLine)(b':g.params.defaults=[])(hr:Ü k aaU)(hY:∀(w:xy)(h:N_),YP w h->(K w.params).In h)(F:∀(w:xy)(m:Str->Option B)(z:O)(h:N_),(K w.params).In h->h.Ns C_ m->m g.name=Z (.ref z)->∃E:Vg,(∀(s:ge)(u:B),abA s E ⟨[u],[]⟩ [(d,u)])/\∀base:N_,(K w.params).In base->base.Ns C_ m->í l.prog w (K w.params) m base (CX w) k z E [d] (sp w))(I:∀(w:xy)(H:Hp)(a:O)(q:List Int),q.length<=b->O9 H->ā (K w.params) H a (q.map V.int)->sp w [.ref a] H (λv _=>v=.bl L) λ_ _ _=>False)(c':∀(w:xy)(H:Hp)(s:ge)(e:B)(A:ge),CX w [] H s (λ_ _ _=>False) e A->False):acA r y XP YP l.row.toRowW g [] (λf vs=>ack f vs):=by refine Att.attach_call hn b' λw d' n m mb z o pm cd f' a vs q G Y ho hd e' a' p j i hg=>?_;have KX:=hY w _ Y;obtain⟨E,hb,hF⟩:=F w m z _ KX G.T.g a';exact B0 KX G.T.g G.T.b G.T.builtins G.T.nolimit hg p j (UD i N) hr hF hb (λH hO hS=>I w H a q i hO hS) λH e A=>c' w H n e A
noncomputable def bx(s:U8)(j:Nat):U8:=match s with|.ClassDef _ _ _ a _ _ _ _ _ _ _=>a.getD j (.Pass ⟨0,0,0,0⟩)|_=>.Pass ⟨0,0,0,0⟩
noncomputable def iG(s:U8):Arguments:=match s with|.FunctionDef _ a _ _ _ _ _ _ _ _=>a|_=>{posonlyargs:=[],args:=[],vararg:=U,kwonlyargs:=[],kw_defaults:=[],kwarg:=U,defaults:=[]}
noncomputable def bZ(s:U8):List U8:=match s with|.FunctionDef _ _ b _ _ _ _ _ _ _=>b|_=>[]
noncomputable def av(s:U8):VU:=match s with|.FunctionDef _ _ _ _ _ _ a _ _ _=>a|_=>{kind:=.function,names:=[],isGenerator:=D,isCoroutine:=D}
abbrev Į:ŀ:=λ_ _ _ _ _ _=>False
abbrev E0:XK:=λ_ _ _=>False
theorem K7:j9 Į a E0:=λ_ _ _ _ _ _ _ h=>h.elim
structure ļ(K:d_)(x qual:Str)(st:U8)(f:O)(fd:Vg):Prop where
 ex:∃(oc:B)(od:Option O)(kV doc pm:B)(an:Option O)(cdv ct:B)(osl:Array (Option B)),fd=V8 x qual (iG st) (bZ st) (av st) .none kV doc pm an cdv ct/\K.lookup f=Z ⟨oc,od,.func fd,osl⟩/\Yi K cdv qual=L
 kp:Vk K (.ref f)=L
theorem ļ.ok{n:List Str}{m:Sp}(F:ļ s d p Ε e Ä)(S:iF y n (av Ε))(o:∀j H Q E,m j H Q E->j.length=n.length)(k:∀(i:B)(A:D_)(g:List Env)(a:ge)(H:Hp)(j:List V)(Q:VK)(E:XK),Ü b (A.deeper (Xc p (av Ε) a.heap.objs.size e i))->m j H Q E->∃t,Ľ (pF Į r q s Ι N y p (av Ε) e i A g a H E).nox (bZ Ε) t/\t {nx:=λ_ I=>Q .non I,rt:=Q} (start y j) H):í r q s Ι N Į (b+1) e Ä n m:=by obtain⟨oc,od,kV,b',pm,an,i,ct,a',rfl,w,v⟩:=F.ex;refine BU w v S o λA g a H j Q E z u=>?_;obtain⟨t,h,f⟩:=k i A g a H j Q E z u;exact⟨t,h.nox,f⟩
theorem ļ.binds(F:ļ s d p Ε e Ä)(h:∀(kV a g:B)(j:Option O)(b i:B)(f:List B),f.length=y.length->abr (V8 d p (iG Ε) (bZ Ε) (av Ε) .none kV a g j b i) ⟨f,[]⟩=pure (y.zip f)):ð s Ä y []:=by obtain⟨o,n,kV,a,g,j,b,i,k,rfl,q,m⟩:=F.ex;exact .all (h kV a g j b i)
theorem EF{m j:Option O}{f:Array (Option B)}{h b g a i:B}(l:s.lookup e=Z ⟨Β,m,.func (V8 d p (iG Ε) (bZ Ε) (av Ε) .none h b g j a i),f⟩)(c:Yi s a p=L)(k:Vk s (.ref e)=L):ļ s d p Ε e (V8 d p (iG Ε) (bZ Ε) (av Ε) .none h b g j a i):=⟨⟨Β,m,h,b,g,j,a,i,f,rfl,l,c⟩,k⟩
theorem EG{A B:Prop}(h:B):if D=L then A else B:=by rw[if_neg y_];exact h
theorem EH{A B:Prop}(h:A):if L=L then A else B:=by rw[if_pos rfl];exact h
def Ñ(H a:Hp):Prop:=∀b o,H b=Z o->a b=Z o
theorem Ñ.refl(H:Hp):Ñ H H:=λ_ _ h=>h
theorem Ñ.trans{d:Hp}(a:Ñ g Α)(b:Ñ Α d):Ñ g d:=λc o h=>b c o (a c o h)
end L2
namespace FD
open L2
inductive Q where|non|bl(b:Bool)|int(i:Int)|str(x:Str)|tup(xs:List Q)|lst(xs:List Q)|scr(ns:List Int)|exn(c:Nat)|obj(k:Nat)(xs:List Q)
noncomputable def Ŝ:Nat->Str|0=>"Keeper"|_=>"Desk"
noncomputable def ď:Nat->List Str|0=>["table","each","most","jar","latest"]|_=>["table","jar","done","undone"]
noncomputable def Ĩ:Nat->Str|0=>"NoName"|1=>"NoTable"|2=>"NoPath"|3=>"NoAsk"|4=>"NoNote"|5=>"NoJar"|6=>"NoNumber"|7=>"NoText"|8=>"NoStep"|_=>"JarError"
def K'(K:d_)(H:Hp)(a:O)(d:List V):Prop:=(∃o,H a=Z (.frz o (.lst d)))\/∃(o:Obj)(b:Array B)(n:Nat),K.lookup a=Z o/\o.cls=.type "list"/\o.dict=U/\o.data=.seq b n/\b.size<=sizeLine/\Ï d b.toList
theorem K'.l(h:K' s g e ι):ā s g e ι:=h.elim (λh=>.inl (.inr h)) .inr
mutual
def Ô(K:d_)(H:Hp):Q->V->Prop|.non,v=>v=.non|.bl b,v=>v=.bl b|.int i,v=>v=.int i|.str x,v=>v=.str x|.tup e,v=>∃a g,v=.ref a/\H a=Z (.tup g)/\S K H e g|.lst e,v=>∃a g,v=.ref a/\H a=Z (.lst g)/\S K H e g|.scr j,v=>∃a,v=.ref a/\K' K H a (j.map V.int)|.exn c,v=>∃a o u C,v=.ref a/\H a=Z (.frz o u)/\o.cls=.ref C/\U0 K C_ (Ĩ c)=Z (Z (.ref C))|.obj k e,v=>∃a C m f,v=.ref a/\H a=Z (.ins C m ((ď k).zip f))/\U0 K C_ (Ŝ k)=Z (Z (.ref C))/\S K H e f/\e.length<=(ď k).length
def S(K:d_)(H:Hp):List Q->List V->Prop|[],f=>f=[]|d::e,f=>∃v h,f=v::h/\Ô K H d v/\S K H e h
end
mutual
theorem Ô.mono{K:d_}{H j:Hp}(e:Ñ H j):∀(d:Q)(v:V),Ô K H d v->Ô K j d v|.non,_,h=>h|.bl _,_,h=>h|.int _,_,h=>h|.str _,_,h=>h|.tup b,v,h=>by obtain⟨a,f,r,h,q⟩:∃a f,v=.ref a/\H a=Z (.tup f)/\S K H b f:=h;exact⟨a,f,r,e _ _ h,S.mono e b f q⟩|.lst b,v,h=>by obtain⟨a,f,r,h,q⟩:∃a f,v=.ref a/\H a=Z (.lst f)/\S K H b f:=h;exact⟨a,f,r,e _ _ h,S.mono e b f q⟩|.scr p,v,h=>by obtain⟨a,r,h⟩:∃a,v=.ref a/\K' K H a (p.map V.int):=h;exact⟨a,r,h.imp (λ⟨o,h⟩=>⟨o,e _ _ h⟩) id⟩|.exn c,v,h=>by obtain⟨a,o,u,C,r,h,q⟩:∃a o u C,v=.ref a/\H a=Z (.frz o u)/\o.cls=.ref C/\U0 K C_ (Ĩ c)=Z (Z (.ref C)):=h;exact⟨a,o,u,C,r,e _ _ h,q⟩|.obj k b,v,h=>by obtain⟨a,C,m,g,r,h,n,q,l⟩:∃a C m g,v=.ref a/\H a=Z (.ins C m ((ď k).zip g))/\U0 K C_ (Ŝ k)=Z (Z (.ref C))/\S K H b g/\b.length<=(ď k).length:=h;exact⟨a,C,m,g,r,e _ _ h,n,S.mono e b g q,l⟩theorem S.mono{K:d_}{H j:Hp}(e:Ñ H j):∀(b:List Q)(g:List V),S K H b g->S K j b g|[],_,h=>h|d::b,g,h=>by obtain⟨v,i,r,h,q⟩:∃v i,g=v::i/\Ô K H d v/\S K H b i:=h;exact⟨v,i,r,Ô.mono e d v h,S.mono e b i q⟩end
theorem S.nil:S s g [] []:=rfl
theorem S.cons{d b v a}(h:Ô s g d v)(t:S s g b a):S s g (d::b) (v::a):=⟨v,a,rfl,h,t⟩
theorem S.length{K:d_}{H:Hp}:∀{b:List Q}{a:List V},S K H b a->a.length=b.length|[],a,h=>by cases(show a=[]from h);rfl|d::b,a,h=>by obtain⟨v,e,r,_,q⟩:∃v e,a=v::e/\Ô K H d v/\S K H b e:=h;subst r;show e.length+1=b.length+1;rw[S.length q]
theorem S.get{K:d_}{H:Hp}:∀{b:List Q}{a:List V}{i:Nat}{v:V},S K H b a->a[i]?=Z v->∃d,b[i]?=Z d/\Ô K H d v|[],a,i,v,h,e=>by cases(show a=[]from h);simp at e|d::b,a,i,v,h,e=>by obtain⟨n,f,r,j,q⟩:∃v f,a=v::f/\Ô K H d v/\S K H b f:=h;subst r;cases i with|zero=>simp at e;subst e;exact⟨d,rfl,j⟩|succ i=>obtain⟨m,k,g⟩:=S.get (i:=i) q (by simpa using e);exact⟨m,by simpa using k,g⟩
theorem S.get'{K:d_}{H:Hp}:∀{b:List Q}{a:List V}{i:Nat}{d:Q},S K H b a->b[i]?=Z d->∃v,a[i]?=Z v/\Ô K H d v|[],a,i,v,h,e=>by simp at e|d::b,a,i,o,h,e=>by obtain⟨g,f,r,k,q⟩:∃v f,a=v::f/\Ô K H d v/\S K H b f:=h;subst r;cases i with|zero=>simp at e;subst e;exact⟨g,rfl,k⟩|succ i=>obtain⟨n,m,j⟩:=S.get' (i:=i) q (by simpa using e);exact⟨n,by simpa using m,j⟩
theorem S.append{K:d_}{H:Hp}:∀{f e:List Q}{b a:List V},S K H f b->S K H e a->S K H (f++e) (b++a)|[],e,b,a,h,q=>by cases(show b=[]from h);exact q|d::f,e,b,a,h,q=>by obtain⟨i,g,r,j,t⟩:∃v a,b=v::a/\Ô K H d v/\S K H f a:=h;subst r;exact⟨i,g++a,rfl,j,S.append t q⟩
theorem S.take{K:d_}{H:Hp}:∀{b:List Q}{a:List V}(n:Nat),S K H b a->S K H (b.take n) (a.take n)|b,a,0,_=>by simp[S]|[],a,n+1,h=>by cases(show a=[]from h);exact rfl|d::b,a,n+1,h=>by obtain⟨g,e,r,i,t⟩:∃v f,a=v::f/\Ô K H d v/\S K H b f:=h;subst r;exact⟨g,e.take n,rfl,i,S.take n t⟩
theorem S.drop{K:d_}{H:Hp}:∀{b:List Q}{a:List V}(n:Nat),S K H b a->S K H (b.drop n) (a.drop n)|b,a,0,h=>h|[],a,n+1,h=>by cases(show a=[]from h);exact rfl|d::b,a,n+1,h=>by obtain⟨g,f,r,i,t⟩:∃v e,a=v::e/\Ô K H d v/\S K H b e:=h;subst r;exact S.drop n t
variable{H:List Q}
theorem Ô.lstE(h:Ô s g (.lst H) ψ):∃a b,ψ=.ref a/\g a=Z (.lst b)/\S s g H b:=h
theorem Ô.tupE(h:Ô s g (.tup H) ψ):∃a b,ψ=.ref a/\g a=Z (.tup b)/\S s g H b:=h
theorem Ô.exnE(h:Ô s g (.exn b) ψ):∃a o u C,ψ=.ref a/\g a=Z (.frz o u)/\o.cls=.ref C/\U0 s C_ (Ĩ b)=Z (Z (.ref C)):=h
theorem Ô.objE(h:Ô s g (.obj b H) ψ):∃a C e d,ψ=.ref a/\g a=Z (.ins C e ((ď b).zip d))/\U0 s C_ (Ŝ b)=Z (Z (.ref C))/\S s g H d/\H.length<=(ď b).length:=h
theorem Ô.scrE{b:List Int}(h:Ô s g (.scr b) ψ):∃a,ψ=.ref a/\ā s g a (b.map V.int):=let⟨a,r,h⟩:∃a,ψ=.ref a/\K' s g a (b.map V.int):=h;⟨a,r,h.l⟩
theorem aJ(h:g e=U)(o:HO):Ñ g (ß g e o):=λb u q=>by rw[aA (aF q h)];exact q
abbrev Ev:=List (Option Q)
structure Û(K:d_)(H:Hp)(σ:L2.St)(ρ:Ev):Prop where
 len:σ.length=ρ.length
 at':∀(i:Nat)(d:Q),ρ[i]?=Z (Z d)->∃v,σ[i]?=Z (Z v)/\Ô K H d v
variable{Λ:L2.St}{ε:Ev}
theorem Û.mono(E:Û s g Λ ε)(e:Ñ g Α):Û s Α Λ ε:=⟨E.len,λi d h=>let⟨v,b,a⟩:=E.at' i d h;⟨v,b,Ô.mono e d v a⟩⟩
variable{j:Q}
theorem Û.set(E:Û s g Λ ε)(r:Ô s g j ψ):Û s g (Λ.set b (Z ψ)) (ε.set b (Z j)):=by
 refine⟨by rw[UM,UM];exact E.len,λa f h=>?_⟩;by_cases d:b=a
 · subst d;by_cases e:b<ε.length;·rw[A_ e]at h;cases h;exact⟨ψ,by rw[A_ (by rw[E.len];exact e)],r⟩
   ·rw[Va (by rw[UM];omega)]at h;cases h
 ·rw[p_ d]at h;rw[p_ d];exact E.at' a f h
noncomputable def fgt(b:List Nat)(a:Ev):Ev:=b.foldl (λr j=>r.set j U) a
theorem Û.fgt1(j:Nat)(E:Û s g Λ ε):Û s g Λ (ε.set j U):=by
 refine⟨by rw[UM];exact E.len,λi d h=>?_⟩;by_cases a:j=i
 · subst a;by_cases b:j<ε.length;·rw[A_ b]at h;cases h
   ·rw[Va (by rw[UM];omega)]at h;cases h
 ·rw[p_ a]at h;exact E.at' i d h
theorem Û.fgt{K:d_}{H:Hp}{b:L2.St}:∀(a:List Nat){d:Ev},Û K H b d->Û K H b (fgt a d)|[],_,E=>E|j::a,_,E=>Û.fgt a (E.fgt1 j)
inductive Rs(α:Type)where|ok(a:α)|exc(c:Nat)
abbrev Ö:=List Q->Option (Rs Q)
inductive Fl where|nx(ρ:Ev)|rt(d:Q)|exc(c:Nat)
def Ů(N:O->Prop)(H:Hp)(e:O)(d:B)(h:N_):Prop:=H e=U/\N e/\∃b a i,h.get? e=Z b/\b.cls=d/\b.data=.fields a/\a[0]?=Z i/\(a[1]?=Z .none\/∃T g f,a[1]?=Z (.ref T)/\T≠e/\H T=U/\N T/\h.get? T=Z g/\g.data=.fields f/\f[3]?=Z .none)
def PY(X:C)(a:O):Prop:=X.s₀.heap.get? a=U/\∀p∈X.pn,p.1≠a
def K9(X:C)(H:Hp)(c:Nat)(e:B)(s:ge):Prop:=∃a b,e=.ref a/\U0 X.K C_ (Ĩ c)=Z (Z (.ref b))/\Ů (PY X) H a (.ref b) s.heap
def XW(X:C)(c:Nat)(H:Hp):Prop:=∀d b a s e,Ñ H a->Í X d b a s->K9 X a c e s->X.xe e s
theorem XW.mono(h:XW a b g)(e:Ñ g Α):XW a b Α:=λf d j s x i I q=>h f d j s x (e.trans i) I q
def ì(X:C)(H:Hp)(o:Option (Rs Q))(a:VK):Prop:=match o with|none=>False|some (.exc c)=>XW X c H|some (.ok d)=>∀v b,Ñ H b->Ô X.K b d v->a v b
def þ(X:C)(H:Hp)(o:Option (Rs Bool))(Q:Bool->Hp->Prop):Prop:=match o with|none=>False|some (.exc c)=>XW X c H|some (.ok d)=>∀a,Ñ H a->Q d a
def ê(X:C)(H:Hp)(o:Option (Rs (List Q)))(a:List V->Hp->Prop):Prop:=match o with|none=>False|some (.exc c)=>XW X c H|some (.ok e)=>∀d b,Ñ H b->S X.K b e d->a d b
def õ(X:C)(H:Hp)(o:Option Fl)(a:vi):Prop:=match o with|none=>False|some (.exc c)=>XW X c H|some (.rt d)=>∀v b,Ñ H b->Ô X.K b d v->a.rt v b|some (.nx f)=>∀e b,Ñ H b->Û X.K b e f->a.nx e b
noncomputable def Ø{b:Type}(o:Option (Rs δ))(k:δ->Option (Rs b)):Option (Rs b):=match o with|none=>U|some (.exc c)=>Z (.exc c)|some (.ok a)=>k a
def db(o:Option (Rs δ))(k:δ->Option Fl):Option Fl:=match o with|none=>U|some (.exc c)=>Z (.exc c)|some (.ok a)=>k a
noncomputable def sq(o:Option Fl)(k:Ev->Option Fl):Option Fl:=match o with|some (.nx a)=>k a|o=>o
theorem ì.mono(e:Ñ g Α):∀{o:Option (Rs Q)},ì a g o È->ì a Α o È|none,h=>h|some (.exc _),h=>XW.mono h e|some (.ok _),h=>λv d b r=>h v d (e.trans b) r
theorem þ.mono{b:Bool->Hp->Prop}(e:Ñ g Α):∀{o:Option (Rs Bool)},þ a g o b->þ a Α o b|none,h=>h|some (.exc _),h=>XW.mono h e|some (.ok _),h=>λf d=>h f (e.trans d)
theorem ê.mono{b:List V->Hp->Prop}(e:Ñ g Α):∀{o:Option (Rs (List Q))},ê a g o b->ê a Α o b|none,h=>h|some (.exc _),h=>XW.mono h e|some (.ok _),h=>λv f d r=>h v f (e.trans d) r
theorem õ.mono{b:vi}(e:Ñ g Α):∀{o:Option Fl},õ a g o b->õ a Α o b|none,h=>h|some (.exc _),h=>XW.mono h e|some (.rt _),h=>λv f d r=>h v f (e.trans d) r|some (.nx _),h=>λv f d r=>h v f (e.trans d) r
theorem ì.bind{o:Option (Rs Q)}{k:Q->Option (Rs Q)}{P:VK}(h:ì a g (Ø o k) È)(f:∀d v b,Ñ g b->Ô a.K b d v->ì a b (k d) È->P v b):ì a g o P:=by match o,h with|some (.exc _),h=>exact h|some (.ok d),h=>exactλv i e r=>f d v i e r (ì.mono e h)
theorem ì.bindB{f:Bool->Hp->Prop}{o:Option (Rs Q)}{k:Q->Option (Rs Bool)}(h:þ a g (Ø o k) f)(i:∀d v b,Ñ g b->Ô a.K b d v->þ a b (k d) f->È v b):ì a g o È:=by match o,h with|some (.exc _),h=>exact h|some (.ok d),h=>exactλv j e r=>i d v j e r (þ.mono e h)
theorem ì.bindA{f:List V->Hp->Prop}{o:Option (Rs Q)}{k:Q->Option (Rs (List Q))}(h:ê a g (Ø o k) f)(i:∀d v b,Ñ g b->Ô a.K b d v->ê a b (k d) f->È v b):ì a g o È:=by match o,h with|some (.exc _),h=>exact h|some (.ok d),h=>exactλv j e r=>i d v j e r (ê.mono e h)
theorem ì.bindS{b:vi}{o:Option (Rs Q)}{k:Q->Option Fl}(h:õ a g (db o k) b)(i:∀d v f,Ñ g f->Ô a.K f d v->õ a f (k d) b->È v f):ì a g o È:=by match o,h with|some (.exc _),h=>exact h|some (.ok d),h=>exactλv j e r=>i d v j e r (õ.mono e h)
theorem þ.bind{o:Option (Rs Bool)}{k:Bool->Option (Rs Q)}{P:Bool->Hp->Prop}(h:ì a g (Ø o k) È)(i:∀b f,Ñ g f->ì a f (k b) È->P b f):þ a g o P:=by match o,h with|some (.exc _),h=>exact h|some (.ok d),h=>exactλj e=>i d j e (ì.mono e h)
theorem þ.bindB{i:Bool->Hp->Prop}{o:Option (Rs Bool)}{k:Bool->Option (Rs Bool)}{P:Bool->Hp->Prop}(h:þ a g (Ø o k) i)(j:∀b f,Ñ g f->þ a f (k b) i->P b f):þ a g o P:=by match o,h with|some (.exc _),h=>exact h|some (.ok d),h=>exactλm e=>j d m e (þ.mono e h)
theorem þ.bindS{f:vi}{o:Option (Rs Bool)}{k:Bool->Option Fl}{P:Bool->Hp->Prop}(h:õ a g (db o k) f)(j:∀b i,Ñ g i->õ a i (k b) f->P b i):þ a g o P:=by match o,h with|some (.exc _),h=>exact h|some (.ok d),h=>exactλm e=>j d m e (õ.mono e h)
variable{Ψ:Ö}
theorem ê.bind{o:Option (Rs (List Q))}{P:List V->Hp->Prop}(h:ì a g (Ø o Ψ) È)(j:∀i f b,Ñ g b->S a.K b i f->ì a b (Ψ i) È->P f b):ê a g o P:=by match o,h with|some (.exc _),h=>exact h|some (.ok d),h=>exactλv k e r=>j d v k e r (ì.mono e h)
theorem ê.bindA{j:List V->Hp->Prop}{o:Option (Rs (List Q))}{k:List Q->Option (Rs (List Q))}{P:List V->Hp->Prop}(h:ê a g (Ø o k) j)(m:∀i f b,Ñ g b->S a.K b i f->ê a b (k i) j->P f b):ê a g o P:=by match o,h with|some (.exc _),h=>exact h|some (.ok d),h=>exactλv n e r=>m d v n e r (ê.mono e h)
abbrev Ò:=Ev->Option (Rs Q)
abbrev è:=Ev->Option (Rs Bool)
abbrev á:=Ev->Option (Rs (List Q))
abbrev Ù:=Ev->Option Fl
abbrev ë:Ù:=λa=>Z (.nx a)
def tF(X:C)(f:Ò):TE:=λb H Q=>∃a,Û X.K H b a/\ì X H (f a) Q
def tT(X:C)(f:è):TT:=λb H Q=>∃a,Û X.K H b a/\þ X H (f a) Q
def tA(X:C)(f:á):TA:=λb H Q=>∃a,Û X.K H b a/\ê X H (f a) Q
def tS(X:C)(f:Ù):TS:=λa d H=>∃b,Û X.K H d b/\õ X H (f b) a
structure FE(X:C)(e:r_)(f:Ò):Prop where h:PE X e (tF X f)
structure FT(X:C)(e:r_)(f:è):Prop where h:PT X e (tT X f)
structure FW(X:C)(e:r_)(f:è):Prop where h:PW X e (tT X f)
structure FA(X:C)(es:List r_)(f:á):Prop where h:PA X es (tA X f)
structure FS(X:C)(st:U8)(f:Ù):Prop where h:PS X st (tS X f)
structure ġ(X:C)(st:List U8)(f:Ù):Prop where h:Ľ X st (tS X f)
variable{z:Ò}
theorem ef(b:PE a h Ω)(w:∀d H Q e,Û a.K H d e->ì a H (z e) Q->Ω d H Q):FE a h z:=⟨λf s d H Q I⟨e,E,o⟩=>b f s d H Q I (w d H Q e E o)⟩
variable{Ξ:è}
theorem GD{t:TT}(b:PT a h t)(w:∀d H Q e,Û a.K H d e->þ a H (Ξ e) Q->t d H Q):FT a h Ξ:=⟨λf s d H Q I⟨e,E,o⟩=>b f s d H Q I (w d H Q e E o)⟩
theorem La{t:TT}(b:PW a h t)(w:∀d H Q e,Û a.K H d e->þ a H (Ξ e) Q->t d H Q):FW a h Ξ:=⟨λf g s d H Q I⟨e,E,o⟩=>b f g s d H Q I (w d H Q e E o)⟩
variable{Φ:Ù}
theorem uf{t:TS}(h:PS a Ε t)(w:∀b d H e,Û a.K H d e->õ a H (Φ e) b->t b d H):FS a Ε Φ:=⟨λf s d H b I⟨e,E,o⟩=>h f s d H b I (w b d H e E o)⟩
theorem EI{t:TS}(h:Ľ a À t)(w:∀b d H e,Û a.K H d e->õ a H (Φ e) b->t b d H):ġ a À Φ:=⟨λf s d H b I⟨e,E,o⟩=>h f s d H b I (w b d H e E o)⟩
theorem FW.ft(b:FW a h Ξ):FT a h Ξ:=⟨b.h _⟩
noncomputable def Y(i:Nat):Ò:=λa=>match a[i]? with|some (Z d)=>Z (.ok d)|_=>U
noncomputable def fC(d:Q):Ò:=λ_=>Z (.ok d)
theorem Lb(i:Nat)(b:PE a h (yd i)):FE a h (Y i):=ef b λj H Q k E o=>by
 unfold Y at o;split at o;·rename_i d e;obtain⟨v,g,f⟩:=E.at' i d e;exact⟨v,g,o v H (.refl H) f⟩
 ·exact o.elim
theorem ĳ(h:a.env.kindOf d=Z .globalImplicit):Gl a d:=h
theorem PZ(i:Nat){x:Str}(f:a.N[i]?=Z x:=by lk)(d:a.env.scope.names.lookup x=Z .local:=by lk)(e:(x==("__debug__":Str))=D:=by lk)(b:(x==("__classdict__":Str))=D:=by lk):FE a (.Name x m) (Y i):=Lb i (ye f (.inl d) e b)
theorem P6(i:Nat){x:Str}(f:a.N[i]?=Z x:=by lk)(d:a.env.scope.names.lookup x=Z .cell:=by lk)(e:(x==("__debug__":Str))=D:=by lk)(b:(x==("__classdict__":Str))=D:=by lk):FE a (.Name x m) (Y i):=Lb i (ye f (.inr (.inl d)) e b)
theorem Kd(b:PE a h (tC ψ))(r:∀K H,Ô K H j ψ):FE a h (fC j):=ef b λ_ H _ _ _ o=>o ψ H (.refl H) (r a.K H)
theorem Lc{i j}:FE a (.Constant (.int i) j m) (fC (.int i)):=Kd Kw λ_ _=>rfl
theorem P7{b j}:FE a (.Constant (.bool b) j m) (fC (.bl b)):=Kd Ps λ_ _=>rfl
theorem Ld{j}:FE a (.Constant .none j m) (fC .non):=Kd Kx λ_ _=>rfl
theorem Le{x j}:FE a (.Constant (.str x) j m) (fC (.str x)):=Kd Ky λ_ _=>rfl
theorem GE{t:Tok}(e:Gl a d)(b:a.mg d=Z (.int n t))(f:(d==("__debug__":Str))=D:=by lk):FE a (.Name d m) (fC (.int n)):=Kd (yf (ψ:=.int n) e b ⟨t,rfl⟩ f) λ_ _=>rfl
theorem GF{t:Tok}(e:Gl a d)(b:a.mg d=Z (.str p t))(f:(d==("__debug__":Str))=D:=by lk):FE a (.Name d m) (fC (.str p)):=Kd (yf (ψ:=.str p) e b ⟨t,rfl⟩ f) λ_ _=>rfl
def R(g:Q->Q->Option (Rs Q))(d b:Ò):Ò:=λa=>Ø (d a) λx=>Ø (b a) λy=>g x y
def Ĕ(X:C)(r:R2)(g:Q->Q->Option (Rs Q)):Prop:=∀d b x y H a,Ô X.K H d x->Ô X.K H b y->ì X H (g d b) a->r x y H a
variable{É:Ò}
theorem two{r:R2}{g:Q->Q->Option (Rs Q)}(m:Ĕ a r g){e:L2.St}{H:Hp}{b:VK}{d:Ev}(E:Û a.K H e d)(o:ì a H (R g z É d) b):KE r (tF a z) (tF a É) e H b:=⟨d,E,ì.bind o λf x u p i k=>⟨d,E.mono p,ì.bind k λq y s n h j=>m f q x y s b (Ô.mono n f x i) h j⟩⟩
theorem ug{b:Operator}{r:R2}{g:Q->Q->Option (Rs Q)}(d:ù a (V2 b) r)(e:Ĕ a r g)(i:FE a h z)(f:FE a w É):FE a (.BinOp h b w m) (R g z É):=ef (PH d i.h f.h) λ_ _ _ _ E o=>two e E o
theorem lJ{b:M'}{r:R2}{g:Q->Q->Option (Rs Q)}(d:ù a (UN b) r)(f:Ĕ a r g)(j:FE a h z)(i:FE a w É)(e:Uw b w=D):FE a (.Compare h [b] [w] m) (R g z É):=ef (yp d j.h i.h e) λ_ _ _ _ E o=>two f E o
noncomputable def ă:Q->Option (Rs Bool)|.bl b=>Z (.ok b)|_=>U
def fB(f:Ò):è:=λa=>Ø (f a) ă
theorem vq{d:Bool->Hp->Prop}(r:Ô a.K g j ψ)(o:þ a g (ă j) d):∃k,ψ=.bl k/\d k g:=by cases j with|bl b=>exact⟨b,r,o g (.refl g)⟩|_=>exact o.elim
theorem kf{f:M'}{r:R2}{g:Q->Q->Option (Rs Q)}(k:ù a (UN f) r)(p:Ĕ a r g)(s:FE a h z)(q:FE a w É)(n:Uw f w=D):FT a (.Compare h [f] [w] m) (fB (R g z É)):=GD (ud k s.h q.h n) λi H b u E o=>by show KE r (tF a z) (tF a É) i H _;refine two p E ?_;exact ì.bindB o λd v y e r j=>vq r j
theorem Lf(i:FE a h z)(g:∀Ă,isTrue h a.env Ă=(do let v<-Ă;aaS h.pos;XA [v] (truthy v)):=by intro _;lk):FT a h (fB z):=GD (Kz i.h g) λj H Q b E o=>⟨b,E,ì.bindB o λd v k e r f=>vq r f⟩
def mI(f g:è):è:=λa=>Ø (f a) λk=>if k then g a else Z (.ok D)
def Ċ(f g:è):è:=λa=>Ø (f a) λk=>if k then Z (.ok L)else g a
def cQ(f:è):è:=λa=>Ø (f a) λk=>Z (.ok (!k))
theorem GG(b:FT a h Ξ):FW a (.BoolOp .And [h] m) Ξ:=⟨Go b.h⟩
theorem Lg(b:FT a h Ξ):FW a (.BoolOp .Or [h] m) Ξ:=⟨Ey b.h⟩
theorem EJ{f:è}(j:FT a h Ξ)(i:FW a (.BoolOp .And (w::v) m) f):FW a (.BoolOp .And (h::w::v) m) (mI Ξ f):=La (KB j.h i.h) λn H Q b E o=>⟨b,E,þ.bindB o λk g e d=>by cases k with|true=>exact EH ⟨b,E.mono e,d⟩|false=>exact EG (d g (.refl g))⟩
theorem Lh{f:è}(j:FT a h Ξ)(i:FW a (.BoolOp .Or (w::v) m) f):FW a (.BoolOp .Or (h::w::v) m) (Ċ Ξ f):=La (KC j.h i.h) λn H Q b E o=>⟨b,E,þ.bindB o λk g e d=>by cases k with|true=>exact EH (d g (.refl g))|false=>exact EG ⟨b,E.mono e,d⟩⟩
theorem Li(g:FT a h Ξ):FT a (.UnaryOp .Not h m) (cQ Ξ):=GD (KF g.h) λi H Q d E o=>⟨d,E,þ.bindB o λk b e f=>f b (.refl b)⟩
def jS(f g:Ò):Ò:=λa=>Ø (f a) λx=>Ø (ă x) λk=>if k then g a else Z (.ok (.bl D))
def Ķ(f g:Ò):Ò:=λa=>Ø (f a) λx=>Ø (ă x) λk=>if k then Z (.ok (.bl L))else g a
def Pa(f:Ò):Ò:=λa=>Ø (f a) λx=>Ø (ă x) λk=>Z (.ok (.bl (!k)))
theorem uh{k:Bool->Option (Rs Q)}(r:Ô a.K g j ψ)(o:ì a g (Ø (ă j) k) È):∃b,ψ=.bl b/\ì a g (k b) È:=by cases j with|bl b=>exact⟨b,r,o⟩|_=>exact o.elim
theorem Lj{b}(d:FE a h z):FE a (.BoolOp b [h] m) z:=⟨KG d.h⟩
theorem Lk(p:FE a h z)(n:FE a (.BoolOp .And (w::v) m) É):FE a (.BoolOp .And (h::w::v) m) (jS z É):=ef (KH p.h n.h) λq H Q f E o=>⟨f,E,ì.bind o λd b i e r j=>by obtain⟨k,rfl,g⟩:=uh r j;refine⟨k,rfl,?_⟩;cases k with|true=>exact EH ⟨f,E.mono e,g⟩|false=>exact EG (g (.bl D) i (.refl i) rfl)⟩
theorem P8(p:FE a h z)(n:FE a (.BoolOp .Or (w::v) m) É):FE a (.BoolOp .Or (h::w::v) m) (Ķ z É):=ef (Pw p.h n.h) λq H Q f E o=>⟨f,E,ì.bind o λd b i e r j=>by obtain⟨k,rfl,g⟩:=uh r j;refine⟨k,rfl,?_⟩;cases k with|true=>exact EH (g (.bl L) i (.refl i) rfl)|false=>exact EG ⟨f,E.mono e,g⟩⟩
theorem Ll(j:FE a h z):FE a (.UnaryOp .Not h m) (Pa z):=ef (KI j.h) λn H Q f E o=>⟨f,E,ì.bind o λd v b e r i=>by obtain⟨k,rfl,g⟩:=uh r i;exact⟨k,rfl,g (.bl (!k)) b (.refl b) rfl⟩⟩
def Ł(c:è)(f g:Ò):Ò:=λa=>Ø (c a) λk=>if k then f a else g a
theorem P9{c:r_}(f:FT a c Ξ)(i:FE a h z)(g:FE a w É):FE a (.IfExp c h w m) (Ł Ξ z É):=ef (BM f.h i.h g.h) λj H Q b E o=>⟨b,E,þ.bind o λk n e d=>by cases k with|true=>exact EH ⟨b,E.mono e,d⟩|false=>exact EG ⟨b,E.mono e,d⟩⟩
noncomputable def bQ:á:=λ_=>Z (.ok [])
noncomputable def aR(f:Ò)(g:á):á:=λa=>Ø (f a) λx=>Ø (g a) λb=>Z (.ok (x::b))
abbrev aq(f:Ò):á:=aR f bQ
abbrev bJ(f g:Ò):á:=aR f (aq g)
abbrev bS(f g h:Ò):á:=aR f (bJ g h)
abbrev q8(f g h k:Ò):á:=aR f (bS g h k)
abbrev nR(f g h k l:Ò):á:=aR f (q8 g h k l)
abbrev vt(f g h k l m:Ò):á:=aR f (nR g h k l m)
abbrev X(i:Int):Ò:=fC (.int i)
abbrev Ð(x:Str):Ò:=fC (.str x)
variable{ν:á}
theorem Lm{t:TA}(h:PA a v t)(w:∀b H Q d,Û a.K H b d->ê a H (ν d) Q->t b H Q):FA a v ν:=⟨λpos e s b H Q I⟨d,E,o⟩=>h pos e s b H Q I (w b H Q d E o)⟩
theorem yH:FA a [] bQ:=Lm vn λ_ H _ _ _ o=>o [] H (.refl H) rfl
theorem ui(p:FE a h z)(n:FA a v ν)(m:k_ (h::v) a.env=(D,eval h a.env)::k_ v a.env:=by lk):FA a (h::v) (aR z ν):=Lm (lg p.h n.h m) λs H Q e E o=>⟨e,E,ì.bindA o λd b w h r k=>⟨e,E.mono h,ê.bindA k λu f g q i j=>j (b::f) g (.refl g) ⟨b,f,rfl,Ô.mono q d b r,i⟩⟩⟩
def gK(g:á):Ò:=λb=>Ø (g b) λa=>if a.length<=100000 then Z (.ok (.lst a))else U
def dH(g:á):Ò:=λb=>Ø (g b) λa=>if a.length<=100000 then Z (.ok (.tup a))else U
theorem ce(h:b<=100000):b<=sizeLine:=UD h (by rw[X6];decide)
theorem Ln(h:FA a v ν):FE a (.List v m) (gK ν):=ef (yw h.h) λk H Q g E o=>⟨g,E,ê.bind o λn i q e d b=>by
 split at b;·rename_i j;refine⟨by rw[d.length];exact ce j,λp f=>b (.ref p) _ (aJ f _) ⟨p,i,rfl,aw,S.mono (aJ f _) _ _ d⟩⟩
 ·exact b.elim⟩
theorem Lo{k}(h:FA a v ν):FE a (.Tuple v k m) (dH ν):=ef (KU h.h) λn H Q g E o=>⟨g,E,ê.bind o λq i r e d b=>by
 split at b;·rename_i j;refine⟨by rw[d.length];exact ce j,λp f=>b (.ref p) _ (aJ f _) ⟨p,i,rfl,aw,S.mono (aJ f _) _ _ d⟩⟩
 ·exact b.elim⟩
theorem GH:ġ a [] (λd=>Z (.nx d)):=EI tY λb e H d E o=>o e H (.refl H) E
def aN(f g:Ù):Ù:=λa=>sq (f a) g
theorem B4{g:Ù}(k:FS a Ε Φ)(j:ġ a À g):ġ a (Ε::À) (aN Φ g):=EI (gM k.h j.h) λb p H i E o=>⟨i,E,by unfold aN at o;match f:Φ i with|none=>rw[f]at o;exact o.elim|some (.exc c)=>rw[f]at o;exact o|some (.rt d)=>rw[f]at o;exact o|some (.nx h)=>rw[f]at o;exactλn q e m=>⟨h,m,õ.mono e o⟩⟩
theorem yI(b:FS a Ε Φ):ġ a [Ε] Φ:=⟨pv b.h⟩
noncomputable def aO(f:Ò):Ù:=λa=>db (f a) λd=>Z (.rt d)
theorem EK(i:FE a h z):FS a (.Return (Z h) m) (aO z):=uf (yg i.h) λb j H f E o=>⟨f,E,ì.bindS o λd v e h r g=>g v e (.refl e) r⟩
noncomputable def Qa:Ù:=λ_=>Z (.rt .non)
noncomputable def eW(f:Ò):Ù:=λa=>db (f a) λ_=>Z (.nx a)
theorem GI(k:FE a h z)(j:Vb h U m.line a.env=pure D:=by lk):FS a (.Expr h m) (eW z):=uf (tZ k.h j) λb f H g E o=>⟨g,E,ì.bindS o λd v e h r i=>i f e (.refl e) (E.mono h)⟩
noncomputable def cG(i:Nat)(f:Ò):Ù:=λa=>db (f a) λd=>Z (.nx (a.set i (Z d)))
theorem Lp(i:Nat){x:Str}{e:Pos}(u:a.N.Nodup)(p:a.N[i]?=Z x)(k:ł a.env.scope x)(s:FE a h z)(n:Vb h (Z (.Name x e)) m.line a.env=pure D:=by lk)(q:a.fn x=L\/a.env.scope.names.lookup x=Z .local:=by first|exact .inl rfl|exact .inr rfl|assumption):FS a (.Assign [.Name x e] h m) (cG i z):=uf (oq u p k s.h n q) λb w H g E o=>⟨g,E,ì.bindS o λd v f h r j=>j _ f (.refl f) ((E.mono h).set r)⟩
noncomputable def br(c:è)(f g:Ù):Ù:=λa=>db (c a) λk=>if k then f a else g a
theorem Qb{g:Ù}{i:List U8}(j:FT a h Ξ)(p:ġ a À Φ)(n:ġ a i g):FS a (.If h À i m) (br Ξ Φ g):=uf (BN j.h p.h n.h) λb q H d E o=>⟨d,E,þ.bindS o λk r e f=>by cases k with|true=>exact EH ⟨d,E.mono e,f⟩|false=>exact EG ⟨d,E.mono e,f⟩⟩
noncomputable def Its(z:Str):It:=⟨λi _=>i<z.cps.size,λi H x a=>a=H/\∃c,z.cps[i]?=Z c/\x=.str ⟨#[c]⟩,λi _=>i=z.cps.size⟩
theorem rH(e:I.handled=U)(a:O)(x:Str)(t:Tok){b:String}(d:b="str_ascii_iterator"\/b="str_iterator"):Walks r q I a [a] [a] x.cps.size (SignAt x) (λi h=>h.IsStrIter a b x t i):=by
 rcases d with rfl|rfl;·exact Walks.strAscii e a x t
 ·exact Walks.strWide e a x t
theorem B5(z:Str)(t:Tok)(j:O){N:String}(m:N="str_ascii_iterator"\/N="str_iterator"):BE r q s h (Its z) [j] j (λi f=>f.IsStrIter j N z t i)where
 mem:=by simp
 obj:=λi f st b n=>by
  have e:b=j:=by simpa using n
  subst e;obtain⟨o,e,c,d⟩:=st;exact⟨o,e,λv z=>by rw[d]at z;cases z⟩
 keep:=λi f y st k=>let⟨o,ho,g⟩:=st;⟨o,k j (by simp) o ho,g⟩;item:=by intro X hP hw hK hc i f' a σ H E I w st hg;subst hP hw hK;obtain⟨f0,f1,R,f3,f4,f5⟩:=w j (by simp);have W:=rH (r:=X.prog) (q:=X.w) (I.ok.hd hc) j z t m;refine W.item i a _ _ hg st λv y tk hv p kk=>?_;obtain⟨c,u,b',rfl⟩:=hv;have I1:Í X f' σ H {a with heap:=y,toks:=tk}:=I.turned (λb o n e=>kk b o (by simpa using n) e) f0 f1 f3 f4 f5;obtain⟨o,e,c',d⟩:=id p;refine⟨_,rfl,BO (f:={a with heap:=y,toks:=tk}) e c' d (by rcases m with rfl|rfl<;>decide) ⟨.str ⟨#[c]⟩,H,I1,⟨u,rfl⟩,⟨rfl,c,b',rfl⟩,p,λb n=>(w b n).1⟩⟩
 done:=by intro X hP hw hK hc i f' a σ H E I w st hg;subst hP hw hK;obtain⟨f0,f1,R,f3,f4,f5⟩:=w j (by simp);have W:=rH (r:=X.prog) (q:=X.w) (I.ok.hd hc) j z t m;have a':i=z.cps.size:=hg;subst a';exact W.done a _ _ st λy tk kk=>⟨rfl,I.turned (λb o n e=>kk b o (by simpa using n) e) f0 f1 f3 f4 f5⟩
 self:=λA i a Q E st f=>by
  rcases m with rfl|rfl;·exact wpAny_pyIter_striter_ascii st f
  ·exact wpAny_pyIter_striter_wide st f
structure Wk(K:d_)(J:It)(ds:List Q)(H0:Hp):Prop where
 go:∀i H,Ñ H0 H->i<ds.length->J.go i H
 stop:∀H,Ñ H0 H->J.stop ds.length H
 yld:∀i H x H',Ñ H0 H->i<ds.length->J.yld i H x H'->H'=H/\∃d,ds[i]?=Z d/\Ô K H d x
def Ĵ(X:C)(H:Hp)(o:Option (Rs (List Q)))(R:It->Hp->Prop):Prop:=match o with|none=>False|some (.exc c)=>XW X c H|some (.ok b)=>∀J a,Ñ H a->Wk X.K J b a->R J a
structure FI(X:C)(tg iter:r_)(f:á):Prop where h:PI X tg iter λσ H R=>∃ρ,Û X.K H σ ρ/\Ĵ X H (f ρ) R
theorem Ĵ.mono{R:It->Hp->Prop}(e:Ñ g Α):∀{o:Option (Rs (List Q))},Ĵ a g o R->Ĵ a Α o R|none,h=>h|some (.exc _),h=>XW.mono h e|some (.ok _),h=>λv d b r=>h v d (e.trans b) r
noncomputable def ħ(z:Str):List Q:=z.cps.toList.map λc=>.str ⟨#[c]⟩
def items:Q->Option (Rs (List Q))|.lst a=>Z (.ok a)|.tup a=>Z (.ok a)|.str z=>Z (.ok (ħ z))|_=>U
def gl(f:Ò):á:=λa=>Ø (f a) items
theorem GJ(h:g e=Z (.lst ι))(r:S s g H ι):Wk s (Itl s e) H g where
 go:=λi f a b=>by
  have j:i<ι.length:=by rw[r.length];exact b
  exact⟨ι,ι[i],ā.of (a _ _ h),by simp[j]⟩
 stop:=λf a=>⟨ι,ā.of (a _ _ h),by rw[r.length];exact on _⟩;yld:=λi f x o a b y=>by obtain⟨n,y⟩:=y;obtain⟨d,m,k⟩:=S.get (S.mono a _ _ r) (y ι (ā.of (a _ _ h)));exact⟨n,d,m,k⟩
theorem Lq(h:g e=Z (.tup ι))(r:S s g H ι):Wk s (Itt s e) H g where
 go:=λi f a b=>by
  have j:i<ι.length:=by rw[r.length];exact b
  exact⟨ι,ι[i],ô.of (a _ _ h),by simp[j]⟩
 stop:=λf a=>⟨ι,ô.of (a _ _ h),by rw[r.length];exact on _⟩;yld:=λi f x o a b y=>by obtain⟨n,y⟩:=y;obtain⟨d,m,k⟩:=S.get (S.mono a _ _ r) (y ι (ô.of (a _ _ h)));exact⟨n,d,m,k⟩
theorem Lr:Wk s (Its d) (ħ d) g where
 go:=λi f e b=>by show i<d.cps.size;simpa[ħ]using b
 stop:=λf e=>by show(ħ d).length=d.cps.size;simp[ħ]
 yld:=λi f x k e b y=>by
  obtain⟨j,c,h,rfl⟩:=y;refine⟨j,.str ⟨#[c]⟩,?_,rfl⟩;have a:d.cps.toList[i]?=Z c:=by simpa using h
  rw[ħ,P_,a]<;>rfl
noncomputable def rng(a:Int):Nat->List Q|0=>[]|n+1=>.int a::rng (a+1) n
theorem jy:∀(n:Nat)(lo:Int),(rng lo n).length=n|0,_=>rfl|n+1,lo=>by show(rng (lo+1) n).length+1=n+1;rw[jy]
theorem yJ:∀(n:Nat)(lo:Int)(i:Nat),i<n->(rng lo n)[i]?=Z (.int (lo+i))|0,_,_,h=>by omega|n+1,lo,0,_=>by simp[rng]|n+1,lo,i+1,h=>by have q:=yJ n (lo+1) i (by omega);show(Q.int lo::rng (lo+1) n)[i+1]?=_;rw[X_,q];congr 2;omega
theorem vv:Wk s (Itr n b) (rng n b) g where
 go:=λi d e a=>by rw[jy]at a;exact a
 stop:=λd e=>by show b<=(rng n b).length;rw[jy];exact on _
 yld:=λi d x h e a y=>by obtain⟨f,rfl⟩:=y;rw[jy]at a;exact⟨f,_,yJ b n i a,rfl⟩
theorem Ls(hl:FE a w z):FI a h w (gl z):=by
 constructor;intro f' s σ H R I j;obtain⟨ρ,E,o⟩:=j;have key:ì a H (z ρ) λx m=>∃d,Ô a.K m d x/\Ĵ a m (items d) R:=by unfold gl at o;match hf:z ρ,o with|some (.exc c),o=>exact o|some (.ok d),o=>exactλv m e r=>⟨d,r,Ĵ.mono e o⟩|none,o=>exact o
 refine å (hl.h f' s σ H _ I ⟨ρ,E,key⟩) λv k⟨x,m,A,r1,d,rd,q⟩=>?_;have u:∀(o:Obj)(tn:Nat->N_->Prop)(J:It)(n:List Q),BE a.prog a.w a.K h J [k.heap.objs.size] k.heap.objs.size tn->tn 0 (k.heap.push o)->Wk a.K J n m->(∀J H',Ñ m H'->Wk a.K J n H'->R J H')->PIE a f' σ h R (.ref k.heap.objs.size) {k with heap:=k.heap.push o}:=λo tn J n T t0 i q=>by
  refine⟨k.heap.objs.size,[k.heap.objs.size],tn,J,m,rfl,A.kept (t':=k.toks) λb o e=>l_ _ e,T,t0,λb hb=>?_,q J m (.refl m) i⟩;have e:b=k.heap.objs.size:=by simpa using hb
  subst e;exact A.fpOk (on _) (A.hok.fresh (on _))
 cases d with|lst n=>obtain⟨g,xs,rfl,y,h2⟩:=rd.lstE;cases r1;obtain⟨N,rv,p,hz⟩:=A.list (ā.of y);exact Ye p.isList (u _ _ (Itl a.K g) n (yi g _) ⟨_,w_ _ rfl,rfl,rfl⟩ (GJ y h2) q)|tup n=>obtain⟨g,xs,rfl,y,h2⟩:=rd.tupE;cases r1;obtain⟨N,rv,p,hz⟩:=A.tuple (ô.of y);exact XZ (show k.heap.IsTuple g N.toArray from p) (u _ _ (Itt a.K g) n (ot g _) ⟨_,w_ _ rfl,rfl,rfl⟩ (Lq y h2) q)|str f=>
  cases(show x=.str f from rd);obtain⟨t,rfl⟩:=r1;have a':ab4 f="str_ascii_iterator"\/ab4 f="str_iterator":=by
   unfold ab4;split;·exact .inl rfl
   ·exact .inr rfl
  exact wpAny_pyIter_strU (u _ _ (Its f) (ħ f) (B5 f t _ a') ⟨_,w_ _ rfl,rfl,rfl⟩ Lr q)|_=>exact q.elim
def xR:List Q->Option (Rs (List Q))|[.int j]=>if-(2^62)<=j/\j<2^62 then Z (.ok (rng 0 j.toNat))else U|_=>U
def BF:List Q->Option (Rs (List Q))|[.int i,.int j]=>if-(2^62)<=i/\i<2^62/\-(2^62)<=j/\j<2^62 then Z (.ok (rng i (j-i).toNat))else U|_=>U
theorem oy{R:It->Hp->Prop}{o:Option (Rs (List Q))}{k:List Q->Option (Rs (List Q))}{P:List V->Hp->Prop}(h:Ĵ a g (Ø o k) R)(j:∀i f b,Ñ g b->S a.K b i f->Ĵ a b (k i) R->P f b):ê a g o P:=by match o,h with|some (.exc _),h=>exact h|some (.ok d),h=>exactλv m e r=>j d v m e r (Ĵ.mono e h)
theorem yK(A:Gl a "range")(z:a.mg "range"=U)(N:FA a [w] ν)(y:k_ [w] a.env=[(D,eval w a.env)]:=by lk):FI a h (.Call (.Name "range" u) [w] [] m) (λi=>Ø (ν i) xR):=by
 constructor;intro f' s n H R I b;obtain⟨i,E,o⟩:=b;refine rg A z N.h y f' s n H R I ⟨i,E,oy o λds p g e q d=>?_⟩;unfold xR at d;split at d
 · rename_i j;split at d;·rename_i k;obtain⟨v,f,rfl,r,t⟩:∃v f,p=v::f/\Ô a.K g (.int j) v/\S a.K g [] f:=q;cases(show f=[]from t);cases(show v=.int j from r);exact⟨j,rfl,k.1,k.2,d _ g (.refl g) vv⟩
   ·exact d.elim
 ·exact d.elim
theorem yL{b:r_}(hg:Gl a "range")(hm:a.mg "range"=U)(ha:FA a [w,b] ν)(hs:k_ [w,b] a.env=[(D,eval w a.env),(D,eval b a.env)]:=by lk)(y:k_ [b] a.env=[(D,eval b a.env)]:=by lk):FI a h (.Call (.Name "range" u) [w,b] [] m) (λp=>Ø (ν p) BF):=by
 constructor;intro f' s z H R I d;obtain⟨p,E,o⟩:=d;refine yj hg hm ha.h hs y f' s z H R I ⟨p,E,oy o λds A g e rs f=>?_⟩;unfold BF at f;split at f
 · rename_i i j;split at f;·rename_i hj;obtain⟨v,n,rfl,r,t⟩:∃v n,A=v::n/\Ô a.K g (.int i) v/\S a.K g [.int j] n:=rs;obtain⟨v2,q,rfl,r2,N⟩:∃v k,n=v::k/\Ô a.K g (.int j) v/\S a.K g [] k:=t;cases(show q=[]from N);cases(show v=.int i from r);cases(show v2=.int j from r2);exact⟨i,j,rfl,hj,f _ g (.refl g) vv⟩
   ·exact f.elim
 ·exact f.elim
def wV(i:Nat)(e:List Nat)(a:Ù):List Q->Ev->Option Fl|[],b=>Z (.nx (fgt e b))|d::g,b=>match a ((fgt e b).set i (Z d))with|some (.nx f)=>wV i e a g f|o=>o
def Lu(i:Nat)(e:List Nat)(b:á)(a:Ù):Ù:=λd=>db (b d) λf=>wV i e a f d
theorem i7{a:List δ}(h:a[b]?=Z Ë):a.drop b=Ë::a.drop (b+1):=by obtain⟨d,e⟩:=H_.mp h;rw[List.drop_eq_getElem_cons d,e]
theorem Lv(i:Nat)(s:List Nat)(hp:Xl (E_ a.prog a.w) a.A a.env a.xe)(hc:a.calm=L)(hi:FI a h w ν)(hg:PG a h (wL i))(hb:ġ a À Φ)(hs:∀x,UF w a.env x=pure x:=by intro _;lk):FS a (.For h w À [] m) (Lu i s ν Φ):=by refine uf (rh hp hc hi.h hg hb.h hs) λb σ H I E o=>⟨I,E,?_⟩;unfold Lu at o;match hf:ν I,o with
 |none,o=>exact o|some (.exc c),o=>exact o|some (.ok k),o=>
 intro J H1 e1 wk;have o1:õ a H1 (wV i s Φ k I) b:=õ.mono e1 o;refine⟨λn e v p=>e=k.length-n/\n<=k.length/\Ñ H1 p/\∃j,Û a.K p v j/\õ a p (wV i s Φ (k.drop n) j) b,⟨k.length,by simp,UQ _,.refl H1,I,E.mono e1,by simpa using o1⟩,?_⟩;rintro n e v p⟨rfl,hn,e2,j,E',g⟩;by_cases z:n<k.length;·refine .inr ⟨wk.go n p e2 z,λu A=>Ñ H1 A/\∃f,Û a.K A u f/\õ a A (wV i s Φ (k.drop (n+1)) f) b,λu A⟨N,f,E2,o2⟩=>⟨k.length-(n+1),by omega,rfl,z,N,f,E2,o2⟩,λx A y=>?_⟩;obtain⟨rfl,d,hd,rd⟩:=wk.yld n p x A e2 z y;rw[i7 hd]at g;show tS a Φ _ _ _;refine⟨(fgt s j).set i (Z d),(Û.fgt s E').set rd,?_⟩;unfold wV at g;match q:Φ ((fgt s j).set i (Z d))with|none=>rw[q]at g;exact g|some (.exc c)=>rw[q]at g;exact g|some (.rt r)=>rw[q]at g;exact g|some (.nx f)=>rw[q]at g;exactλu H3 N E3=>⟨e2.trans N,f,E3,õ.mono N g⟩
 · have a':n=k.length:=by omega
   subst a';rw[XM]at g;exact .inl ⟨wk.stop p e2,g v p (.refl p) (Û.fgt s E')⟩
noncomputable def ŋ(K:d_)(F:Ö)(n:Nat):Sp:=λe H Q _=>∃a,S K H a e/\a.length=n/\match F a with|some (.ok d)=>∀v b,Ñ H b->Ô K b d v->Q v b|_=>False
def ag(F:Ö)(n:Nat)(g:á):Ò:=λb=>Ø (g b) λa=>if a.length=n then(match F a with|some (.ok d)=>Z (.ok d)|_=>U)else U
theorem GK(G:í a.prog a.w a.K a.mg a.base Į b e Ä y (ŋ a.K Ψ k))(w:Ü b a.A)(N:Gl a d)(z:a.mg d=Z (.ref e))(I:Vk a.K (.ref e)=L)(hb:ð a.K Ä y [])(ha:FA a (h::v) ν)(n:(d==("__debug__":Str))=D:=by lk)(he:k_ (h::v) a.env=(D,eval h a.env)::k_ v a.env:=by lk)(j:(UH u (k_ v a.env)).any (·.1)=D:=by lk):FE a (.Call (.Name d m) (h::v) [] u) (ag Ψ k ν):=ef (pD G w N z I hb .nil K7 ha.h n he j) λσ H Q q E o=>⟨q,E,ê.bind o λp r H' h s g=>by
 show ŋ a.K Ψ k (r++[]) H' Q E0;rw[WA];split at g
 ·rename_i A;refine⟨p,s,A,?_⟩;match i:Ψ p with|some (.ok f)=>rw[i]at g;exact g|some (.exc c)=>rw[i]at g;exact g|none=>rw[i]at g;exact g
 ·exact g.elim⟩
def Has(P:n_)(w:xy)(K:d_)(d:Str->Option B)(a:N_)(x:Str)(k:Nat)(b:List Str)(F:Ö):Prop:=∃f e,í P w K d a Į k f e b (ŋ K F b.length)/\d x=Z (.ref f)/\Vk K (.ref f)=L/\ð K e b []
theorem B6(e:Nat)(o:List Str)(F:Ö)(g:Has a.prog a.w a.K a.mg a.base d e o F)(p:Ü k a.A)(s:e<=k)(w:Gl a d)(A:FA a (h::v) ν)(q:b=o.length:=by lk)(n:(d==("__debug__":Str))=D:=by lk)(y:k_ (h::v) a.env=(D,eval h a.env)::k_ v a.env:=by lk)(i:(UH u (k_ v a.env)).any (·.1)=D:=by lk):FE a (.Call (.Name d m) (h::v) [] u) (ag F b ν):=by subst q;obtain⟨f,E,G,r,j,z⟩:=g;exact GK (G.mono s) p w r j z A n y i
noncomputable def bR(m:Nat)(b:Ù):Ö:=λa=>match b (a.map Z++u_ (m-a.length) U)with|some (.nx _)=>Z (.ok .non)|some (.rt d)=>Z (.ok d)|_=>U
theorem oz(r:S s g H ι):Û s g (L2.start y ι) (H.map Z++u_ (y.length-H.length) U):=by
 have f:=r.length;refine⟨by unfold L2.start;rw[UX,UX,S_,S_,VI,VI,f],λi d h=>?_⟩;by_cases b:i<H.length;·rw[M_ (by simpa using b),P_]at h;cases e:H[i]? with|none=>rw[e]at h;cases h|some m=>rw[e]at h;have a:Z (Z m)=Z (Z d):=h;injection a with a;injection a with a;subst a;obtain⟨v,k,j⟩:=r.get' e;refine⟨v,?_,j⟩;unfold L2.start;rw[M_ (by rw[S_,f];exact b),P_,k]<;>rfl
 ·rw[L_ (by simpa using b),W0]at h;split at h<;>cases h
theorem Qc{f:List Str}(Fn:ļ s d p Ε e Ä)(S:iF f y (av Ε))(hb:∀(n:B)(A:D_)(m:List Env)(g:ge)(H:Hp)(E:XK),Ü b (A.deeper (Xc p (av Ε) g.heap.objs.size e n))->ġ (pF Į r q s Ι N f p (av Ε) e n A m g H E).nox (bZ Ε) Φ):í r q s Ι N Į (b+1) e Ä y (ŋ s (bR f.length Φ) y.length):=by
 refine Fn.ok S (λI H Q E h=>?_) (λn A m g H I Q E hr h=>?_);·obtain⟨o,i,z,_⟩:=h;rw[i.length,z]
 ·obtain⟨o,i,z,a⟩:=h;refine⟨_,(hb n A m g H E hr).h,o.map Z++u_ (f.length-o.length) U,oz i,?_⟩;unfold bR at a;match u:Φ (o.map Z++u_ (f.length-o.length) U)with|none=>rw[u]at a;exact a.elim|some (.exc c)=>rw[u]at a;exact a.elim|some (.rt k)=>rw[u]at a;exactλv w j r'=>a v w j r'|some (.nx ρ)=>rw[u]at a;exactλa' w j _=>a .non w j rfl
theorem Lw(a i:List Str)(j:Ù)(o:Ψ=bR a.length j)(m:k=i.length)(u:ļ s d p Ε e Ä)(S:iF a i (av Ε))(n:∀(h:B)(A:D_)(g:List Env)(f:ge)(H:Hp)(E:XK),Ü b (A.deeper (Xc p (av Ε) f.heap.objs.size e h))->ġ (pF Į r q s Ι N a p (av Ε) e h A g f H E).nox (bZ Ε) j):í r q s Ι N Į (b+1) e Ä i (ŋ s Ψ k):=by subst o m;exact Qc u S n
noncomputable def lS(b:List (Str×WU))(d:Env)(a:List (Str×O)):List (Str×O):=match b with|[]=>a|(n,k)::r=>lS r d (if k==.free then(n,(d.cells.lookup n).getD 0)::a else a)
theorem oA{d:Env}{n:Str}{c:O}:∀(a:List (Str×WU))(b:List (Str×O)),(lS a d b).lookup n=Z c->b.lookup n=Z c\/((n,VW)∈a/\c=(d.cells.lookup n).getD 0)
 |[],b,h=>.inl h|(m,k)::r,b,h=>by
  rcases oA r _ h with q|⟨j,i⟩
  · by_cases g:k=.free;·subst g;simp only[beq_self_eq_true,if_true]at q;rw[UP]at q;cases f:n==m with
      |true=>
      rw[f]at q;have e:n=m:=by simpa using f
      subst e;exact .inr ⟨pi,(UL q).symm⟩|false=>rw[f]at q;exact .inl q
    · have o:(k==VW)=D:=by simpa using g
      rw[o]at q;exact .inl (by simpa using q)
  ·exact .inr ⟨rl _ j,i⟩
theorem rJ{d:Env}{n:Str}:∀(b:List (Str×WU))(a:List (Str×O)),(a.lookup n).isSome=L->((lS b d a).lookup n).isSome=L
 |[],a,h=>h|(m,k)::r,a,h=>by
  refine rJ r _ ?_;split;·rw[UP];cases n==m with|true=>rfl|false=>exact h
  ·exact h
theorem pI{d:Env}{n:Str}:∀(a:List (Str×WU))(b:List (Str×O)),(n,VW)∈a->((lS a d b).lookup n).isSome=L
 |[],b,h=>by cases h|(m,k)::r,b,h=>by
  rcases uk.mp h with e|q;·injection e with g f;subst g;subst f;refine rJ r _ ?_;simp only[beq_self_eq_true,if_true,UP];rfl
  ·exact pI r _ q
theorem ig{b:Type}{n:Str}{k:b}:∀{l:List (Str×b)},l.lookup n=Z k->(n,k)∈l|[],h=>by simp at h|(m,j)::r,h=>by rw[UP]at h;cases a:n==m with
 |true=>
 rw[a]at h;have e:n=m:=by simpa using a
 subst e;have d:j=k:=UL h;subst d;exact pi|false=>rw[a]at h;exact rl _ (ig h)
theorem lK{f:Env}{k:WU}(h:(relabel χ f).names.lookup d=Z k):(d,k)∈χ.names\/(k=.cell/\(d,VW)∈χ.names):=by
 have q:=ig h;unfold relabel at q;obtain⟨⟨m,j⟩,g,e⟩:=Ux.mp q;dsimp only at e;split at e
 · rename_i i;injection e with b a;subst b;have n:j=.free:=by rw[m_,m_]at i;simpa using i.1.1
   subst n;exact .inr ⟨a.symm,g⟩
 ·injection e with b a;subst b;subst a;exact .inl g
theorem lL{a:Env}:∀{b:List (Str×WU)}{n:Str},b.lookup n=Z .free->(b.map λ(n,k)=>if(k==VW&&a.scope.kind==.function&&a.kindOf n==Z .cell)then(n,V9)else(n,k)).lookup n=Z .cell\/(b.map λ(n,k)=>if(k==VW&&a.scope.kind==.function&&a.kindOf n==Z .cell)then(n,V9)else(n,k)).lookup n=Z .free
 |[],_,h=>by simp at h|(m,k)::r,n,h=>by have f:=@lL a r n;rw[UP]at h;rw[G_];cases d:n==m with
 |true=>
 rw[d]at h;have g:k=.free:=UL h;subst g;by_cases e:(VW==VW&&a.scope.kind==.function&&a.kindOf m==Z .cell)=L;·dsimp only;rw[if_pos e,UP,d];exact .inl rfl
 ·dsimp only;rw[if_neg e,UP,d];exact .inr rfl|false=>
 rw[d]at h;dsimp only;by_cases e:(k==VW&&a.scope.kind==.function&&a.kindOf m==Z .cell)=L;·rw[if_pos e,UP,d];exact f h
 ·rw[if_neg e,UP,d];exact f h
noncomputable def EM(b:List (Str×Nat))(a:Ev):Ev:=U::b.map λc=>(a[c.2]?).join
noncomputable def yM(a:Option è)(b:Ò)(e:Ev):List Q->Option (List Q)|[]=>Z []|d::g=>let f:=e.set 0 (Z d);match(match a with|none=>(Z (.ok L):Option (Rs Bool))|some t=>t f)with|some (.ok L)=>(match b f with|some (.ok y)=>(match yM a b e g with|some h=>Z (y::h)|none=>U)|_=>U)|some (.ok D)=>yM a b e g|_=>U
def du(h:List (Str×Nat))(b:á)(a:Option è)(d:Ò):Ò:=λe=>Ø (b e) λg=>match yM a d (EM h e) g with|some f=>if f.length<=100000/\g.length<=100000 then Z (.ok (.lst f))else U|none=>U
def LAt(h:N_)(a:O)(b:List B):Prop:=∃n,h.get? a=Z {cls:=.type "list",data:=.seq b.toArray n}
theorem wW(h:LAt f.heap e μ)(i:μ.length<=100000)(m:∀g,LAt g e (μ++[Β])->(∀b o,b≠e->f.heap.get? b=Z o->g.get? b=Z o)->Ç .none {f with heap:=g}):v_ (E_ r q) I (call (.builtin "list.append") [.ref e,Β]) Ç τ f:=by
 obtain⟨n,a⟩:=h;refine W6 Xo ⟨_,a,rfl⟩ aaY (aaL _ _) (abo e μ.toArray n Β (by rw[F_];exact ce i)) ⟨a,?_⟩;have d:=abS a (·.push Β);have p:μ.toArray.push Β=(μ++[Β]).toArray:=by simp
 rw[p]at d;exact m _ ⟨_,d⟩ λb o k j=>(Yl f.heap _ (UK k)).trans j
def yN(X:C)(a:List r_)(b:Option è):Prop:=match b with|none=>a=[]|some t=>∃c,a=[c]/\FT X c t
theorem ĉ.add{h:N_}{o:HO}(x:ĉ r q g N)(m:g e=U)(n:g A=U)(k:∀b u,b≠A->N.get? b=Z u->h.get? b=Z u)(i:ã r q (ß g e o) h e o):ĉ r q (ß g e o) h:=λb u d=>by
 by_cases j:b=e;·subst j;rw[aw]at d;cases d;exact i
 · rw[aA j]at d;refine(x b u d).stay (λc v f a=>k c v ?_ a) (λc a=>by rw[aA (aF a m)];exact a) λc p a=>by rw[aA (aF a m)];exact a
   rcases f with rfl|f;·exact aF d n
   ·exact aF f n
theorem GL(h:b<k):b≠k:=by omega
theorem Lx(h:b<k):b≠k+1:=by omega
theorem Sn:b≠b+1:=by omega
noncomputable def cD:Q->Q->Option (Rs Q)|.int i,.int j=>Z (.ok (.int (i+j)))|.str x,.str y=>if x.length+y.length<=100000 then Z (.ok (.str (x++y)))else U|.lst a,.lst b=>if a.length+b.length<=100000 then Z (.ok (.lst (a++b)))else U|_,_=>U
def GM:R2:=λx y H Q=>Ř (λi j=>.int (i+j)) x y H Q\/((∃i j,x=.str i/\y=.str j/\i.length+j.length<=sizeLine/\Q (.str (i++j)) H)\/Sk x y H Q)
theorem ż:ù a (V2 .Add) GM:=op_add.or (op_add_str.or K6)
theorem Ly:Ĕ a GM cD:=by
 intro v u x y H Q g f o;cases v<;>cases u<;>try exact(show False from o).elim
 ·rename_i i j;exact .inl ⟨i,j,g,f,o _ H (.refl H) rfl⟩
 · rename_i i j;simp only[cD]at o;split at o;·rename_i e;exact .inr (.inl ⟨i,j,g,f,ce e,o _ H (.refl H) rfl⟩)
   ·exact o.elim
 · rename_i d b;simp only[cD]at o;split at o;·rename_i e;obtain⟨p,n,rfl,s,m⟩:=g.lstE;obtain⟨q,h,rfl,r,k⟩:=f.lstE;refine .inr (.inr ⟨p,q,n,h,rfl,rfl,s,r,by rw[m.length,k.length];exact ce e,λl e=>o _ _ (aJ e _) ⟨l,_,rfl,aw,S.mono (aJ e _) _ _ (m.append k)⟩⟩)
   ·exact o.elim
noncomputable def uj:Q->Q->Option (Rs Q)|.int i,.int j=>Z (.ok (.int (i-j)))|_,_=>U
theorem Qd:Ĕ a (Ř λi j=>.int (i-j)) uj:=by
 intro f e x y H Q d b o;cases f<;>cases e<;>try exact(show False from o).elim
 rename_i i j;exact⟨i,j,d,b,o _ H (.refl H) rfl⟩
noncomputable def jM:Q->Q->Option (Rs Q)|.int i,.int j=>if(-18446744073709551616<i/\i<18446744073709551616)\/(-18446744073709551616<j/\j<18446744073709551616)then Z (.ok (.int (i*j)))else U|_,_=>U
theorem Lz:Ĕ a (rI ŉ λi j=>.int (i*j)) jM:=by
 intro f e x y H Q d b o;cases f<;>cases e<;>try exact(show False from o).elim
 rename_i i j;simp only[jM]at o;split at o;·rename_i h;exact⟨i,j,d,b,h,o _ H (.refl H) rfl⟩
 ·exact o.elim
noncomputable def j7:Q->Q->Option (Rs Q)|.int i,.int j=>if 0<j then Z (.ok (.int (i%j)))else U|_,_=>U
theorem Qe:Ĕ a (rI (λ_ j=>0<j) λi j=>.int (i%j)) j7:=by
 intro f e x y H Q d b o;cases f<;>cases e<;>try exact(show False from o).elim
 rename_i i j;simp only[j7]at o;split at o;·rename_i h;exact⟨i,j,d,b,h,o _ H (.refl H) rfl⟩
 ·exact o.elim
noncomputable def kg:Q->Q->Option (Rs Q)|.int i,.int j=>if 0<j/\j<1073741824 then Z (.ok (.int (i/j)))else U|_,_=>U
theorem LA:Ĕ a (rI Se λi j=>.int (i/j)) kg:=by
 intro f e x y H Q d b o;cases f<;>cases e<;>try exact(show False from o).elim
 rename_i i j;simp only[kg]at o;split at o;·rename_i h;exact⟨i,j,d,b,h,o _ H (.refl H) rfl⟩
 ·exact o.elim
noncomputable def LB:Q->Option (Rs Q)|.int i=>Z (.ok (.int (-i)))|_=>U
def f1(g:Q->Option (Rs Q))(b:Ò):Ò:=λa=>Ø (b a) g
theorem LC(j:FE a h z):FE a (.UnaryOp .USub h m) (f1 LB z):=ef (PJ KP j.h) λk H Q g E o=>⟨g,E,ì.bind o λd v f e r b=>by
 cases d<;>try exact(show False from b).elim
 rename_i i;exact⟨i,r,b _ f (.refl f) rfl⟩⟩
noncomputable def seq(x y:Str):Bool:=x.cps.toList==y.cps.toList
theorem EN(x y:Str):(x==y)=seq x y:=by rw[VO];unfold seq;obtain⟨⟨a⟩⟩:=x;obtain⟨⟨b⟩⟩:=y;simp
def Ś:Q->Q->Option Bool|.non,.non=>Z L|.non,.int _=>Z D|.int _,.non=>Z D|.non,.bl _=>Z D|.bl _,.non=>Z D|.non,.str _=>Z D|.str _,.non=>Z D|.int i,.int j=>Z (i==j)|.bl i,.bl j=>Z (i==j)|.str i,.str j=>Z (seq i j)|.int _,.str _=>Z D|.str _,.int _=>Z D|.bl _,.str _=>Z D|.str _,.bl _=>Z D|_,_=>U
variable{θ:Q}
theorem EO{y:V}(b:Ô s g j ψ)(a:Ô s g θ y)(h:Ś j θ=Z E):PM ψ y=L/\s_ (ψ=y)=E:=by cases j<;>cases θ<;>(try cases h)<;>(try(cases b;cases a;exact⟨rfl,by first|rfl|exact ub|exact yk|(rw[uc,EN])|simp⟩))
noncomputable def Qf(p:Int->Int->Bool):Q->Q->Option (Rs Q)|.int i,.int j=>Z (.ok (.bl (p i j)))|_,_=>U
theorem LD(p:Int->Int->Bool):Ĕ a (Ř λi j=>.bl (p i j)) (Qf p):=by
 intro f e x y H Q d b o;cases f<;>cases e<;>try exact(show False from o).elim
 rename_i i j;exact⟨i,j,d,b,o _ H (.refl H) rfl⟩
abbrev ņ:=Qf λi j=>s_ (j<i)
noncomputable def Ď:Q->Q->Option (Rs Q)|x,.non=>Z (.ok (.bl (match x with|.non=>L|_=>D)))|_,_=>U
noncomputable def oE:Q->Q->Option (Rs Q)|x,.non=>Z (.ok (.bl (match x with|.non=>D|_=>L)))|_,_=>U
theorem yO(r:Ô s g j ψ):s_ (ψ=.non)=(match j with|.non=>L|_=>D):=by cases j with|non=>cases(show ψ=.non from r);rfl|bl b=>cases(show ψ=.bl b from r);rfl|int b=>cases(show ψ=.int b from r);rfl|str b=>cases(show ψ=.str b from r);rfl|tup d=>obtain⟨a,e,rfl,_⟩:=r.tupE;rfl|lst d=>obtain⟨a,e,rfl,_⟩:=r.lstE;rfl|scr d=>obtain⟨a,rfl,_⟩:=r.scrE;rfl|exn c=>obtain⟨a,_,_,_,rfl,_⟩:=r.exnE;rfl|obj k d=>obtain⟨a,_,_,_,rfl,_⟩:=r.objE;rfl
theorem LF:Ĕ a (λx y H Q=>y=.non/\Q (.bl (s_ (x=.non))) H) Ď:=by
 intro g f x y H Q d b o;cases f<;>try exact(show False from o).elim
 have q:=yO d;refine⟨b,?_⟩;have e:=o _ H (.refl H) rfl;cases g<;>(rw[q];exact e)
theorem EQ:Ĕ a (λx y H Q=>y=.non/\Q (.bl (!s_ (x=.non))) H) oE:=by
 intro g f x y H Q d b o;cases f<;>try exact(show False from o).elim
 have q:=yO d;refine⟨b,?_⟩;have e:=o _ H (.refl H) rfl;cases g<;>(rw[q];exact e)
noncomputable def inS(x y:Str):Bool:=!(UU y x 0 y.length 1).isEmpty
noncomputable def lT:Q->Bool|.non=>L|.bl _=>L|.int _=>L|.str _=>L|_=>D
def eqF:Q->Q->Bool|.non,.non=>L|.bl a,.bl b=>a==b|.bl a,.int b=>(if a then 1 else 0)==b|.int a,.bl b=>a==(if b then 1 else 0)|.int a,.int b=>a==b|.str a,.str b=>seq a b|_,_=>D
def rw(x:Q)(a:List Q):Option Bool:=if lT x&&a.all lT then Z (a.any λy=>eqF y x)else U
def So:Q->Q->Option Bool|.str x,.str y=>Z (inS x y)|x,.lst a=>rw x a|x,.tup a=>rw x a|_,_=>U
def ĵ(x y:Q):Option (Rs Q):=match So x y with|some b=>Z (.ok (.bl b))|none=>U
def vx(x y:Q):Option (Rs Q):=match So x y with|some b=>Z (.ok (.bl (!b)))|none=>U
theorem ul(r:Ô s g j ψ)(h:lT j=L):jR ψ=L:=by cases j<;>first|(cases h;done)|(cases r;rfl)
theorem pJ{K:d_}{H:Hp}:∀{b:List Q}{a:List V},S K H b a->b.all lT=L->a.all jR=L|[],a,r,_=>by cases(show a=[]from r);rfl|d::b,a,r,h=>by obtain⟨v,e,rfl,g,f⟩:∃v e,a=v::e/\Ô K H d v/\S K H b e:=r;rw[Wa,m_]at h;rw[Wa,m_];exact⟨ul g h.1,pJ f h.2⟩
theorem ES{u:V}(r:Ô s g j ψ)(q:Ô s g θ u)(h:lT j=L)(a:lT θ=L):Ŋ ψ u=eqF j θ:=by cases j<;>first|(cases h;done)|(cases r;cases θ<;>first|(cases a;done)|(cases q;first|rfl|exact EN _ _))
theorem ET{K:d_}{H:Hp}{e:Q}{u:V}(q:Ô K H e u)(g:lT e=L):∀{b:List Q}{a:List V},S K H b a->b.all lT=L->(a.any λy=>Ŋ y u)=b.any λy=>eqF y e|[],a,r,_=>by cases(show a=[]from r);rfl|d::b,a,r,h=>by obtain⟨v,f,rfl,j,i⟩:∃v f,a=v::f/\Ô K H d v/\S K H b f:=r;rw[Wa,m_]at h;rw[V_,V_,ES j q h.1 g,ET q g i h.2]
theorem vy(d:Ô s g j ψ)(b:S s g H ι)(h:rw j H=Z E):jR ψ=L/\ι.all jR=L/\inV ψ ι=E:=by
 unfold rw at h;split at h;·rename_i a;rw[m_]at a;cases h;exact⟨ul d a.1,pJ b a.2,ET d a.1 b a.2⟩
 ·cases h
def Sq(K:d_):R2:=λx y H Q=>(∃i j,x=.str i/\y=.str j/\Q (.bl (!(UU j i 0 j.length 1).isEmpty)) H)\/rIn K D x y H Q
def yP(K:d_):R2:=λx y H Q=>(∃i j,x=.str i/\y=.str j/\Q (.bl (!(!(UU j i 0 j.length 1).isEmpty))) H)\/rIn K L x y H Q
theorem Qg:ù a (UN .In) (Sq a.K):=op_in_str.or yE
theorem GN:ù a (UN .NotIn) (yP a.K):=op_notIn_str.or rB
theorem Qh:Ĕ a (Sq a.K) ĵ:=by
 intro f s x y H Q k j o;unfold ĵ at o;split at o
 · rename_i b g;have q:=o _ H (.refl H) rfl;cases s<;>try(cases f<;>cases g;done)
   · rename_i z;cases f<;>try(cases g;done)
     rename_i r;cases g;exact .inl ⟨r,z,k,j,q⟩
   · rename_i h;have e:rw f h=Z b:=by cases f<;>exact g
     obtain⟨d,i,rfl,n,m⟩:=j.tupE;obtain⟨f1,R,p⟩:=vy k m e;exact .inr ⟨d,i,rfl,.inr (ô.of n),f1,R,by rw[if_neg y_,p];exact q⟩
   · rename_i h;have e:rw f h=Z b:=by cases f<;>exact g
     obtain⟨d,i,rfl,n,m⟩:=j.lstE;obtain⟨f1,R,p⟩:=vy k m e;exact .inr ⟨d,i,rfl,.inl (ā.of n),f1,R,by rw[if_neg y_,p];exact q⟩
 ·exact o.elim
theorem GO:Ĕ a (yP a.K) vx:=by
 intro f s x y H Q k j o;unfold vx at o;split at o
 · rename_i b g;have q:=o _ H (.refl H) rfl;cases s<;>try(cases f<;>cases g;done)
   · rename_i z;cases f<;>try(cases g;done)
     rename_i r;cases g;exact .inl ⟨r,z,k,j,q⟩
   · rename_i h;have e:rw f h=Z b:=by cases f<;>exact g
     obtain⟨d,i,rfl,n,m⟩:=j.tupE;obtain⟨f1,R,p⟩:=vy k m e;exact .inr ⟨d,i,rfl,.inr (ô.of n),f1,R,by rw[if_pos rfl,p];exact q⟩
   · rename_i h;have e:rw f h=Z b:=by cases f<;>exact g
     obtain⟨d,i,rfl,n,m⟩:=j.lstE;obtain⟨f1,R,p⟩:=vy k m e;exact .inr ⟨d,i,rfl,.inl (ā.of n),f1,R,by rw[if_pos rfl,p];exact q⟩
 ·exact o.elim
def ą(a:List δ)(i:Int):Option δ:=if 0<=i then a[i.toNat]? else if-(a.length:Int)<=i then a[(i+a.length).toNat]? else U
theorem pK{a:List δ}(h:ą a n=Z Ë):W' a n=Z Ë:=by
 unfold ą at h;unfold W' ž;split at h
 · rename_i b;have e:n.toNat<a.length:=by obtain⟨q,_⟩:=H_.mp h;exact q
   rw[if_pos b,if_pos (by omega)];exact h
 · rename_i b;split at h;·rename_i d;rw[if_neg b,if_pos d];exact h
   ·cases h
noncomputable def Î:Q->Q->Option (Rs Q)|.lst a,.int i=>(match ą a i with|some d=>Z (.ok d)|none=>U)|.tup a,.int i=>(match ą a i with|some d=>Z (.ok d)|none=>U)|.str z,.int i=>if z.length<=100000 then(match ą z.cps.toList i with|some c=>Z (.ok (.str ⟨#[c]⟩))|none=>U)else U|.scr b,.int i=>(match ą b i with|some d=>Z (.ok (.int d))|none=>U)|_,_=>U
theorem um{f:Type}{b:List δ}{a:List f}(h:a.length=b.length){i:Int}{x:δ}(e:ą b i=Z x):∃j:Nat,b[j]?=Z x/\∀y,a[j]?=Z y->ą a i=Z y:=by
 unfold ą at e;split at e;·rename_i d;exact⟨_,e,λy q=>by unfold ą;rw[if_pos d];exact q⟩
 · rename_i d;split at e;·rename_i g;exact⟨_,e,λy q=>by unfold ą;rw[if_neg d,h,if_pos g];exact q⟩
   ·cases e
theorem Tv:Ĕ a (rIx a.K) Î:=by
 intro E A x y H Q n m o;cases E<;>cases A<;>try exact(show False from o).elim
 · rename_i z i;simp only[Î]at o;split at o
   · rename_i u;split at o;·rename_i c w;exact .inr (.inr ⟨z,i,c,n,m,ce u,pK w,o _ H (.refl H) rfl⟩)
     ·exact o.elim
   ·exact o.elim
 · rename_i I i;simp only[Î]at o;split at o;·rename_i d e;obtain⟨b,p,rfl,g,f⟩:=n.tupE;obtain⟨j,k,h⟩:=um f.length e;obtain⟨v,r,q⟩:=f.get' k;exact .inr (.inl ⟨b,p,i,v,rfl,m,ô.of g,pK (h v r),o v H (.refl H) q⟩)
   ·exact o.elim
 · rename_i I i;simp only[Î]at o;split at o;·rename_i d e;obtain⟨b,p,rfl,g,f⟩:=n.lstE;obtain⟨j,k,h⟩:=um f.length e;obtain⟨v,r,q⟩:=f.get' k;exact .inl ⟨b,p,i,v,rfl,m,ā.of g,pK (h v r),o v H (.refl H) q⟩
   ·exact o.elim
 · rename_i s i;simp only[Î]at o;split at o;·rename_i d e;obtain⟨b,rfl,g⟩:=n.scrE;obtain⟨j,k,h⟩:=um (a:=s.map V.int) (by simp) e;exact .inl ⟨b,_,i,.int d,rfl,m,g,pK (h _ (by rw[P_,k]<;>rfl)),o _ H (.refl H) rfl⟩
   ·exact o.elim
theorem Qi(e:FE a h z)(d:FE a w É)(b:yB w:=by intro _ _;lk):FE a (.Subscript h w m) (R Î z É):=ef (PV K1 e.h d.h b) λ_ _ _ _ E o=>two Tv E o
abbrev Y':=Ev->Option (Rs (Option Int))
def Sr(X:C)(H:Hp)(o:Option (Rs (Option Int)))(Q:Option Int->Hp->Prop):Prop:=match o with|none=>False|some (.exc c)=>XW X c H|some (.ok d)=>∀a,Ñ H a->Q d a
structure FO(X:C)(e:Option r_)(f:Y'):Prop where h:PO X e λσ H Q=>∃ρ,Û X.K H σ ρ/\Sr X H (f ρ) Q
noncomputable def ii:Y':=λ_=>Z (.ok U)
noncomputable def toI:Q->Option (Rs (Option Int))|.int i=>Z (.ok (Z i))|_=>U
def eZ(f:Ò):Y':=λa=>Ø (f a) toI
theorem GP:FO a U ii:=⟨λd s b H Q I⟨_,_,o⟩=>Gz d s b H Q I (o H (.refl H))⟩
theorem GQ(b:FE a h z):FO a (Z h) (eZ z):=⟨λg s f H Q I⟨e,E,o⟩=>GA b.h g s f H Q I ⟨e,E,by unfold eZ at o;match k:z e,o with
 |none,o=>exact o|some (.exc c),o=>exact o|some (.ok d),o=>
 intro v j h r;cases d<;>try exact(show False from o).elim
 rename_i i;exact⟨i,r,o j h⟩⟩⟩
def EU(a:List δ)(b d:Option Int):List δ:=(a.drop (HT.sIx a.length 0 b)).take (HT.sIx a.length a.length d-HT.sIx a.length 0 b)
def Tw:V->Option Int->Option Int->Hp->VK->Prop:=λx lo a H Q=>∃z,x=.str z/\z.length<=sizeLine/\Q (.str (abN z lo a)) H
theorem ť:ź a Tw:=by intro p s n H x v w r lo m y Q I o f pl h q;obtain⟨z,rfl,e,q⟩:=q;obtain⟨t,rfl⟩:=o;refine⟨"str",_,F.slot_str_getitem.lookup,X0 _ _ _,?_⟩;have d:∀(b:Tok)(k:Nat),EP a p n Q (.str (abN z lo m) b) {s with toks:=k}:=λb k=>⟨.str (abN z lo m),H,I.tok _,⟨_,rfl⟩,q⟩;cases pl with
 |none=>cases h with|none=>exact WS (l:=U) (u:=U) (st:=U) f rfl (YT ⟨UD (aaa z _ _) e,λb k=>d b k⟩)|int j u=>exact WS (l:=U) (u:=Z (j,u)) (st:=U) f rfl (YT ⟨UD (aaa z _ _) e,λb k=>d b k⟩)
 |int i g=>cases h with|none=>exact WS (l:=Z (i,g)) (u:=U) (st:=U) f rfl (YT ⟨UD (aaa z _ _) e,λb k=>d b k⟩)|int j u=>exact WS (l:=Z (i,g)) (u:=Z (j,u)) (st:=U) f rfl (YT ⟨UD (aaa z _ _) e,λb k=>d b k⟩)
def Pb(x:Q)(a b:Option Int):Option (Rs Q):=match x with|.str z=>if z.length<=100000 then Z (.ok (.str (abN z a b)))else U|.lst d=>Z (.ok (.lst (EU d a b)))|_=>U
def xS(f:Ò)(d e:Y'):Ò:=λa=>Ø (f a) λx=>Ø (d a) λlo=>Ø (e a) λb=>Pb x lo b
theorem kh{o:Option (Rs (Option Int))}{k:Option Int->Option (Rs Q)}{P:Option Int->Hp->Prop}(h:ì a g (Ø o k) È)(i:∀b f,Ñ g f->ì a f (k b) È->P b f):Sr a g o P:=by match o,h with|some (.exc _),h=>exact h|some (.ok d),h=>exactλj e=>i d j e (ì.mono e h)
theorem LG{j n:Option r_}{r s:Y'}(ha:FE a h z)(hl:FO a j r)(hh:FO a n s):FE a (.Subscript h (.Slice j n U m) u) (xS z r s):=ef (vp (ť.or yC) ha.h hl.h hh.h) λσ H Q g E o=>⟨g,E,ì.bind o λd v H1 y N o1=>⟨g,E.mono y,kh o1 λl H2 w o2=>⟨g,(E.mono y).mono w,kh o2 λe A e3 f=>by
 have i:=Ô.mono e3 d v (Ô.mono w d v N);cases d<;>try exact(show False from f).elim
 · rename_i b;unfold Pb at f;dsimp only at f;split at f;·rename_i hz;exact .inl ⟨b,i,ce hz,f _ A (.refl A) rfl⟩
   ·exact f.elim
 ·rename_i ds;obtain⟨a',I,rfl,h1,q⟩:=i.lstE;refine .inr ⟨a',I,rfl,ā.of h1,λp k=>f _ _ (aJ k _) ⟨p,_,rfl,aw,S.mono (aJ k _) _ _ ?_⟩⟩;unfold BW EU;rw[q.length];exact(q.drop _).take _⟩⟩⟩
noncomputable def fU:Ö|[.str z]=>if z.length<=100000 then Z (.ok (.int z.length))else U|[.lst a]=>Z (.ok (.int a.length))|[.tup a]=>Z (.ok (.int a.length))|[.scr b]=>Z (.ok (.int b.length))|_=>U
def â(g:Ö)(b:á):Ò:=λa=>Ø (b a) g
theorem fG(r:S s g [j] ι):∃v,ι=[v]/\Ô s g j v:=by obtain⟨v,a,rfl,d,b⟩:∃v a,ι=v::a/\Ô s g j v/\S s g [] a:=r;cases(show a=[]from b);exact⟨v,rfl,d⟩
theorem GR(r:S s g [j,θ] ι):∃v v2,ι=[v,v2]/\Ô s g j v/\Ô s g θ v2:=by obtain⟨v,a,rfl,e,d⟩:∃v a,ι=v::a/\Ô s g j v/\S s g [θ] a:=r;obtain⟨v2,rfl,b⟩:=fG d;exact⟨v,v2,rfl,e,b⟩
theorem LH(y:Gl a "len")(w:a.mg "len"=U)(I:FA a (h::v) ν)(A:k_ (h::v) a.env=(D,eval h a.env)::k_ v a.env:=by lk)(n:(UH u (k_ v a.env)).any (·.1)=D:=by lk):FE a (.Call (.Name "len" m) (h::v) [] u) (â fU ν):=ef (ka BP y w acl I.h (by decide) (by decide) A n) λN H Q p E o=>⟨p,E,ê.bind o λds vs f e1 i e=>by
 unfold fU at e;split at e
 · rename_i z;split at e;·rename_i s;obtain⟨b,rfl,r⟩:=fG i;cases(show b=.str z from r);exact⟨_,_,rfl,⟨ce s,rfl⟩,e _ f (.refl f) rfl⟩
   ·exact e.elim
 ·rename_i q;obtain⟨b,rfl,r⟩:=fG i;obtain⟨d,j,rfl,g,k⟩:=r.lstE;exact⟨_,_,rfl,.inl ⟨j,ā.of g,rfl⟩,e _ f (.refl f) (by rw[k.length];rfl)⟩
 ·rename_i q;obtain⟨b,rfl,r⟩:=fG i;obtain⟨d,j,rfl,g,k⟩:=r.tupE;exact⟨_,_,rfl,.inr ⟨j,ô.of g,rfl⟩,e _ f (.refl f) (by rw[k.length];rfl)⟩
 ·rename_i ns;obtain⟨b,rfl,r⟩:=fG i;obtain⟨d,rfl,g⟩:=r.scrE;exact⟨_,_,rfl,.inl ⟨_,g,rfl⟩,e _ f (.refl f) (by rw[S_];rfl)⟩
 ·exact e.elim⟩
noncomputable def ki:List Q->Option (List Bool)|[]=>Z []|.bl b::r=>(match ki r with|some bs=>Z (b::bs)|none=>U)|_=>U
def pL:Ö|[.lst a]=>(match ki a with|some bs=>Z (.ok (.bl (bs.all id)))|none=>U)|_=>U
theorem pM{K:d_}{H:Hp}:∀{f:List Q}{e:List V}{a:List B}{bs:List Bool},S K H f e->Ï e a->ki f=Z bs->a=bs.map Q_
 |[],e,a,bs,r,q,h=>by cases(show e=[]from r);cases q;cases h;rfl|d::f,e,a,bs,r,q,h=>by obtain⟨v,o,rfl,j,i⟩:∃v a,e=v::a/\Ô K H d v/\S K H f a:=r;cases q with|cons m k=>
 cases d<;>try(cases h;done)
 rename_i b;simp only[ki]at h;cases g:ki f with|none=>rw[g]at h;cases h|some n=>rw[g]at h;cases h;cases(show v=.bl b from j);cases m;rw[pM i k g];rfl
theorem Ca:mB a (.builtin "all") (λA H Q=>∃d o bs w,A=[.ref d]/\H d=Z (.lst o)/\S a.K H w o/\ki w=Z bs/\a.calm=L/\Q (.bl (bs.all id)) H):=by
 intro f' s σ H A us Q I r h;obtain⟨d,o,bs,w,rfl,h1,h2,h3,hc,q⟩:=h;obtain⟨u,rfl,ru⟩:=iE r;cases ru;obtain⟨z,a',n,rv,hl,e⟩:=I.lstM h1;have k:=pM h2 rv h3;subst k;have E:s.heap.IsList d (bs.map Q_).toArray:=⟨_,e,rfl,_,rfl⟩;have y:d<s.heap.objs.size:=z_ e;refine call_all_walk (Ye E ?_);refine⟨s.heap.objs.size,[s.heap.objs.size,d],[s.heap.objs.size],(bs.map Q_).toArray.size,_,_,λi=>(bs[i]?).getD L,rfl,acq (A:=a.A.in1) (I.ok.hd hc) _ d (UI y) (bs.map Q_).toArray,⟨⟨_,w_ _ rfl,rfl,rfl⟩,E.push _⟩,λi v N Q' E' hP hQ=>?_,λh' tk hk=>?_⟩
 · have f:(bs.map Q_)[i]?=Z v:=by simpa using hP
   rw[P_]at f;cases j:bs[i]? with|none=>rw[j]at f;cases f|some b=>rw[j]at f;cases f;have m:Q' ((bs[i]?).getD L) N:=hQ;rw[j]at m;exact VX m
 · have e2:((t_ (bs.map Q_).toArray.size).all λi=>(bs[i]?).getD L)=bs.all id:=by
    rw[F_,S_];rw[VO];simp only[UY,UZ,id];constructor;·intro p b j;obtain⟨i,g,rfl⟩:=aaO.mp j;simpa[g]using p i g
    ·intro p i g;simp only[I_ g,abV];exact p _ (XH g)
   rw[e2];refine⟨.bl _,H,I.kept λb x k=>hk b x (λhm=>?_) (l_ _ k),rfl,q⟩;rw[Uy.mp hm]at k;exact VM _ (z_ k)
theorem LI(w:a.calm=L)(q:Gl a "all")(p:a.mg "all"=U)(z:FA a (h::v) ν)(s:k_ (h::v) a.env=(D,eval h a.env)::k_ v a.env:=by lk)(f:(UH u (k_ v a.env)).any (·.1)=D:=by lk):FE a (.Call (.Name "all" m) (h::v) [] u) (â pL ν):=ef (ka Ca q p PyProof.Rows.boot_all z.h (by decide) (by decide) s f) λN H Q i E o=>⟨i,E,ê.bind o λds vs g e1 n e=>by
 unfold pL at e;split at e
 · rename_i j;split at e;·rename_i bs y;obtain⟨d,rfl,r⟩:=fG n;obtain⟨b,k,rfl,I,A⟩:=r.lstE;exact⟨b,k,bs,j,rfl,I,A,y,w,e _ g (.refl g) rfl⟩
   ·exact e.elim
 ·exact e.elim⟩
noncomputable def tyD:Q->String|.non=>"NoneType"|.bl _=>"bool"|.int _=>"int"|.str _=>"str"|.tup _=>"tuple"|.lst _=>"list"|.scr _=>"list"|.exn _=>"object"|.obj _ _=>"object"
theorem GS(r:Ô s g j ψ)(m:∀e,j≠.scr e)(i:∀c,j≠.exn c)(n:∀k d,j≠.obj k d):vm s g ψ (.type (tyD j)):=by cases j with|non=>cases(show ψ=.non from r);exact .non|bl b=>cases(show ψ=.bl b from r);exact .bl b|int b=>cases(show ψ=.int b from r);exact .int b|str b=>cases(show ψ=.str b from r);exact .str b|tup d=>obtain⟨a,f,rfl,h,_⟩:=r.tupE;exact .tup h|lst d=>obtain⟨a,f,rfl,h,_⟩:=r.lstE;exact .lst h|scr e=>exact absurd rfl (m e)|exn c=>exact absurd rfl (i c)|obj k d=>exact absurd rfl (n k d)
theorem Cb(T:String):mB a (.builtin "isinstance") (λe H Q=>∃x t b,e=[x,.ty T]/\vm a.K H x t/\WT a.K t (.type T)=Z b/\Q (.bl b) H):=by intro o s m H e n Q I r h;obtain⟨x,t,b,rfl,g,k,q⟩:=h;obtain⟨u,f,rfl,j,d⟩:=KR r;cases(show f=q_ T from d);exact yu I j g k λi=>⟨.bl b,H,I.tok i,rfl,q⟩
noncomputable def j8(a:Q->Bool):Q->Option (Rs Q)|.scr _=>U|.exn _=>U|.obj _ _=>U|d=>Z (.ok (.bl (a d)))
variable{Ρ:Pos}
theorem vz{T:String}{w:Q->Bool}(hk:∀K d,WT K (.type (tyD d)) (.type T)=Z (w d))(hT:VN (b_ T)=Z (.type T))(N:b_ T≠"__name__")(s:(b_ T==("__debug__":Str))=D)(hg:Gl a "isinstance")(hm:a.mg "isinstance"=U)(q:Gl a (b_ T))(p:a.mg (b_ T)=U)(ha:FE a h z)(g:k_ [h,.Name (b_ T) Ρ] a.env=(D,eval h a.env)::k_ [.Name (b_ T) Ρ] a.env:=by lk)(j:k_ [.Name (b_ T) Ρ] a.env=(D,eval (.Name (b_ T) Ρ) a.env)::k_ [] a.env:=by lk)(n:(UH u (k_ [.Name (b_ T) Ρ] a.env)).any (·.1)=D:=by lk):FE a (.Call (.Name "isinstance" m) [h,.Name (b_ T) Ρ] [] u) (f1 (j8 w) z):=ef (ka (Cb T) hg hm PyProof.Rows.boot_isinstance (lg ha.h (lg (Gm (ψ:=.ty T) q p hT rfl N s) vn j) g) (by decide) (by decide) g n) λσ H f A E o=>⟨A,E,ì.bind o λd v y e1 r i=>by show∃x t b,[v,V.ty T]=[x,.ty T]/\_;cases d with|scr I=>exact i.elim|exn c=>exact i.elim|obj k ds=>exact i.elim|_=>exact⟨v,_,_,rfl,GS r (λI e=>by cases e) (λc e=>by cases e) (λk ds e=>by cases e),hk a.K _,i _ y (.refl y) rfl⟩⟩
noncomputable def rK:Q->Bool|.str _=>L|_=>D
theorem GT(K:d_)(d:Q):WT K (.type (tyD d)) (.type "str")=Z (rK d):=by cases d<;>lk
noncomputable def uo:Q->Bool|.tup _=>L|_=>D
theorem GU(K:d_)(d:Q):WT K (.type (tyD d)) (.type "tuple")=Z (uo d):=by cases d<;>lk
noncomputable def gm:Q->Bool|.bl _=>L|_=>D
theorem Cc(K:d_)(d:Q):WT K (.type (tyD d)) (.type "bool")=Z (gm d):=by cases d<;>lk
def fM(g:Str->Ö)(e:Ò)(d:á):Ò:=λa=>Ø (e a) λx=>match x with|.str i=>Ø (d a) λb=>g i b|_=>U
noncomputable def rL(h:Str->Str->Bool):Str->Ö|x,[.str y]=>Z (.ok (.bl (h x y)))|_,_=>U
noncomputable def Pc(h:Str->Str->Int):Str->Ö|x,[.str y]=>Z (.ok (.int (h x y)))|_,_=>U
def GV(h:Str->Str->Bool):V->List V->Hp->VK->Prop:=λx a H Q=>∃i j,x=.str i/\a=[.str j]/\Q (.bl (h i j)) H
def LJ(h:Str->Str->Int):V->List V->Hp->VK->Prop:=λx a H Q=>∃i j,x=.str i/\a=[.str j]/\Q (.int (h i j)) H
theorem Qj:Ŗ a "str.startswith" (GV UO):=by intro n s f H x g v k Q I b e h;obtain⟨i,j,rfl,rfl,q⟩:=h;obtain⟨t,rfl⟩:=b;obtain⟨u,rfl,d⟩:=iE e;obtain⟨m,rfl⟩:=d;exact SC.startswith ⟨.bl _,H,I,rfl,q⟩
theorem Qk:Ŗ a "str.endswith" (GV Y7):=by intro n s f H x g v k Q I b e h;obtain⟨i,j,rfl,rfl,q⟩:=h;obtain⟨t,rfl⟩:=b;obtain⟨u,rfl,d⟩:=iE e;obtain⟨m,rfl⟩:=d;exact SC.endswith ⟨.bl _,H,I,rfl,q⟩
theorem Cd:Ŗ a "str.rfind" (LJ acE):=by intro n s f H x g v k Q I b e h;obtain⟨i,j,rfl,rfl,q⟩:=h;obtain⟨t,rfl⟩:=b;obtain⟨u,rfl,d⟩:=iE e;obtain⟨m,rfl⟩:=d;exact SC.rfind ⟨.int _,H,I.tok _,⟨_,rfl⟩,q⟩
theorem GW{s:String}{r:V->List V->Hp->VK->Prop}{g:Str->Ö}(n:Slot "str" d s)(y:acg (.builtin s)=pure (.type "method_descriptor"))(hm:Ŗ a s r)(hg:∀i q p H Q,S a.K H q p->ì a H (g i q) Q->r (.str i) p H Q)(ho:FE a w z)(ha:FA a (h::v) ν)(k:Vd w d a.env (eval w a.env)=eval w a.env:=by lk)(o:((UH u (k_ (h::v) a.env)).all (λx=>!x.1)&&(Wd u (Vo [] a.env)).all (λx=>x.1.isSome)&&s_ ((h::v).length+([]:List Wl).length+(if([]:List Wl).isEmpty then 0 else 1)<30))=L:=by lk)(j:(m.endLine==u.line)=L:=by lk)(hs:k_ (h::v) a.env=(D,eval h a.env)::k_ v a.env:=by lk)(f:(UH u (k_ v a.env)).any (·.1)=D:=by lk):FE a (.Call (.Attribute w d m) (h::v) [] u) (fM g z ν):=ef (BY PySem.F.plainAttrs_str n y hm ho.h ha.h k o j hs f) λσ H Q A E w=>⟨A,E,ì.bind w λe b H1 e1 rd I=>by
 cases e<;>try exact(show False from I).elim
 rename_i i;cases(show b=.str i from rd);exact⟨rfl,A,E.mono e1,ê.bind I λq p H2 e2 N o2=>hg i q p H2 Q N o2⟩⟩
theorem EV{h:Str->Str->Bool}(i:Str)(f:List Q)(e:List V)(H:Hp)(b:VK)(g:S a.K H f e)(o:ì a H (rL h i f) b):GV h (.str i) e H b:=by
 unfold rL at o;split at o;·rename_i j;obtain⟨w,rfl,d⟩:=fG g;cases(show w=.str j from d);exact⟨i,j,rfl,rfl,o _ H (.refl H) rfl⟩
 ·exact o.elim
theorem LK{h:Str->Str->Int}(i:Str)(f:List Q)(e:List V)(H:Hp)(b:VK)(g:S a.K H f e)(o:ì a H (Pc h i f) b):LJ h (.str i) e H b:=by
 unfold Pc at o;split at o;·rename_i j;obtain⟨w,rfl,d⟩:=fG g;cases(show w=.str j from d);exact⟨i,j,rfl,rfl,o _ H (.refl H) rfl⟩
 ·exact o.elim
noncomputable def Ss(K:d_):R2:=λx y H Q=>∃(a b:O)(d:List Int),x=.ref a/\y=.ref b/\ā K H a (d.map V.int)/\H b=Z (.lst [])/\Q (.bl d.isEmpty) H
theorem Ql(g:a.A.units<cLine):ù a (UN .Eq) (Ss a.K):=by intro f' s σ H x y v u Q I p o h;obtain⟨d,b,f,rfl,rfl,N,E,q⟩:=h;cases p;cases o;obtain⟨e,r,pl,hz⟩:=I.list N;obtain⟨z2,m,n2,w,a',e2⟩:=I.lstM E;cases w;have k:s.heap.IsList b #[]:=⟨_,e2,rfl,_,rfl⟩;have j:=r.length;cases f with
 |nil=>
 have e0:e=[]:=by cases e with|nil=>rfl|cons _ _=>simp at j
 subst e0;exact SeqAt.eq_listAt (e:=λ_=>L) pl.isList k rfl g (λi A=>absurd A (by simp)) (by first|exact⟨.bl _,H,I,rfl,q⟩|(refine⟨.bl _,H,I,?_,q⟩;simp[Ú]))|cons n f=>
 refine SeqAt.eq_list_lengthsAt pl.isList k ?_ g ⟨.bl _,H,I,rfl,q⟩;have:0<e.length:=by rw[<-j];simp
 simp;exactλz=>by rw[z]at this;simp at this
noncomputable def Pd:Q->Q->Option (Rs Q)|.scr a,.lst []=>Z (.ok (.bl a.isEmpty))|_,_=>U
theorem Qm:Ĕ a (Ss a.K) Pd:=by
 intro n m x y H Q g f o;unfold Pd at o;split at o;·rename_i h;obtain⟨d,rfl,k⟩:=g.scrE;obtain⟨b,e,rfl,j,i⟩:=f.lstE;cases(show e=[]from i);exact⟨d,b,h,rfl,rfl,k,j,o _ H (.refl H) rfl⟩
 ·exact o.elim
theorem LL:VN (b_ "str")=Z (.type "str"):=PyProof.Rows.boot_str
theorem Ce:VN (b_ "tuple")=Z (.type "tuple"):=by decide+kernel
theorem GX:VN (b_ "bool")=Z (.type "bool"):=by decide+kernel
mutual
def gI:Q->PyData|.non=>.none|.bl b=>.bool b|.int i=>.int i|.str x=>.str x|.tup a=>.tuple (ó a)|.lst a=>.list (ó a)|.scr e=>.list (e.map PyData.int)|.exn _=>.dict []|.obj _ _=>.dict []def ó:List Q->List PyData|[]=>[]|d::f=>gI d::ó f
end
theorem oF{s:ge}:∀{b:List Int}{a:List B},Ï (b.map V.int) a->∃as,ReadsAll s.heap a (b.map PyData.int) as|[],a,r=>by cases r;exact⟨_,.nil⟩|n::b,a,r=>by cases r with|cons e d=>obtain⟨t,rfl⟩:=e;obtain⟨as,q⟩:=oF d;exact⟨_,.cons (.int n t) q⟩
mutual
theorem Ô.reads{X:C}{f':List (O×Obj)}{A:L2.St}{H:Hp}{s:ge}(I:Í X f' A H s):∀(d:Q)(v:V)(u:B),Ô X.K H d v->Ú v u->(gI d).canLay0=L->∃as,Reads s.heap u (gI d) as|.non,v,u,r,q,f=>by cases(show v=.non from r);cases(show u=J_ from q);exact⟨_,.none⟩|.bl b,v,u,r,q,f=>by cases(show v=.bl b from r);cases(show u=Q_ b from q);exact⟨_,.bool b⟩|.int i,v,u,r,q,f=>by cases(show v=.int i from r);obtain⟨t,rfl⟩:=(show∃t,u=ZR i t from q);exact⟨_,.int i t⟩|.str x,v,u,r,q,f=>by cases(show v=.str x from r);obtain⟨t,rfl⟩:=(show∃t,u=V6 x t from q);exact⟨_,.str x t⟩|.tup g,v,u,r,q,f=>by obtain⟨a,E,rfl,h,N⟩:=r.tupE;cases(show u=B_ a from q);obtain⟨j,p,⟨o,e,c,n,d⟩,hz⟩:=I.tuple (ô.of h);obtain⟨as,w⟩:=S.reads I g E j N p (by simpa[gI,UV]using f);exact⟨as,.tuple e c d (by simpa using w)⟩|.lst g,v,u,r,q,f=>by obtain⟨a,E,rfl,h,N⟩:=r.lstE;cases(show u=B_ a from q);obtain⟨z,j,n,p,hl,e⟩:=I.lstM h;obtain⟨as,w⟩:=S.reads I g E j N p (by simpa[gI,UV]using f);exact⟨a::as,.list e rfl rfl (by simpa using w)⟩|.scr ns,v,u,r,q,f=>by obtain⟨a,rfl,h⟩:=r.scrE;cases(show u=B_ a from q);obtain⟨j,p,⟨o,n,e,c,hd,d⟩,hz⟩:=I.list h;obtain⟨as,w⟩:=oF (s:=s) p;exact⟨a::as,.list e c d (by simpa using w)⟩|.exn c,v,u,r,q,f=>by simp[gI,UV]at f|.obj c g,v,u,r,q,f=>by simp[gI,UV]at f
theorem S.reads{X:C}{f':List (O×Obj)}{A:L2.St}{H:Hp}{s:ge}(I:Í X f' A H s):∀(g:List Q)(m:List V)(k:List B),S X.K H g m->Ï m k->WD (ó g)=L->∃as,ReadsAll s.heap k (ó g) as|[],m,k,r,q,_=>by cases(show m=[]from r);cases q;exact⟨_,.nil⟩|d::g,m,k,r,q,f=>by obtain⟨v,ws,rfl,r1,r2⟩:∃v k,m=v::k/\Ô X.K H d v/\S X.K H g k:=r;cases q with|cons q1 q2=>
 have y:(gI d).canLay0=L/\WD (ó g)=L:=by simpa[ó,WD]using f
 obtain⟨as,a⟩:=Ô.reads I d v _ r1 q1 y.1;obtain⟨bs,b⟩:=S.reads I g ws _ r2 q2 y.2;exact⟨_,.cons a b⟩end
noncomputable def okP(d:Q):Bool:=SeqAt.shaped (gI d)
def rPy(X:C)(d:Bool):R2:=λx y H Q=>∃b a,Ô X.K H b x/\Ô X.K H a y/\okP b=L/\okP a=L/\Q (.bl (if d then !Vr (gI b) (gI a)else Vr (gI b) (gI a))) H
theorem LM(m:a.A.units+64<cLine):ù a (UN .Eq) (rPy a D):=by intro r s p H x y v u Q I f e h;obtain⟨o,n,k,j,d,b,q⟩:=h;obtain⟨as,i⟩:=Ô.reads I o x v k f (Xy.mp d).1;obtain⟨bs,g⟩:=Ô.reads I n y u j e (Xy.mp b).1;exact SeqAt.compareEq_shaped i g d b m ⟨.bl _,H,I,rfl,q⟩
theorem LN(m:a.A.units+64<cLine):ù a (UN .NotEq) (rPy a L):=by intro r s p H x y v u Q I f e h;obtain⟨o,n,k,j,d,b,q⟩:=h;obtain⟨as,i⟩:=Ô.reads I o x v k f (Xy.mp d).1;obtain⟨bs,g⟩:=Ô.reads I n y u j e (Xy.mp b).1;exact SeqAt.compareNe_shaped i g d b m ⟨.bl _,H,I,rfl,q⟩
def Þ(x y:Q):Option (Rs Q):=match Ś x y with|some b=>Z (.ok (.bl b))|none=>if okP x&&okP y then Z (.ok (.bl (Vr (gI x) (gI y))))else U
def ė(x y:Q):Option (Rs Q):=match Ś x y with|some b=>Z (.ok (.bl (!b)))|none=>if okP x&&okP y then Z (.ok (.bl (!Vr (gI x) (gI y))))else U
def Su(X:C):R2:=λx y H Q=>rEq x y H Q\/rPy X D x y H Q
def Sv(X:C):R2:=λx y H Q=>rNe x y H Q\/rPy X L x y H Q
theorem GY(b:a.A.units+64<cLine):ù a (UN .Eq) (Su a):=op_eq.or (LM b)
theorem GZ(b:a.A.units+64<cLine):ù a (UN .NotEq) (Sv a):=op_ne.or (LN b)
theorem G0:Ĕ a (Su a) Þ:=by
 intro k j x y H Q f e o;unfold Þ at o;split at o;·rename_i b g;obtain⟨i,h⟩:=EO f e g;exact .inl ⟨i,by rw[h];exact o _ H (.refl H) rfl⟩
 · split at o;·rename_i d;rw[m_]at d;exact .inr ⟨k,j,f,e,d.1,d.2,o _ H (.refl H) rfl⟩
   ·exact o.elim
theorem Ha:Ĕ a (Sv a) ė:=by
 intro k j x y H Q f e o;unfold ė at o;split at o;·rename_i b g;obtain⟨i,h⟩:=EO f e g;exact .inl ⟨i,by rw[h];exact o _ H (.refl H) rfl⟩
 · split at o;·rename_i d;rw[m_]at d;exact .inr ⟨k,j,f,e,d.1,d.2,o _ H (.refl H) rfl⟩
   ·exact o.elim
noncomputable def G':Q->Q->Option (Rs Q)|.int i,.int j=>Z (.ok (.bl (s_ (i<j))))|.str x,.str y=>Z (.ok (.bl (s_ (x.cps.toList<y.cps.toList))))|_,_=>U
def Sw:R2:=λx y H Q=>Ř (λi j=>.bl (s_ (i<j))) x y H Q\/∃i j,x=.str i/\y=.str j/\Q (.bl (s_ (i.cps.toList<j.cps.toList))) H
theorem LO:ù a (UN .Lt) Sw:=op_lt.or yn
theorem LP:Ĕ a Sw G':=by
 intro f e x y H Q d b o;cases f<;>cases e<;>try exact(show False from o).elim
 ·rename_i i j;exact .inl ⟨i,j,d,b,o _ H (.refl H) rfl⟩
 ·rename_i i j;exact .inr ⟨i,j,d,b,o _ H (.refl H) rfl⟩
theorem rM:∀(a:List Str)(k:Nat),Ï (a.map V.str) (strsFrom k a)|[],_=>.nil|p::a,k=>.cons ⟨k,rfl⟩ (rM a (k+1))
theorem rN{K:d_}{H:Hp}:∀a:List Str,S K H (a.map Q.str) (a.map V.str)|[]=>rfl|p::a=>⟨.str p,a.map V.str,rfl,rfl,rN a⟩
noncomputable def iV:Str->Ö|x,[.str y]=>if y.length≠0/\x.length<=100000/\(Wy x y).length<=100000 then Z (.ok (.lst ((Wy x y).map Q.str)))else U|_,_=>U
def EW:V->List V->Hp->VK->Prop:=λx a H Q=>∃i j,x=.str i/\a=[.str j]/\j.length≠0/\i.length<=sizeLine/\(Wy i j).length<=sizeLine/\∀p,H p=U->Q (.ref p) (ß H p (.lst ((Wy i j).map V.str)))
theorem Cf:Ŗ a "str.split" EW:=by
 intro A s o H x E v N Q I p w h;obtain⟨i,j,rfl,rfl,y,z,g,q⟩:=h;obtain⟨t,rfl⟩:=p;obtain⟨u,rfl,r⟩:=iE w;obtain⟨f,rfl⟩:=r;have n:(j.length==0)=D:=by simpa using y
 have one:∀{m:ge},m={s with heap:=s.heap.push {cls:=.type "list",data:=.seq [V6 i t].toArray}}->Wy i j=[i]->EP a A o Q (.ref s.heap.objs.size) m:=λe k=>by subst e;rw[k]at q;exact⟨.ref _,_,I.lnew (its:=[V6 i t]) (ys:=[V.str i]) (t':=s.toks) (.cons ⟨t,rfl⟩ .nil) (by show 1<=sizeLine;decide),rfl,q _ I.fresh⟩
 cases b:(s_ (i.length<j.length)||s_ (Wi i<Wi j))
 · cases d:(UU i j 0 i.length (i.length+1)).isEmpty
   · have k:Wy i j=Builtin.Str.partsBetween i (UU i j 0 i.length (i.length+1)) j.length:=by unfold Wy;rw[if_neg (by rw[b];exact y_),if_neg (by rw[d];exact y_)]
     rw[k]at q g;refine W6 Yb (X0 _ _ _) Zy (Zm _ _) (meets_str_split_sep i j t f b n d z g) ?_;exact⟨.ref _,_,I.lnew (t':=_) (rM _ _) (by rw[S_];exact g),rfl,q _ I.fresh⟩
   ·refine W6 Yb (X0 _ _ _) Zy (Zm _ _) (meets_str_split_not_found i j t f b n d) ?_;exact one rfl (by unfold Wy;rw[if_neg (by rw[b];exact y_),if_pos d])
 ·refine W6 Yb (X0 _ _ _) Zy (Zm _ _) (meets_str_split_cannot_occur i j t f b) ?_;exact one rfl (by unfold Wy;rw[if_pos b])
theorem Hb(i:Str)(g:List Q)(f:List V)(H:Hp)(b:VK)(h:S a.K H g f)(o:ì a H (iV i g) b):EW (.str i) f H b:=by
 unfold iV at o;split at o
 · rename_i j;split at o;·rename_i d;obtain⟨w,rfl,e⟩:=fG h;cases(show w=.str j from e);exact⟨i,j,rfl,rfl,d.1,ce d.2.1,ce d.2.2,λp k=>o _ _ (aJ k _) ⟨p,_,rfl,aw,rN _⟩⟩
   ·exact o.elim
 ·exact o.elim
noncomputable def wX:List Q->Option (List Str)|[]=>Z []|.str x::r=>(match wX r with|some a=>Z (x::a)|none=>U)|_=>U
def Cg:Str->Ö|x,[.lst b]=>(match wX b with|some a=>if JoinOk x a=L then Z (.ok (.str (Xs x a)))else U|none=>U)|_,_=>U
def LQ(K:d_):V->List V->Hp->VK->Prop:=λx f H Q=>∃i a d e b,x=.str i/\f=[.ref a]/\H a=Z (.lst d)/\S K H e d/\wX e=Z b/\JoinOk i b=L/\Q (.str (Xs i b)) H
theorem oG{K:d_}{H:Hp}:∀{f:List Q}{e:List V}{a:List B}{g:List Str},S K H f e->Ï e a->wX f=Z g->∃l:List (Str×Tok),a=strValues l/\l.map (·.1)=g
 |[],e,a,g,r,q,h=>by cases(show e=[]from r);cases q;cases h;exact⟨[],rfl,rfl⟩|d::f,e,a,g,r,q,h=>by obtain⟨v,u,rfl,k,j⟩:∃v a,e=v::a/\Ô K H d v/\S K H f a:=r;cases q with|cons n m=>
 cases d<;>try(cases h;done)
 rename_i b;simp only[wX]at h;cases i:wX f with|none=>rw[i]at h;cases h|some s=>rw[i]at h;cases h;cases(show v=.str b from k);obtain⟨t,rfl⟩:=n;obtain⟨l,p,o⟩:=oG j m i;exact⟨(b,t)::l,by rw[p];rfl,by rw[G_,o]⟩
theorem Hc:Ŗ a "str.join" (LQ a.K):=by intro f' s E H x N v us Q I d j h;obtain⟨i,b,vs,ds,ts,rfl,rfl,r,p,o,m,q⟩:=h;obtain⟨t,rfl⟩:=d;obtain⟨u,rfl,g⟩:=iE j;cases g;obtain⟨z,A,n,f,hl,e⟩:=I.lstM r;obtain⟨l,y,w⟩:=oG p f o;subst y;exact SC.join ⟨_,e,rfl,_,rfl⟩ w m λt' k=>⟨.str _,H,I.tok _,⟨_,rfl⟩,q⟩
theorem LR(i:Str)(g:List Q)(f:List V)(H:Hp)(b:VK)(k:S a.K H g f)(o:ì a H (Cg i g) b):LQ a.K (.str i) f H b:=by
 unfold Cg at o;split at o
 · rename_i r;split at o
   · rename_i j m;split at o;·rename_i n;obtain⟨w,rfl,e⟩:=fG k;obtain⟨d,h,rfl,q,p⟩:=e.lstE;exact⟨i,d,h,r,j,rfl,rfl,q,p,m,n,o _ H (.refl H) rfl⟩
     ·exact o.elim
   ·exact o.elim
 ·exact o.elim
noncomputable def pN:Str->Ö|x,[.str y]=>if y.length≠0/\x.length<=100000 then Z (.ok (.tup [.str (Wo x y).1,.str (Wo x y).2.1,.str (Wo x y).2.2]))else U|_,_=>U
def LS:V->List V->Hp->VK->Prop:=λx a H Q=>∃i j,x=.str i/\a=[.str j]/\j.length≠0/\i.length<=sizeLine/\∀p,H p=U->Q (.ref p) (ß H p (.tup [.str (Wo i j).1,.str (Wo i j).2.1,.str (Wo i j).2.2]))
theorem Hd:Ŗ a "str.partition" LS:=by
 intro f' s p H x xs v us Q I y A h;obtain⟨i,j,rfl,rfl,N,hi,q⟩:=h;obtain⟨t,rfl⟩:=y;obtain⟨u,rfl,z⟩:=iE A;obtain⟨w,rfl⟩:=z;have E:(j.length==0)=D:=by simpa using N
 have f:∀(d b c:Str)(n m g:Tok)(k:Nat),Wo i j=(d,b,c)->EP a f' p Q (.ref s.heap.objs.size) {s with toks:=k,heap:=s.heap.push {cls:=.type "tuple",data:=.seq [V6 d n,.str b m,.str c g].toArray}}:=λd b c n m g k e=>by rw[e]at q;refine⟨.ref _,_,I.laid (t':=k) (λb u e=>l_ _ e) (on _) ?_,rfl,q _ I.fresh⟩;exact⟨by show 3<=sizeLine;decide,[V6 d n,.str b m,.str c g],.cons ⟨_,rfl⟩ (.cons ⟨_,rfl⟩ (.cons ⟨_,rfl⟩ .nil)),⟨_,w_ _ rfl,rfl,_,rfl⟩⟩
 refine W6 ZT (X0 _ _ _) F.entry_str_partition (F.args_str_partition_2 _ _) (meets_str_partition i j t w E hi) ?_;cases o:UU i j 0 i.length 1 with|nil=>exact f _ _ _ _ _ _ _ (by unfold Wo;rw[o])|cons k r=>exact f _ _ _ _ _ _ _ (by unfold Wo;rw[o])
theorem LU(i:Str)(g:List Q)(e:List V)(H:Hp)(b:VK)(h:S a.K H g e)(o:ì a H (pN i g) b):LS (.str i) e H b:=by
 unfold pN at o;split at o
 · rename_i j;split at o;·rename_i f;obtain⟨w,rfl,d⟩:=fG h;cases(show w=.str j from d);exact⟨i,j,rfl,rfl,f.1,ce f.2,λp k=>o _ _ (aJ k _) ⟨p,_,rfl,aw,⟨_,_,rfl,rfl,_,_,rfl,rfl,_,_,rfl,rfl,rfl⟩⟩⟩
   ·exact o.elim
 ·exact o.elim
noncomputable def gO:Ö|[.lst a]=>Z (.ok (.tup a))|[.tup a]=>Z (.ok (.tup a))|_=>U
theorem Ci(y:Gl a "tuple")(w:a.mg "tuple"=U)(A:FA a (h::v) ν)(z:k_ (h::v) a.env=(D,eval h a.env)::k_ v a.env:=by lk)(j:(UH u (k_ v a.env)).any (·.1)=D:=by lk):FE a (.Call (.Name "tuple" m) (h::v) [] u) (â gO ν):=ef (kc pH y w (by decide+kernel) A.h (by decide) (by decide) z j) λI H Q q E o=>⟨q,E,ê.bind o λds N p e1 k f=>by
 unfold gO at f;split at f;·rename_i s;obtain⟨d,rfl,r⟩:=fG k;obtain⟨b,e,rfl,g,i⟩:=r.lstE;exact⟨b,e,rfl,.inl ⟨ā.of g,λl n=>f _ _ (aJ n _) ⟨l,e,rfl,aw,S.mono (aJ n _) _ _ i⟩⟩⟩
 ·rename_i s;obtain⟨d,rfl,r⟩:=fG k;obtain⟨b,e,rfl,g,i⟩:=r.tupE;exact⟨b,e,rfl,.inr ⟨ô.of g,f _ p (.refl p) ⟨b,e,rfl,g,i⟩⟩⟩
 ·exact f.elim⟩
def Pe(x:Q):List Q->Nat->Option Nat|[],_=>U|y::a,k=>if eqF y x then Z k else Pe x a (k+1)
def Qn:List Q->Ö|a,[x]=>if lT x&&a.all lT&&s_ (a.length<=100000)then(match Pe x a 0 with|some j=>Z (.ok (.int j))|none=>U)else U|_,_=>U
theorem yQ{K:d_}{H:Hp}{x:Q}{u:V}(q:Ô K H x u)(o:lT x=L):∀{d:List Q}{b:List V}{k j:Nat},S K H d b->d.all lT=L->Pe x d k=Z j->k<=j/\(∃v,b[j-k]?=Z v/\Ŋ v u=L)/\∀(m:Nat)v,m<j-k->b[m]?=Z v->Ŋ v u=D
 |[],b,k,j,r,_,h=>by cases h|y::s,b,k,j,r,g,h=>by
  obtain⟨v,ws,rfl,E,A⟩:∃v i,b=v::i/\Ô K H y v/\S K H s i:=r;rw[Wa,m_]at g;unfold Pe at h;have p:=ES E q g.1 o;split at h;·rename_i f;cases h;refine⟨on _,⟨v,by simp,by rw[p];exact f⟩,λm w I=>by omega⟩
  · rename_i f;obtain⟨a,⟨w,b1,N⟩,c⟩:=yQ q o A g.2 h;refine⟨by omega,⟨w,?_,N⟩,λm z I n=>?_⟩
    · have e:j-k=(j-(k+1))+1:=by omega
      rw[e,X_];exact b1
    ·cases m with|zero=>
      have:z=v:=by simpa using n.symm
      subst this;rw[p];simpa using f|succ m=>exact c m z (by omega) (by simpa using n)
def LV:V->List V->Hp->VK->Prop:=λx d H Q=>∃a b y j,x=.ref a/\d=[y]/\H a=Z (.lst b)/\jR y=L/\b.all jR=L/\b.length<=100000/\(∃v,b[j]?=Z v/\Ŋ v y=L)/\(∀(m:Nat)v,m<j->b[m]?=Z v->Ŋ v y=D)/\Q (.int j) H
theorem EY(r:Ï ι μ)(f:ι.all jR=L){m:Nat}{v:V}(h:ι[m]?=Z v):∃a:m<μ.length,Ń ψ μ[m]=Ŋ v ψ:=by obtain⟨u,d,b⟩:=r.get h;obtain⟨a,e⟩:=H_.mp d;refine⟨a,?_⟩;rw[e];exact yD b (UY.mp f v (UG h))
theorem Cj:Ŗ a "list.index" LV:=by
 intro f' s σ H x xs v us Q I A N h;obtain⟨b,r,y,j,rfl,rfl,h1,fy,g,hz,⟨w,hw,p⟩,k,q⟩:=h;cases A;obtain⟨u,rfl,E⟩:=iE N;obtain⟨z,i,n,f,hl,e⟩:=I.lstM h1;obtain⟨hj,ej⟩:=EY (ψ:=y) f g hw;refine W6 ZU ⟨_,e,rfl⟩ PySem.F.entry_list_index (PySem.F.args_list_index_2 _ _) (SeqAt.list_indexAt b i.toArray n U #[] u (Ń y) j (by simpa using hj) (by omega) (by simpa[ej]using p) λm hm o=>?_) ⟨e,λt ht=>jx E fy f g t (by simpa using ht),⟨.int j,H,I.tok _,⟨_,rfl⟩,q⟩⟩;have d:m<r.length:=by rw[f.length];simpa using hm
 obtain⟨a',em⟩:=EY (ψ:=y) f g (I_ d);have:=k m r[m] o (I_ d);simpa[em]using this
def fML(g:List Q->Ö)(e:Ò)(d:á):Ò:=λa=>Ø (e a) λx=>match x with|.lst i=>Ø (d a) λb=>g i b|_=>U
theorem Ck(ho:FE a w z)(ha:FA a (h::v) ν)(n:Vd w "index" a.env (eval w a.env)=eval w a.env:=by lk)(r:((UH u (k_ (h::v) a.env)).all (λx=>!x.1)&&(Wd u (Vo [] a.env)).all (λx=>x.1.isSome)&&s_ ((h::v).length+([]:List Wl).length+(if([]:List Wl).isEmpty then 0 else 1)<30))=L:=by lk)(k:(m.endLine==u.line)=L:=by lk)(hs:k_ (h::v) a.env=(D,eval h a.env)::k_ v a.env:=by lk)(g:(UH u (k_ v a.env)).any (·.1)=D:=by lk):FE a (.Call (.Attribute w "index" m) (h::v) [] u) (fML Qn z ν):=ef (BY WV ZU PySem.F.type_list_index Cj ho.h ha.h n r k hs g) λσ H Q s E w=>⟨s,E,ì.bind w λd f H1 e1 rd A=>by
 cases d<;>try exact(show False from A).elim
 rename_i ds;obtain⟨e,y,rfl,N,I⟩:=rd.lstE;refine⟨.inl ⟨rfl,y,ā.of N⟩,s,E.mono e1,ê.bind A λv ws H2 e2 rs i=>?_⟩;unfold Qn at i;split at i
 · rename_i x;split at i
   · rename_i o;rw[m_,m_]at o;split at i;·rename_i j hj;obtain⟨b,rfl,p⟩:=fG rs;have q:=S.mono e2 _ _ I;obtain⟨c1,c2,c3⟩:=yQ p o.1.1 q o.1.2 hj;refine⟨e,y,b,j,rfl,rfl,e2 _ _ N,ul p o.1.1,pJ q o.1.2,by rw[I.length];exact of_decide_eq_true o.2,by simpa using c2,by simpa using c3,i _ H2 (.refl H2) rfl⟩
     ·exact i.elim
   ·exact i.elim
 ·exact i.elim⟩
structure FG(X:C)(tg:r_)(b:Q->Ev->Option Ev):Prop where h:∀(f':List (O×Obj))(s:ge)(σ:L2.St)(H:Hp)(v:V)(u:B)(d:Q)(ρ ρ':Ev),Í X f' σ H s->Ú v u->Ô X.K H d v->Û X.K H σ ρ->b d ρ=Z ρ'->v_ (E_ X.prog X.w) X.A (W7 tg X.env u) (λ_ s'=>∃σ' H',Í X f' σ' H' s'/\Ñ H H'/\Û X.K H' σ' ρ') X.xe s
noncomputable def gN(i:Nat):Q->Ev->Option Ev:=λd a=>Z (a.set i (Z d))
noncomputable def gP(i j:Nat):Q->Ev->Option Ev:=λd b=>match d with|.tup [a,c]=>Z ((b.set i (Z a)).set j (Z c))|_=>U
theorem He(i:Nat){x:Str}(o:a.N.Nodup)(k:a.N[i]?=Z x)(j:ł a.env.scope x)(n:a.fn x=L\/a.env.scope.names.lookup x=Z .local):FG a (.Name x m) (gN i):=⟨λp s f H v u d A z I r h E e=>by cases e;exact å (iD o k j n p s f H v u (λb g=>g=H/\b=f.set i (Z v)) I r ⟨rfl,rfl⟩) λ_ N⟨b,g,y,w,q⟩=>by subst w q;exact⟨_,_,y,.refl _,E.set h⟩⟩
theorem yR(i j:Nat){x y:Str}{k:Nat}(hc:a.calm=L)(z:a.N.Nodup)(hi:a.N[i]?=Z x)(hx:ł a.env.scope x)(hf:a.fn x=L\/a.env.scope.names.lookup x=Z .local)(hj:a.N[j]?=Z y)(hy:ł a.env.scope y)(hg:a.fn y=L\/a.env.scope.names.lookup y=Z .local)(p:(UJ [.Name x u,.Name y Ρ] a.env).map (·.2)=W7 (.Name x u) a.env::(UJ [.Name y Ρ] a.env).map (·.2):=by lk)(o:(UJ [.Name y Ρ] a.env).map (·.2)=W7 (.Name y Ρ) a.env::(UJ [] a.env).map (·.2):=by lk)(hn:(UJ [.Name x u,.Name y Ρ] a.env).length=2:=by lk)(n:(UJ [.Name x u,.Name y Ρ] a.env).findIdx? (·.1)=U:=by lk):FG a (.Tuple [.Name x u,.Name y Ρ] k m) (gP i j):=⟨λf' s q H v b d ρ a' I r N E e=>by
 unfold gP at e;split at e;·rename_i f c;cases e;obtain⟨ad,xs,rfl,h1,h2⟩:=N.tupE;obtain⟨w,h,rfl,ra,rc⟩:=GR h2;refine å (Ez (k:=2) hc (pB (iD (b:=i) z hi hx hf) (pB (iD (b:=j) z hj hy hg) yh o) p) hn n f' s q H _ b (λg A=>A=H/\g=(q.set i (Z w)).set j (Z h)) I r ⟨ad,_,rfl,ô.of h1,rfl,w,[h],rfl,h,[],rfl,rfl,rfl,rfl⟩) λ_ s'⟨g,A,I',e1,e2⟩=>?_;subst e1 e2;exact⟨_,_,I',.refl _,(E.set ra).set rc⟩
 ·cases e⟩
structure P'(K:d_)(J:It)(ds:List Q)(H0:Hp):Prop where
 go:∀i H,Ñ H0 H->i<ds.length->J.go i H
 stop:∀H,Ñ H0 H->J.stop ds.length H
 yld:∀i H x H',Ñ H0 H->i<ds.length->J.yld i H x H'->Ñ H H'/\∃d,ds[i]?=Z d/\Ô K H' d x
theorem Wk.toG{J:It}(w:Wk s J H g):P' s J H g:=⟨w.go,w.stop,λi a x j e b y=>by obtain⟨rfl,d,h,f⟩:=w.yld i a x j e b y;exact⟨.refl _,d,h,f⟩⟩
def ī(X:C)(H:Hp)(o:Option (Rs (List Q)))(R:It->Hp->Prop):Prop:=match o with|none=>False|some (.exc c)=>XW X c H|some (.ok b)=>∀J a,Ñ H a->P' X.K J b a->R J a
theorem ī.mono{R:It->Hp->Prop}(e:Ñ g Α):∀{o:Option (Rs (List Q))},ī a g o R->ī a Α o R|none,h=>h|some (.exc _),h=>XW.mono h e|some (.ok _),h=>λv d b r=>h v d (e.trans b) r
structure ř(X:C)(tg iter:r_)(f:á):Prop where h:PI X tg iter λσ H R=>∃ρ,Û X.K H σ ρ/\ī X H (f ρ) R
theorem FI.toG(d:FI a h w ν):ř a h w ν:=⟨λi s g H R I⟨f,E,o⟩=>d.h i s g H R I ⟨f,E,by match k:ν f,o with|some (.exc c),o=>exact o|some (.ok m),o=>exactλJ j e b=>o J j e b.toG⟩⟩
noncomputable def i5(m:Nat)(b:List (Str×Nat))(a:Ev):Ev:=u_ m U++b.map λc=>(a[c.2]?).join
noncomputable def lN(b:Q->Ev->Option Ev)(a:Option è)(e:Ò)(f:Ev):List Q->Option (List Q)|[]=>Z []|d::h=>match b d f with|none=>U|some g=>match(match a with|none=>(Z (.ok L):Option (Rs Bool))|some t=>t g)with|some (.ok L)=>(match e g with|some (.ok y)=>(match lN b a e f h with|some i=>Z (y::i)|none=>U)|_=>U)|some (.ok D)=>lN b a e f h|_=>U
noncomputable def rO(m:Nat)(b:List (Str×Nat))(a:L2.St):L2.St:=u_ m U++b.map λc=>(a[c.2]?).join
theorem rP{l:List (Option δ)}(h:(u_ b (U:Option δ)++l)[k]?=Z (Z Ë)):∃a,k=b+a/\l[a]?=Z (Z Ë):=by
 by_cases d:k<b;·rw[M_ (by simpa using d),W0,if_pos d]at h;cases h
 ·refine⟨k-b,by omega,?_⟩;rw[L_ (by simpa using d)]at h;simpa using h
theorem yS(m:Nat)(e:List (Str×Nat))(E:Û s g Λ ε):Û s g (rO m e Λ) (i5 m e ε):=by refine⟨by simp[rO,i5],λi d h=>?_⟩;obtain⟨k,rfl,a⟩:=rP h;rw[P_]at a;cases b:e[k]? with|none=>rw[b]at a;simp at a|some c=>
 rw[b]at a;simp only[Xi,Yq]at a;have n:ε[c.2]?=Z (Z d):=by cases q:ε[c.2]? with|none=>rw[q]at a;simp at a|some o=>rw[q]at a;simp at a;rw[a]
 obtain⟨v,j,f⟩:=E.at' c.2 d n;refine⟨v,?_,f⟩;unfold rO;rw[L_ (by simp)];simp only[VI,ZZ,P_,b,Xi,j];rfl
theorem rQ{R:abh->ge->Prop}{a':r_}{c':B}{j:Env}(d:Nat->ge->Prop)(d':∀n f,d n f->v_ (E_ r q) I (Yg Β) (λa z=>match a with|none=>R (.ok .next) z|some g=>v_ (E_ r q) I (YU w Β g) (λ_ N=>v_ (E_ r q) I (W7 w j g) (λ_ H=>v_ (E_ r q) I (acG v L λc a=>if a=L then do let ok<-isTrue c j (eval c j);pure (YZ ok)else pure (YZ a)) (λok y=>if ok=L then v_ (E_ r q) I (eval h j) (λx u=>v_ (E_ r q) I (call (.builtin "list.append") [c',x]) (λ_ s=>∃b,b<n/\d b s) (Z6 (E_ r q) I j λe p=>R (.error e) p) u) (Z6 (E_ r q) I j λe p=>R (.error e) p) y else∃b,b<n/\d b y) (Z6 (E_ r q) I j λe p=>R (.error e) p) H) (Z6 (E_ r q) I j λe p=>R (.error e) p) N) (Z6 (E_ r q) I j λe p=>R (.error e) p) z) (Z6 (E_ r q) I j λe p=>R (.error e) p) f)(n:Nat)(i:d n f):Xp (E_ r q) I (.compLoop (.ListComp h [⟨w,a',v,0⟩] χ m) 0 Β c' j) R f:=by refine codeAny_loop rfl d (λn f hI=>?_) n i;show v_ _ I ((compTurn (.ListComp h [⟨w,a',v,0⟩] χ m) 0 Β c' j).onRaise (λx=>do abL x j;theTreesLotGoes x)) _ _ f;refine wpAny_noted ?_;rw[compTurn_list];refine e_ (aa4 (e_ (U5 (d' n f hI) (λa z b'=>?_) λ_ _ o=>o)));cases a with|none=>exact j_ b'|some g=>refine e_ (U5 b' (λ_ N f'=>?_) λ_ _ o=>o);refine e_ (U5 f' (λ_ H e'=>e_ (U5 e' (λok y k=>?_) λ_ _ o=>o)) λ_ _ o=>o);cases ok with
 |false=>rw[if_neg y_]at k;first|exact e_ (j_ (j_ ⟨rfl,k⟩))|exact j_ ⟨rfl,k⟩|(show v_ _ _ (again _) _ _ _;exact j_ ⟨rfl,k⟩)
 |true=>rw[if_pos rfl]at k;first|exact e_ (e_ (U5 k (λx u E=>e_ (U5 E (λ_ s A=>j_ (j_ ⟨rfl,A⟩)) λ_ _ o=>o)) λ_ _ o=>o))|exact e_ (U5 k (λx u E=>e_ (U5 E (λ_ s A=>j_ ⟨rfl,A⟩) λ_ _ o=>o)) λ_ _ o=>o)
def dc(m:Nat)(i:List (Str×Nat))(d:á)(b:Q->Ev->Option Ev)(a:Option è)(e:Ò):Ò:=λf=>Ø (d f) λh=>match lN b a e (i5 m i f) h with|some g=>if g.length<=100000/\h.length<=100000 then Z (.ok (.lst g))else U|none=>U
theorem Qo{j:List (Str×Nat)}{a:Q->Ev->Option Ev}{d:Option è}{o:Rs Q}(h:dc b j ν a d z ε=Z o):(∃c,ν ε=Z (.exc c)/\o=.exc c)\/∃e f,ν ε=Z (.ok e)/\lN a d z (i5 b j ε) e=Z f/\e.length<=100000/\f.length<=100000/\o=.ok (.lst f):=by unfold dc at h;match i:ν ε with|none=>rw[i]at h;cases h|some (.exc c)=>rw[i]at h;cases h;exact .inl ⟨c,rfl,rfl⟩|some (.ok e)=>rw[i]at h;dsimp only[Ø]at h;match g:lN a d z (i5 b j ε) e with
 |none=>rw[g]at h;cases h|some f=>
 rw[g]at h;dsimp only at h;split at h;·rename_i k;cases h;exact .inr ⟨e,f,rfl,g,k.2,k.1,rfl⟩
 ·cases h
theorem LW(e:List (Str×Nat))(b:Ev)(d:Q)(a:Ev)(h:gN 0 d (i5 1 e b)=Z a):fgt [0] a=i5 1 e b:=by cases h;rfl
theorem Qp(e:List (Str×Nat))(b:Ev)(d:Q)(a:Ev)(h:gP 0 1 d (i5 2 e b)=Z a):fgt [0,1] a=i5 2 e b:=by
 unfold gP at h;split at h;·cases h;rfl
 ·cases h
def Ite(K:d_)(a:O):It:=⟨λi H=>∃b x,ā K H a b/\b[i]?=Z x,λi H v d=>∃p x,v=.ref p/\H p=U/\d=ß H p (.tup [.int i,x])/\∀b,ā K H a b->b[i]?=Z x,λi H=>∃b,ā K H a b/\b.length<=i⟩
theorem yT(a e A:O)(e':e≠A):BE r q s (.Tuple v b m) (Ite s a) [e,A] e (λi h=>(∃N,IsEnum h e A i N)/\h.IsListIter A a i)where
 mem:=by simp
 obj:=λi h st f hb=>by
  obtain⟨⟨N,he⟩,o,e2,c,d⟩:=st;have n':f=e\/f=A:=by simpa using hb
  rcases n' with rfl|rfl;·exact⟨_,he,λk z=>by cases z⟩
  ·exact⟨o,e2,λk z=>by rw[d]at z;cases z⟩
 keep:=λi h h' st kk=>by obtain⟨⟨N,he⟩,a'⟩:=st;exact⟨⟨N,kk e (by simp) _ he⟩,a'.at λo ee=>kk A (by simp) o ee⟩
 item:=by
  intro X hP hw hK hc i f' j σ H E I hf st hg;subst hP hw hK;obtain⟨xs,x,hq,hx⟩:=hg;obtain⟨l',rv,p,hz⟩:=I.list hq;obtain⟨u,hu,ru⟩:=rv.get hx;obtain⟨⟨N,he⟩,a'⟩:=st;obtain⟨f0,f1,R,f3,f4,f5⟩:=hf e (by simp);obtain⟨g0,g1,g2,g3,g4,g5⟩:=hf A (by simp);refine wpAny_pyNext_enum_item he a' p.isList (x:=u) (by simpa using hu) e' λh' eo k' tp sz kk=>?_;refine⟨_,rfl,wpAny_letOwnedTupleGo_enum eo λh2 m' c'=>?_⟩;have hp:H j.heap.objs.size=U:=I.hok.fresh (on _);have g':e<j.heap.objs.size:=z_ he;have k2:∀f o,f∉[e,A]->j.heap.get? f=Z o->h2.get? f=Z o:=λf o hb g=>c'.extBut f o (λz=>hb (by simp[z])) (kk f o (λz=>hb (by simp[z])) (λz=>hb (by simp[z])) g);have i':h2.get? j.heap.objs.size=Z {cls:=.type "tuple",data:=.seq #[.int i j.toks,u]}:=c'.extBut _ _ (XG g') tp;have I1:Í X f' σ (ß H j.heap.objs.size (.tup [.int i,x])) {j with heap:=h2,toks:=j.toks+1}:=by
   have nt:∀f u,H f=Z u->f∉[e,A]:=λf u g z=>by
    have z':f=e\/f=A:=by simpa using z
    rcases z' with rfl|rfl;·rw[f0]at g;cases g
    ·rw[g0]at g;cases g
   refine I.step (g':=j.gens) (d':=j.drawn) (ch:=[e,A]) (λf hb=>?_) (λf o _ _ b' g _=>k2 f o b' g) (λf o _ _ b' g _=>⟨o.slots,k2 f o b' g⟩) (λf o b' g n=>?_) (λf o b' g=>⟨o,k2 f o b' g⟩) (λf ys g=>by rw[aA (aF g hp)];exact g) (λf o ys g=>by rw[aA (aF g hp)];exact g) (λf ps g=>⟨#[],by rw[aA (aF g hp),g];simp⟩) (λy hm=>?_) (λf u2 g=>?_) I.bare
   · have z':f=e\/f=A:=by simpa using hb
     rcases z' with rfl|rfl;·exact⟨f3,f1,f4,f5⟩
     ·exact⟨g3,g1,g4,g5⟩
   ·rw[aA (UI (z_ g))];exact n
   ·obtain⟨o,o',ep,ho,w⟩:=hm;exact⟨o,o',ep,k2 _ o (λz=>by
      have z':X.env.locals=e\/X.env.locals=A:=by simpa using z
      rcases z' with z'|z';·exact f1 z'.symm
      ·exact g1 z'.symm) ho,w⟩
   · by_cases hb:f=j.heap.objs.size;·subst hb;rw[aw]at g;cases g;exact⟨by show 2<=sizeLine;decide,[.int i j.toks,u],.cons ⟨_,rfl⟩ (.cons ru .nil),⟨_,i',rfl,_,rfl⟩⟩
     · rw[aA hb]at g;refine(I.hok f u2 g).stay (λc k d' qq=>k2 c k ?_ qq) (λc qq=>by rw[aA (aF qq hp)];exact qq) λc ys qq=>by rw[aA (aF qq hp)];exact qq
       rcases d' with rfl|d';·exact nt _ _ g
       ·exact nt _ _ d'
  refine⟨.ref j.heap.objs.size,_,I1,rfl,⟨_,x,rfl,hp,rfl,λzs hy=>by rw[I.list_inj hy hq];exact hx⟩,⟨⟨_,by simpa using m'⟩,?_⟩,λf hb=>?_⟩;·exact k'.at λo g=>c'.extBut _ _ (UK e') g
  · have z':f=e\/f=A:=by simpa using hb
    rcases z' with rfl|rfl;·rw[aA (UI g')];exact f0
    ·obtain⟨o,g,_⟩:=id a';rw[aA (UI (z_ g))];exact g0
 done:=by intro X hP hw hK hc i f' j σ H E I hf st hg;subst hP hw hK;obtain⟨xs,hq,hx⟩:=hg;obtain⟨l',rv,p,hz⟩:=I.list hq;obtain⟨⟨N,he⟩,a'⟩:=st;obtain⟨g0,g1,g2,g3,g4,g5⟩:=hf A (by simp);have hl:=rv.length;exact wpAny_pyNext_enum_end (I.ok.hd hc) he a' p.isList (by simp;omega) λh' eb=>⟨rfl,I.turned (t':=j.toks) (λf o hb e=>eb f o hb e) g0 g1 g3 g4 g5⟩
 self:=λ_ _ _ _ _ st h=>by obtain⟨⟨N,he⟩,_⟩:=st;exact wpAny_pyIter_enum he h
noncomputable def lh:Nat->List Q->List Q|_,[]=>[]|k,d::a=>.tup [.int k,d]::lh (k+1) a
theorem jc:∀(a:List Q)(k:Nat),(lh k a).length=a.length|[],_=>rfl|d::a,k=>by show(lh (k+1) a).length+1=a.length+1;rw[jc]
theorem rR:∀(a:List Q)(k i:Nat)(d:Q),a[i]?=Z d->(lh k a)[i]?=Z (.tup [.int ((k+i:Nat):Int),d])
 |[],_,_,_,h=>by simp at h|d::a,k,0,b,h=>by simp at h;subst h;rfl|d::a,k,i+1,b,h=>by
  have q:=rR a (k+1) i b (by simpa using h);show(Q.tup [.int k,d]::lh (k+1) a)[i+1]?=_;rw[X_,q];have e:k+1+i=k+(i+1):=by omega
  rw[e]
theorem Hh(h:g e=Z (.lst ι))(r:S s g H ι):P' s (Ite s e) (lh 0 H) g where
 go:=λi j a b=>by
  rw[jc]at b;have k:i<ι.length:=by rw[r.length];exact b
  exact⟨ι,ι[i],ā.of (a _ _ h),by simp[k]⟩
 stop:=λj a=>⟨ι,ā.of (a _ _ h),by rw[r.length,jc];exact on _⟩;yld:=λi j v o a b y=>by obtain⟨p,x,rfl,f,rfl,y⟩:=y;obtain⟨d,n,m⟩:=S.get (S.mono a _ _ r) (y ι (ā.of (a _ _ h)));have q:=rR H 0 i d n;rw[Xd]at q;exact⟨aJ f _,_,q,⟨p,_,rfl,aw,⟨.int i,[x],rfl,rfl,x,[],rfl,Ô.mono (aJ f _) _ _ m,rfl⟩⟩⟩
def Co:List Q->Option (Rs (List Q))|[.lst a]=>Z (.ok (lh 0 a))|_=>U
theorem Cp(hg:Gl a "enumerate")(hm:a.mg "enumerate"=U)(ha:FA a [h] ν)(hs:k_ [h] a.env=[(D,eval h a.env)]:=by lk):ř a (.Tuple v b m) (.Call (.Name "enumerate" u) [h] [] Ρ) (λp=>Ø (ν p) Co):=by
 constructor;intro f' s σ H R I g;obtain⟨p,E,o⟩:=g;have key:ê a H (ν p) λy A=>∃q,S a.K A q y/\ī a A (Co q) R:=by match hf:ν p,o with|some (.exc c),o=>exact o|some (.ok q),o=>exactλy A e z=>⟨q,z,ī.mono e o⟩
 refine Call_ (jL I hg hm (show VN "enumerate"=Z (.type "enumerate")by decide+kernel) (Vz (å (ha.h Ρ f' s σ H _ I ⟨p,E,key⟩) λus k⟨y,w,n,r1,q,z,r⟩=>?_) hs rfl));unfold Co at r;split at r
 · rename_i xs;obtain⟨i,rfl,rv⟩:=fG z;obtain⟨f,ws,rfl,h1,h2⟩:=rv.lstE;obtain⟨j,rfl,ru⟩:=iE r1;cases ru;obtain⟨c',b',pl,hz⟩:=n.list (ā.of h1);refine call_enumerate_list pl.isList λh' he N d' kk=>?_;refine wpAny_pyIter_enum he ?_;have I2:Í a f' σ w {k with heap:=h'}:=n.kept (t':=k.toks) kk;refine⟨k.heap.objs.size+1,[k.heap.objs.size+1,k.heap.objs.size],_,Ite a.K f,w,rfl,I2,yT f _ _ (Nat.succ_ne_self _),⟨⟨_,he⟩,N⟩,λd hb=>?_,r _ w (.refl w) (Hh h1 h2)⟩;have a':d=k.heap.objs.size+1\/d=k.heap.objs.size:=by simpa using hb
   rcases a' with rfl|rfl;·exact n.fpOk (ZB _) (n.hok.fresh (ZB _))
   ·exact n.fpOk (on _) (n.hok.fresh (on _))
 ·exact r.elim
noncomputable def Qq:List Nat->List V->L2.St->L2.St|i::is,v::b,a=>Qq is b (a.set i (Z v))|_,_,a=>a
noncomputable def Pf:List Nat->List Q->Ev->Ev|i::is,d::b,a=>Pf is b (a.set i (Z d))|_,_,a=>a
def Hi(b:List Nat):ų:=λa d H Q=>a.length=b.length/\Q (Qq b a d) H
theorem vA{t e:ų}(h:ŝ a v t)(w:∀d b H Q,e d b H Q->t d b H Q):ŝ a v e:=λg s b H d f Q I r q=>h g s b H d f Q I r (w d b H Q q)
theorem LX:ŝ a [] (Hi []):=vA yh λb d H Q⟨l,q⟩=>by cases b with|nil=>exact⟨rfl,q⟩|cons v r=>cases l
theorem Hj(i:Nat){x:Str}{d:List Nat}{b:List r_}(o:a.N.Nodup)(k:a.N[i]?=Z x)(g:ł a.env.scope x)(n:a.fn x=L\/a.env.scope.names.lookup x=Z .local)(h:ŝ a b (Hi d))(j:(UJ (.Name x m::b) a.env).map (·.2)=W7 (.Name x m) a.env::(UJ b a.env).map (·.2):=by lk):ŝ a (.Name x m::b) (Hi (i::d)):=vA (pB (iD (b:=i) o k g n) h j) λf e H Q⟨l,q⟩=>by cases f with|nil=>cases l|cons v r=>exact⟨v,r,rfl,(⟨Nat.succ.inj l,q⟩:Hi d r (e.set i (Z v)) H Q)⟩
theorem Û.setAll{K:d_}{H:Hp}:∀(is:List Nat){b:List Q}{a:List V}{e:L2.St}{f:Ev},Û K H e f->S K H b a->Û K H (Qq is a e) (Pf is b f)|[],_,_,_,_,E,_=>E|_::_,[],a,_,_,E,r=>by cases(show a=[]from r);exact E|i::is,d::b,a,e,f,E,r=>by obtain⟨v,g,rfl,h,t⟩:∃v g,a=v::g/\Ô K H d v/\S K H b g:=r;exact Û.setAll is (E.set h) t
def Tx(a:List Nat)(d:Ev):Q->Option Fl|.tup b=>if b.length=a.length then Z (.nx (Pf a b d))else U|_=>U
def LY(b:List Nat)(f:Ò):Ù:=λa=>db (f a) (Tx b a)
theorem LZ{j:List Nat}(hc:a.calm=L)(e:ŝ a v (Hi j))(he:FE a h z)(hn:(UJ v a.env).length=j.length:=by lk)(y:(UJ v a.env).findIdx? (·.1)=U:=by lk)(hs:aa6 [.Tuple v b u] h m.line a.env=pure D:=by lk)(hw:aa7 [.Tuple v b u] h a.env=pure U:=by lk)(q:(UJ [.Tuple v b u] a.env).map (·.2)=[W7 (.Tuple v b u) a.env]:=by lk):FS a (.Assign [.Tuple v b u] h m) (LY j z):=uf (EA he.h (Ez (k:=j.length) hc e hn y) hs hw q) λg σ H A E o=>⟨A,E,ì.bindS o λd i w h r I=>by cases d with
 |tup s=>
 have k:õ a w (if s.length=j.length then Z (.nx (Pf j s A))else U) g:=I;by_cases n:s.length=j.length;·rw[if_pos n]at k;obtain⟨f,N,rfl,q,p⟩:=r.tupE;exact⟨f,N,rfl,ô.of q,p.length.trans n,p.length.trans n,k _ w (.refl w) (Û.setAll j (E.mono h) p)⟩
 ·rw[if_neg n]at k;exact k.elim|_=>exact I.elim⟩
theorem ay{b:Ù}{a:Ev}(h:Φ ε=Z (.nx a)):aN Φ b ε=b a:=by unfold aN;rw[h];rfl
theorem mJ{b:Ù}(h:Φ ε=Z (.rt j)):aN Φ b ε=Z (.rt j):=by unfold aN;rw[h];rfl
theorem cy(h:Ξ ε=Z (.ok D)):br Ξ Φ (λε=>Z (.nx ε)) ε=Z (.nx ε):=by unfold br;rw[h];rfl
theorem cf{a:Ev}(h:z ε=Z (.ok j))(e:ε.set b (Z j)=a):cG b z ε=Z (.nx a):=by unfold cG;rw[h,<-e];rfl
theorem l4(h:z ε=Z (.ok j)):eW z ε=Z (.nx ε):=by unfold eW;rw[h];rfl
theorem fg(h:z ε=Z (.ok j)):aO z ε=Z (.rt j):=by unfold aO;rw[h];rfl
theorem yU{b:è}(h:Ξ ε=Z (.ok L)):mI Ξ b ε=b ε:=by unfold mI;rw[h];rfl
theorem yV{b:è}(h:Ξ ε=Z (.ok D)):mI Ξ b ε=Z (.ok D):=by unfold mI;rw[h];rfl
theorem li(h:Ξ ε=Z (.ok E)):cQ Ξ ε=Z (.ok (!E)):=by unfold cQ;rw[h];rfl
theorem bK(h:z ε=Z (.ok (.bl E))):fB z ε=Z (.ok E):=by unfold fB;rw[h];rfl
theorem bi{g:Q->Q->Option (Rs Q)}(b:z ε=Z (.ok j))(a:É ε=Z (.ok θ)):R g z É ε=g j θ:=by unfold R;rw[b,a];rfl
theorem yW(h:ε[b]?=Z (Z j)):Y b ε=Z (.ok j):=by unfold Y;rw[h]
theorem ae(h:z ε=Z (.ok j))(t:ν ε=Z (.ok H)):aR z ν ε=Z (.ok (j::H)):=by unfold aR;rw[h,t];rfl
theorem au:bQ ε=Z (.ok []):=rfl
theorem pO(h:ν ε=Z (.ok H))(a:H.length=b)(d:Ψ H=Z (.ok j)):ag Ψ b ν ε=Z (.ok j):=by unfold ag;rw[h];show(if _ then _ else _)=_;rw[if_pos a,d]
theorem fV(F:Ö){f:Ò}{b:Ev}{a d:Q}(h:f b=Z (.ok a))(e:F [a]=Z (.ok d)):ag F 1 (aR f bQ) b=Z (.ok d):=pO (ae h au) rfl e
theorem hX(F:Ö){f g:Ò}{e:Ev}{a b d:Q}(h:f e=Z (.ok a))(j:g e=Z (.ok b))(i:F [a,b]=Z (.ok d)):ag F 2 (aR f (aR g bQ)) e=Z (.ok d):=pO (ae h (ae j au)) rfl i
theorem lj(h:ν ε=Z (.ok H))(a:H.length<=100000):dH ν ε=Z (.ok (.tup H)):=by unfold dH;rw[h];show(if _ then _ else _)=_;rw[if_pos a]
theorem L0(h:z ε=Z (.ok (.bl D))):Ķ z É ε=É ε:=by unfold Ķ;rw[h];rfl
theorem L1(h:z ε=Z (.ok (.bl L))):Ķ z É ε=Z (.ok (.bl L)):=by unfold Ķ;rw[h];rfl
theorem L4(h:z ε=Z (.ok (.bl L))):jS z É ε=É ε:=by unfold jS;rw[h];rfl
theorem dj(h:ν ε=Z (.ok H)):â Ψ ν ε=Ψ H:=by unfold â;rw[h];rfl
theorem Qr(h:Ξ ε=Z (.ok L)):Ł Ξ z É ε=z ε:=by unfold Ł;rw[h];rfl
theorem Qs(h:Ξ ε=Z (.ok D)):Ł Ξ z É ε=É ε:=by unfold Ł;rw[h];rfl
theorem uq(h:ν ε=Z (.ok H))(a:H.length<=100000):gK ν ε=Z (.ok (.lst H)):=by unfold gK;rw[h];show(if _ then _ else _)=_;rw[if_pos a]
theorem iW(h:Φ (H.map Z++u_ (b-H.length) U)=Z (.rt j)):bR b Φ H=Z (.ok j):=by unfold bR;rw[h]
structure Aft(X:C)(e:O)(Ts:List O)(h h':N_):Prop where
 keep:∀b o,h.get? b=Z o->b≠e->b∉Ts->b∉frs X.stack->h'.get? b=Z o
 slot:∀b o,h.get? b=Z o->b∈frs X.stack->∃sl,h'.get? b=Z {o with slots:=sl}
theorem Aft.any{h:N_}(A:Aft a e ο h N){b:O}{o:Obj}(q:h.get? b=Z o)(i:b≠e)(g:b∉ο):∃f,N.get? b=Z {o with slots:=f}:=by
 by_cases d:b∈frs a.stack;·exact A.slot b o q d
 ·exact⟨o.slots,A.keep b o q i g d⟩
theorem Í.aft(I:Í a ζ Λ g f)(A:Aft a e ο f.heap N)(b':a.ex=[])(H:∀b,b=e\/b∈ο->g b=U/\a.s₀.heap.get? b=U/\(∀p∈a.pn++ζ,p.1≠b)/\∃o E,f.heap.get? b=Z o/\o.data=.fields E):Í a ζ Λ g {f with heap:=N}:=by
 have nE:∀b,g b≠U->b≠e/\b∉ο:=λb j=>⟨λz=>j (H b (.inl z)).1,λz=>j (H b (.inr z)).1⟩;have n0:∀b o,a.s₀.heap.get? b=Z o->b≠e/\b∉ο:=λb o j=>⟨λz=>(by simp:(Z o:Option Obj)≠U) (j.symm.trans (H b (.inl z)).2.1),λz=>(by simp:(Z o:Option Obj)≠U) (j.symm.trans (H b (.inr z)).2.1)⟩;have nx:∀b,b∉a.ex:=λb=>by rw[b'];simp
 have nD:∀b o,f.heap.get? b=Z o->(∀E,o.data≠.fields E)->b≠e/\b∉ο:=λb o j hd=>
  have go:(b=e\/b∈ο)->False:=λz=>by obtain⟨o',E,q,d⟩:=(H b z).2.2.2;rw[j]at q;cases q;exact hd E d
  ⟨λz=>go (.inl z),λz=>go (.inr z)⟩;have nS:∀b∈frs a.stack,g b=U:=I.stkFree;have y:∀c v,f.heap.IsCell c v->N.IsCell c v:=λc v⟨o,ho,hd⟩=>by
  obtain⟨w,s⟩:=nD c o ho λE q=>by rw[hd]at q;cases q
  obtain⟨sl,q⟩:=A.any ho w s;exact⟨_,q,hd⟩
 refine⟨I.ok,I.os,I.bare,⟨λb o q n j hx=>?_,λb o q n j hx=>?_,I.base.free,λb o q hx=>?_,I.base.tups,I.base.frzs,I.base.tbls⟩,?_,λx c q=>?_,I.free,I.freeC,λp hp=>?_,λh o q=>?_,I.len⟩
 · have h1:=I.base.keep b o q n j hx;obtain⟨w,s⟩:=n0 b o q;refine A.keep b o h1 w s λz=>?_;rcases uk.mp (I.stkSub b z)with z|z;·exact absurd z (UI (Uz (z_ q) I.ok.above))
   ·exact j z
 ·obtain⟨sl,h1⟩:=I.base.slot b o q n j hx;obtain⟨w,s⟩:=n0 b o q;obtain⟨a',h2⟩:=A.any h1 w s;exact⟨a',h2⟩
 ·obtain⟨o',h1⟩:=I.base.there b o q hx;obtain⟨w,s⟩:=n0 b o q;obtain⟨sl,h2⟩:=A.any h1 w s;exact⟨_,h2⟩
 · obtain⟨m,⟨o,es,ep,ho,hd,r⟩,hl⟩:=I.loc;obtain⟨w,s⟩:=nD _ o ho λE q=>by rw[hd]at q;cases q
   obtain⟨sl,q⟩:=A.any ho w s;refine⟨m,⟨_,es,ep,q,hd,r⟩,λi x v e1 e2 e3=>?_⟩;obtain⟨u,ru,l⟩:=hl i x v e1 e2 e3;refine⟨u,ru,?_⟩;rcases l with l|⟨k,c,ec,z⟩;·exact .inl l
   ·exact .inr ⟨k,c,ec,y c _ z⟩
 ·obtain⟨v,z⟩:=I.cell x c q;exact⟨v,y c v z⟩
 · obtain⟨q,n,ne,nf,d⟩:=I.pin p hp;have w:p.1≠e:=(H e (.inl rfl)).2.2.1 p hp;have s:p.1∉ο:=λz=>(H p.1 (.inr z)).2.2.1 p hp rfl;refine⟨A.keep p.1 p.2 q w s λz=>?_,n,ne,nf,d⟩;rcases uk.mp (I.stkSub _ z)with z|z;·exact ne z
   ·exact nf z
 · refine(I.hok h o q).stay (λb u j hu=>?_) (λ_ z=>z) λ_ _ z=>z;have hn:g b≠U:=by
    rcases j with rfl|j;·rw[q];simp
    ·rw[j];simp
   exact A.keep b u hu (nE b hn).1 (nE b hn).2 λz=>hn (nS b z)
abbrev ľ(X:C)(e:O)(a:List O)(h:N_):N_:=ab_ h (e::(a++frs X.stack))
theorem vB(I:Í a ζ Λ g f)(k:(ľ a e ο f.heap).StaysIn N)(u:∀b o,f.heap.get? b=Z o->(∀i,o.data≠.fields i)->∃j,N.get? b=Z {o with slots:=j}):Aft a e ο f.heap N:=⟨λb o q p n m=>k b o (Y1 _ q (by simp only[uk,R_];rintro(z|z|z);exact p z;exact n z;exact m z)),λb o q r=>by obtain⟨_,s,h,d⟩:=I.stack.mem r;rw[q]at h;cases h;exact u b o q d⟩
theorem pP(I:Í a ζ Λ g f):f.heap.FunFrames (ľ a e ο f.heap) a.stack:=PySem.W.funFrames_hide I.stack λh i b d=>rl _ (o_ _ (Zr.mpr ⟨h,i,d⟩))
theorem Ů.imp{b f:O->Prop}(F:Ů b g e Β N)(k:∀a,b a->f a):Ů f g e Β N:=by
 obtain⟨z,y,v,h,A,u,s,r,q,d⟩:=F;refine⟨z,k _ y,v,h,A,u,s,r,q,?_⟩;rcases d with d|⟨T,w,i,p,o,n,m,j⟩;·exact .inl d
 ·exact .inr ⟨T,w,i,p,o,n,k _ m,j⟩
theorem EZ(I:Í a ζ Λ g f)(p:a.ex=[])(he:g e=U/\a.s₀.heap.get? e=U)(hT:∀T∈ο,g T=U/\a.s₀.heap.get? T=U)(ff:N.FunFrames (ľ a e ο f.heap) a.stack){T:O}{s:Obj}{r:Array B}(E:(ľ a e ο f.heap).get? T=U)(A:T≠e)(H:N.get? T=Z s)(hd:s.data=.fields r):g T=U/\a.s₀.heap.get? T=U:=by
 have w:T∉frs a.stack:=λz=>by obtain⟨_,o,q,d⟩:=ff.mem z;rw[H]at q;cases q;exact d r hd
 have k:T∈ο\/f.heap.get? T=U:=by cases q:f.heap.get? T with|none=>exact .inr rfl|some o=>
   by_cases j:T∈ο;·exact .inl j
   ·have:=Y1 (e::(ο++frs a.stack)) q (by simp only[uk,R_];rintro(z|z|z);exact A z;exact j z;exact w z);rw[E]at this;cases this
 rcases k with j|j;·exact hT T j
 · constructor;·cases q:g T with|none=>rfl|some u=>
    have i:=I.hok T u q;exfalso;have:∃o,f.heap.get? T=Z o:=by clear q;induction u with|lst v=>obtain⟨_,_,_,_,z⟩:=i;exact⟨_,z⟩|tup v=>obtain⟨_,_,_,o,z,_⟩:=i;exact⟨_,z⟩|dK m=>obtain⟨_,_,_,_,o,_,_,z,_⟩:=i;exact⟨_,z⟩|dT m=>obtain⟨_,_,_,_,o,_,_,z,_⟩:=i;exact⟨_,z⟩|set S n=>obtain⟨o,_,_,_,z,_⟩:=i;exact⟨_,z⟩|ins h dx fs=>obtain⟨_,_,_,z,_⟩:=i;exact⟨_,z⟩|own y=>obtain⟨_,z⟩:=i;exact⟨_,z⟩|xd fs=>obtain⟨_,⟨_,_,_,z,_⟩,_⟩:=i;exact⟨_,z⟩|rng lo hi=>obtain⟨_,_,_,z⟩:=i;exact⟨_,z⟩|frz ob u ih=>obtain⟨z,_⟩:=i;exact⟨_,z⟩|tbl ps=>obtain⟨_,z,_⟩:=i;exact⟨_,z⟩|met b y=>exact⟨_,(show f.heap.get? T=Z _ from i)⟩|ext φ=>obtain⟨_,⟨_,z⟩,_⟩:=i;exact⟨_,z⟩
    obtain⟨o,z⟩:=this;rw[j]at z;cases z
   ·cases q:a.s₀.heap.get? T with|none=>rfl|some o=>obtain⟨o',z⟩:=I.base.there T o q (by rw[p];simp);rw[j]at z;cases z
theorem rS(I:Í a ζ Λ g f)(H:a.ex=[])(h:a.stack=a.env::a.outer)(A:a.env.frame=Z a.env.locals)(F:Ů (λd=>a.s₀.heap.get? d=U) g e Β f.heap){Q:Unit->ge->Prop}{E:B->ge->Prop}(k:∀i Ts,Ů (λd=>a.s₀.heap.get? d=U) g e Β i->Aft a e Ts f.heap i->(∀b,b=e\/b∈Ts->g b=U/\a.s₀.heap.get? b=U/\∃o r,f.heap.get? b=Z o/\o.data=.fields r)->Q () {f with heap:=i}):v_ (E_ a.prog a.w) a.A (leaving a.env (.ref e)) Q E f:=by
 obtain⟨f1,R,oe,r,a0,q1,q2,q3,q4,q5⟩:=F;have y:a.A.frames=Z (a.env::a.outer):=h▸I.ok.frames;subst q2;rcases q5 with q5|⟨T,oT,N,r1,r2,r3,r4,r5,r6,r7⟩
 · have b3:f.heap.FunFrames (ľ a e [] f.heap) (a.env::a.outer):=h▸pP I;refine wpAny_leaving_firstW (base:=ľ a e [] f.heap) y b3 A q1 (λb o z=>W9 _ z) (VS _ (pi ..)) q3 q5 q4 λi hL=>?_;obtain⟨k1,k2,⟨p,m,T,oT,N,t1,⟨t2,t3⟩,t4,t5,t6,v,u,s,n⟩,k4⟩:=hL;have q:i.FunFrames (ľ a e [] f.heap) a.stack:=h▸k2;have w:=EZ I H ⟨f1,R⟩ (λ_ z=>absurd z (by simp)) q t6 v u s;refine k i [] ⟨f1,R,p,m,a0,t1,t2,t4,t3,.inr ⟨T,oT,N,t5,v,w.1,w.2,u,s,n⟩⟩ (vB I k1 k4) λb j=>?_;rcases j with rfl|j;·exact⟨f1,R,oe,r,q1,q3⟩
   ·cases j
 · have b3:f.heap.FunFrames (ľ a e [T] f.heap) (a.env::a.outer):=h▸pP I;have ht:f.heap.TracedW (ľ a e [T] f.heap) e oe.cls a0:=⟨oe,r,T,oT,N,q1,⟨rfl,q4⟩,q3,r1,VS _ (by simp),r2,r5,r6,r7⟩;refine wpAny_leaving_nextW (base:=ľ a e [T] f.heap) y b3 A ht (λb o z=>W9 _ z) (VS _ (pi ..)) λi hL=>?_;obtain⟨k1,k2,⟨p,m,T',b',a',t1,⟨t2,t3⟩,t4,t5,t6,v,u,s,n⟩,k4⟩:=hL;have q:i.FunFrames (ľ a e [T] f.heap) a.stack:=h▸k2;have w:=EZ I H ⟨f1,R⟩ (λT0 z=>by simp at z;subst z;exact⟨r3,r4⟩) q t6 v u s;refine k i [T] ⟨f1,R,p,m,a0,t1,t2,t4,t3,.inr ⟨T',b',a',t5,v,w.1,w.2,u,s,n⟩⟩ (vB I k1 k4) λb j=>?_;rcases j with rfl|j;·exact⟨f1,R,oe,r,q1,q3⟩
   ·simp at j;subst j;exact⟨r3,r4,oT,N,r5,r6⟩
def ķ(P:n_)(w:xy):ŀ:=λb H s E h d=>∃e f g,h=.ref e/\d.os=s.os/\Y_ d.gens/\Un (frs b) [] H g s.heap d.heap/\ĉ P w g d.heap/\Ů (λa=>s.heap.get? a=U) g e f d.heap/\E f U g
def spE(K:d_)(F:Ö)(n:Nat):Sp:=λe H Q E=>∃b,S K H b e/\b.length=n/\match F b with|some (.ok d)=>∀v a,Ñ H a->Ô K a d v->Q v a|some (.exc c)=>∀C a,U0 K C_ (Ĩ c)=Z (Z (.ref C))->Ñ H a->E (.ref C) U a|none=>False
def EX(X:C):XK:=λb _ d=>∃c a,b=.ref a/\U0 X.K C_ (Ĩ c)=Z (Z (.ref a))/\XW X c d
theorem wY(i:a.ex=[]):j9 (ķ a.prog a.w) a (EX a):=by
 intro r k H s A m I⟨e,N,u,y,os,g,un,h,F,c,f,j,hC,v⟩;have E:Í a r k u m:=I.call' (ch:=[]) os un h g λb z=>absurd z (by simp);refine v r k u m A (λ_ _ z=>z) E ⟨e,f,y,hC,j▸F.imp λd n=>⟨?_,λp w z=>?_⟩⟩;·cases q:a.s₀.heap.get? d with|none=>rfl|some o=>obtain⟨o',z⟩:=I.base.there d o q (by rw[i];simp);rw[n]at z;cases z
 ·have:=(I.pin p (K_ _ w)).1;rw[z,n]at this;cases this
def aG(F:Ö)(n:Nat)(g:á):Ò:=λb=>Ø (g b) λa=>if a.length=n then F a else U
def Pg(P:n_)(w:xy)(K:d_)(d:Str->Option B)(a:N_)(x:Str)(k:Nat)(b:List Str)(F:Ö):Prop:=∃f e,í P w K d a (ķ P w) k f e b (spE K F b.length)/\d x=Z (.ref f)/\Vk K (.ref f)=L/\ð K e b []
theorem Cq(e:Nat)(p:List Str)(F:Ö)(g:Pg a.prog a.w a.K a.mg a.base d e p F)(hr:Ü k a.A)(hk:e<=k)(z:a.ex=[])(hg:Gl a d)(ha:FA a (h::v) ν)(hn:b=p.length:=by lk)(A:(d==("__debug__":Str))=D:=by lk)(he:k_ (h::v) a.env=(D,eval h a.env)::k_ v a.env:=by lk)(w:(UH u (k_ v a.env)).any (·.1)=D:=by lk):FE a (.Call (.Name d m) (h::v) [] u) (aG F b ν):=by
 subst hn;obtain⟨f,fd,G,hm,y,hb⟩:=g;refine ef (pD (G.mono hk) hr hg hm y hb .nil (wY z) ha.h A he w) λσ H Q I E o=>⟨I,E,ê.bind o λs N H' h rs n=>?_⟩;show spE a.K F p.length (N++[]) H' Q (EX a);rw[WA];by_cases q:s.length=p.length
 ·rw[if_pos q]at n;refine⟨s,rs,q,?_⟩;match r:F s with|none=>rw[r]at n;exact n.elim|some (.ok j)=>rw[r]at n;exact n|some (.exc c)=>rw[r]at n;exactλi H1 hC e1=>⟨c,i,rfl,hC,XW.mono n e1⟩
 ·rw[if_neg q]at n;exact n.elim
noncomputable def gJ(m:Nat)(b:Ù):Ö:=λa=>match b (a.map Z++u_ (m-a.length) U)with|some (.nx _)=>Z (.ok .non)|some (.rt d)=>Z (.ok d)|some (.exc c)=>Z (.exc c)|none=>U
theorem Qt{m:List Env}{E:XK}(k:∀C n,U0 s C_ (Ĩ b)=Z (Z (.ref C))->Ñ g n->E (.ref C) U n):XW (pF (ķ r q) r q s Ι N y d χ e Β I m f g E) b g:=by intro f' σ n z ev e1 h⟨j,C,A,hC,F⟩;subst A;have F':Ů (λa=>f.heap.get? a=U) n j (.ref C) z.heap:=F.imp λa H=>H.1;refine rS h rfl rfl rfl F' λh' Ts F2 A2 u=>?_;have w:=Í.aft (ζ:=[]) (h.pins_of (pins':=[]) λp o=>nomatch o) A2 rfl λi v=>⟨(u i v).1,(u i v).2.1,λp o=>absurd (show p∈([]:List (O×Obj))from o) (by simp),(u i v).2.2⟩;exact⟨j,.ref C,n,rfl,h.os,h.bare,w.base,w.hok,F2,k C n hC e1⟩
theorem Fa(f y:List Str)(z:Ù)(hF:Ψ=gJ f.length z)(hn:k=y.length)(Fn:ļ s d p Ε e Ä)(S:iF f y (av Ε))(hb:∀(o:B)(A:D_)(n:List Env)(g:ge)(H:Hp)(E:XK),Ü b (A.deeper (Xc p (av Ε) g.heap.objs.size e o))->ġ (pF (ķ r q) r q s Ι N f p (av Ε) e o A n g H E) (bZ Ε) z):í r q s Ι N (ķ r q) (b+1) e Ä y (spE s Ψ k):=by
 subst hF hn;obtain⟨oc,od,kV,d',pm,an,o,ct,c',rfl,lk,a'⟩:=Fn.ex;refine BU lk a' S (λvs H Q E h=>?_) λA n g H vs Q E hr h=>?_;·obtain⟨u,i,hl,_⟩:=h;rw[i.length,hl]
 ·obtain⟨u,i,hl,a⟩:=h;refine⟨_,(hb o A n g H E hr).h,u.map Z++u_ (f.length-u.length) U,oz i,?_⟩;unfold gJ at a;match w:z (u.map Z++u_ (f.length-u.length) U)with|none=>rw[w]at a;exact a.elim|some (.exc c)=>rw[w]at a;exact Qt a|some (.rt m)=>rw[w]at a;exactλv I j r'=>a v I j r'|some (.nx ρ)=>rw[w]at a;exactλb' I j _=>a .non I j rfl
theorem pQ(i:ĉ r q g N){a:O}{u:HO}(b:g a=Z u):∃o,N.get? a=Z o:=by have d:=i a u b;clear b;induction u with|lst h=>obtain⟨_,_,_,_,z⟩:=d;exact⟨_,z⟩|tup h=>obtain⟨_,_,_,o,z,_⟩:=d;exact⟨_,z⟩|dK e=>obtain⟨_,_,_,_,o,_,_,z,_⟩:=d;exact⟨_,z⟩|dT e=>obtain⟨_,_,_,_,o,_,_,z,_⟩:=d;exact⟨_,z⟩|set S n=>obtain⟨o,_,_,_,z,_⟩:=d;exact⟨_,z⟩|ins C v fs=>obtain⟨_,_,_,z,_⟩:=d;exact⟨_,z⟩|own y=>obtain⟨_,z⟩:=d;exact⟨_,z⟩|xd fs=>obtain⟨_,⟨_,_,_,z,_⟩,_⟩:=d;exact⟨_,z⟩|rng lo s=>obtain⟨_,_,_,z⟩:=d;exact⟨_,z⟩|frz m u p=>obtain⟨z,_⟩:=d;exact⟨_,z⟩|tbl k=>obtain⟨_,z,_⟩:=d;exact⟨_,z⟩|met f y=>exact⟨_,(show N.get? a=Z _ from d)⟩|ext j=>obtain⟨_,⟨_,z⟩,_⟩:=d;exact⟨_,z⟩
theorem yX(d:ĉ r q g N){a:O}(n:N.get? a=U):g a=U:=by cases b:g a with|none=>rfl|some u=>obtain⟨o,z⟩:=pQ d b;rw[n]at z;cases z
theorem yY{a:String}(X:s.In N)(u:Ι d=Z (.ref e))(q:aa_ s e μ a=L):OwnCls d e μ a Ι N:=by
 constructor;·exact u
 unfold aa_ at q;split at q
 · rename_i dd cd r look;split at q;·rename_i C2 rest m k j i f h n H;simp only[m_,beq_iff_eq,abJ]at q;have e1:=q.1.1.1.1.1;have e2:=q.1.1.1.1.2;have p:=q.1.1.1.2;have e4:=q.1.1.2;have b:=q.1.2;have o:=q.2;clear q;subst e1 e2;obtain⟨f1,R,f3,E,A,z,y,w,v,g,a'⟩:=cd;dsimp only at n p b o;subst n p;obtain⟨l⟩:=r;have I:l=[m,k,j,i,Z (.builtin f),h]:=H;subst I;refine⟨rest,E,f1,A,R,z,y,w,v,g,dd,m,k,j,i,h,_,X _ _ look,.of_isNs (PySem.W.isNs_of_in X b),?_,PySem.W.tail_of_in X e4⟩;exact PySem.W.nsMap_none_of_in X b o
   ·cases q
 ·cases q
abbrev ū:List B:=[.type "ValueError",.type "Exception",.type "BaseException",.type "object"]
structure XC(K:d_)(c:Nat)(C:O):Prop where nm:U0 K C_ (Ĩ c)=Z (Z (.ref C))ex:aa_ K C ū "ValueError.__new__"=L
noncomputable def gp(c:Nat)(f:Ò):Ù:=λa=>db (f a) λ_=>Z (.exc c)
theorem Cr(c:Nat)(K:XC a.K c e)(hx:Ĩ c=d)(hm:a.mg d=Z (.ref e))(b':a.ex=[])(hc:a.calm=L)(hg:Gl a d)(ha:FE a h z)(he:k_ [h] a.env=(D,eval h a.env)::k_ [] a.env:=by lk)(c':(d==("__debug__":Str))=D:=by lk):FS a (.Raise (Z (.Call (.Name d m) [h] [] u)) U Ρ) (gp c z):=by
 subst hx;constructor;intro f' s w H i I⟨y,E,o⟩;obtain⟨tl,N,nm,q,bs,n,sn,sub,ab,d',dd,k0,k1,k2,k3,k5,mN,hC,hN,a',T⟩:=(yY I.ok.mod.kin hm K.ex).obj;refine wpAny_Raise_call_subT (C:=e) (nm:=nm) (q:=q) (N:=N) (bs:=bs) (bm:=tl) (hdct:=n) (sn:=sn) (sub:=sub) (ab:=ab) (col:=d') (dd:=dd) (k0:=k0) (k1:=k1) (k2:=k2) (k3:=k3) (k5:=k5) Xu (mN:=mN) (T.hasType Xu.hasBase) (I.ok.hd hc) (by rw[he];rfl) a' (lf I hg hm ⟨rfl,?_⟩ c');have v:=(ui ha yH he).h u f' s w H (λA k=>A.length=1/\XW a c k) I ⟨y,E,?_⟩
 · rw[he]at v⊢;refine YO (å v λus s2⟨A,k,j,rv,hl,hw⟩=>⟨rfl,?_,j.bk _ _ hC,hN.keeps j.bk,T.keeps j.bk,λh' f me=>?_⟩);·rw[<-rv.length,hl];decide
   · have I2:Í a f' w k {s2 with heap:=h'}:=j.kept (t':=s2.toks) me.keeps;obtain⟨t,t1,t2,t3⟩:=me.there;refine hw f' w k _ (.ref f) (λ_ _ b=>b) I2 ⟨f,e,rfl,K.nm,yX j.hok me.new,⟨?_,λp v b=>?_⟩,_,_,.ref t,t1,rfl,rfl,rfl,.inl rfl⟩;·cases b:a.s₀.heap.get? f with|none=>rfl|some o2=>obtain⟨o3,z3⟩:=j.base.there f o2 b (by rw[b'];simp);rw[me.new]at z3;cases z3
     ·have z2:=(j.pin p (K_ _ v)).1;rw[b,me.new]at z2;cases z2
 ·show ê a H (aR z bQ y) _;unfold aR;unfold gp at o;match hf:z y with|none=>rw[hf]at o;exact o.elim|some (.exc c2)=>rw[hf]at o;exact o|some (.ok g)=>rw[hf]at o;exactλA k e1 r=>⟨r.length,XW.mono o e1⟩
open PySem.W Builtin.Getset_descriptor
structure XI(K:d_)(C:O):Prop where
 ga:findIn K (.ref C) "__getattribute__"=Z (Z (.builtin "BaseException.__getattribute__"))gt:findIn K (.ref C) "__getattr__"=Z U
 cl:findIn K (.ref C) "__class__"=Z (Z (.builtin "object.__class__"))sp:specialIn K (.builtin "object.__class__") "__get__"=Z (Z (.builtin "getset_descriptor.__get__"))tk:takesIn K (.builtin "object.__class__")=Z L
 ob:mroIn K C (.type "object")=Z L
 be:mroIn K C (.type "BaseException")=Z L
abbrev Ke(X:C)(a:List (O×Obj))(E:B->ge->Prop):C:={X with pn:=X.pn++a,xe:=E}
abbrev wZ(X:C)(a:List (O×Obj))(e:O):C:={X with A:=X.A.mark (Z (.ref e)),calm:=D,pn:=X.pn++a,xe:=λ_ _=>False}
theorem Hk(I:Í a ζ Λ g f):Í (Ke a ζ τ) [] Λ g f:=⟨⟨I.ok.mod,I.ok.kind,I.ok.glob,I.ok.blt,I.ok.above,I.ok.inj,I.ok.has,I.ok.cab,I.ok.hd,I.ok.frames,I.ok.stk,I.ok.exf,I.ok.bs,I.ok.bsz,I.ok.noex,I.ok.exfs,I.ok.funs,I.ok.frf⟩,I.os,I.bare,I.base,I.loc,I.cell,I.free,I.freeC,λp b=>I.pin p (by simpa using b),I.hok,I.len⟩
theorem mK{b:List (O×Obj)}(I:Í (Ke a ζ τ) b Λ g f):Í a ζ Λ g f:=⟨⟨I.ok.mod,I.ok.kind,I.ok.glob,I.ok.blt,I.ok.above,I.ok.inj,I.ok.has,I.ok.cab,I.ok.hd,I.ok.frames,I.ok.stk,I.ok.exf,I.ok.bs,I.ok.bsz,I.ok.noex,I.ok.exfs,I.ok.funs,I.ok.frf⟩,I.os,I.bare,I.base,I.loc,I.cell,I.free,I.freeC,λp d=>I.pin p (K_ _ d),I.hok,I.len⟩
theorem vC(I:Í a ζ Λ g f):Í (wZ a ζ e) [] Λ g f:=⟨⟨I.ok.mod,I.ok.kind,I.ok.glob,I.ok.blt,I.ok.above,I.ok.inj,I.ok.has,I.ok.cab,λz=>absurd z y_,I.ok.frames,I.ok.stk,I.ok.exf,I.ok.bs,I.ok.bsz,I.ok.noex,I.ok.exfs,I.ok.funs,I.ok.frf⟩,I.os,I.bare,I.base,I.loc,I.cell,I.free,I.freeC,λp b=>I.pin p (by simpa using b),I.hok,I.len⟩
theorem w5{b:List (O×Obj)}(d:a.Ok)(I:Í (wZ a ζ e) b Λ g f):Í a ζ Λ g f:=⟨d,I.os,I.bare,I.base,I.loc,I.cell,I.free,I.freeC,λp h=>I.pin p (K_ _ h),I.hok,I.len⟩
theorem Ct(I:Í a ζ Λ g f)(a':a.ex=[])(i:a.stack=a.env::a.outer)(n:a.env.frame=Z a.env.locals){y:B}(F:Ů (PY a) g e y f.heap){Q:Unit->ge->Prop}{E1 E2:B->ge->Prop}(k:∀h E p,(ľ a e E f.heap).StaysIn h->h.FunFrames (ľ a e E f.heap) a.stack->h.TracedW (ľ a e E f.heap) e y p->(∀b o,f.heap.get? b=Z o->(∀m,o.data≠.fields m)->∃r,h.get? b=Z {o with slots:=r})->(∀b,b=e\/b∈E->g b=U/\PY a b/\∃o m,f.heap.get? b=Z o/\o.data=.fields m)->Q () {f with heap:=h}):v_ (E_ a.prog a.w) a.A (abL (.ref e) a.env) (λ_ s2=>v_ (E_ a.prog a.w) a.A (setFlight (.ref e) U) Q E1 s2) E2 f:=by
 obtain⟨f1,R,v,m,p,u,q2,s,q4,A⟩:=F;have w:a.A.frames=Z (a.env::a.outer):=i▸I.ok.frames;subst q2;rcases A with A|⟨T,oT,ts,r1,r2,r3,r4,r5,r6,r7⟩
 · have b3:f.heap.FunFrames (ľ a e [] f.heap) (a.env::a.outer):=i▸pP I;have go:∀h,Heap.NotedW (ľ a e [] f.heap) (a.env::a.outer) e v.cls p (Ze a.env.locals) f.heap h->v_ (E_ a.prog a.w) a.A (setFlight (.ref e) U) Q E1 {f with heap:=h}:=λh⟨k1,k2,k3,k4⟩=>YD (s:={f with heap:=h}) k1 k2 k3 λh2 m1 m2 m3 N=>k h2 [] p m1 (i▸m2) m3 (λb o q d=>by obtain⟨r,H⟩:=k4 b o q d;exact⟨r,N b _ H d⟩) λb j=>by
    rcases j with rfl|j;·exact⟨f1,R,v,m,u,s⟩
    ·cases j
   unfold abL;simp only[n];refine e_ (Vy u s A ?_);rw[if_neg (by decide)];exact wpAny_entryW w b3 n u (λb o z=>W9 _ z) (VS _ (pi ..)) s (VZ.mp A).1 q4 go
 ·have b3:f.heap.FunFrames (ľ a e [T] f.heap) (a.env::a.outer):=i▸pP I;have ht:f.heap.TracedW (ľ a e [T] f.heap) e v.cls p:=⟨v,m,T,oT,ts,u,⟨rfl,q4⟩,s,r1,VS _ (by simp),r2,r5,r6,r7⟩;refine wpAny_noteFrame_onW w b3 n ht (λb o z=>W9 _ z) (VS _ (pi ..)) λh⟨k1,k2,k3,k4⟩=>?_;refine YD (s:={f with heap:=h}) k1 k2 k3 λh2 m1 m2 m3 N=>k h2 [T] p m1 (i▸m2) m3 (λb o q d=>by obtain⟨r,H⟩:=k4 b o q d;exact⟨r,N b _ H d⟩) λb j=>by
    rcases j with rfl|j;·exact⟨f1,R,v,m,u,s⟩
    ·simp at j;subst j;exact⟨r3,r4,oT,ts,r5,r6⟩
theorem yZ{u:Str->Option B}{J:O}{z:Obj}{Q:Bool->ge->Prop}(X:s.In f.heap)(n:OwnCls d A ū "ValueError.__new__" Ι f.heap)(m:OwnCls p J ū "ValueError.__new__" u f.heap)(he:f.heap.get? e=Z z)(hc:z.cls=.ref A)(E:mroIn s A (.ref J)=Z L)(h:Q L f):v_ (E_ r q) I (excMatches (.ref e) (.ref J)) Q τ f:=by
 obtain⟨tl,N,nm,i,bs,c',sn,sub,ab,l',dd,k0,k1,k2,k3,k5,mN,n,hN,h',T⟩:=n.obj;obtain⟨o,N',f',q',m',y,e',H,n',d',k',l0,l1,l2,l3,l5,g',m,i',a',T'⟩:=m.obj;obtain⟨hh,g,k,t,os⟩:=f;have w:(B_ J::o).contains (.type "BaseException")=L:=by rw[List.contains_cons,T'.hasType Xu.hasBase,Bool.or_true]
 have v:(B_ A::tl).contains (.ref J)=L:=by
  unfold mroIn at E;obtain⟨cd,a,b⟩:=WY.mp E;split at b;·cases b
  · have b':=UL b;unfold clsIn at a;split at a;·rename_i look;cases a;have p:=(X _ _ look).symm.trans n;cases p;exact b'
    ·cases a
 have j:=tc_notTuple;unfold excMatches;repeat(first|(with_reducible refine wpAny_loadPart_at he ?_;rw[hc])|with_reducible refine wpAny_loadPart_at m ?_|(with_reducible refine wpAny_isSubtype_exc m ?_;rw[w])|(with_reducible refine wpAny_isSubtype_exc n ?_;rw[v])|wp_step)
 exact h
noncomputable def vD(x:Str)(n:Int):Str:=if n<1 then abP else if(n==1||x.length==0)=L then x else⟨(u_ n.toNat x.cps).foldl (·++·) #[]⟩
def Sx:Q->Q->Option (Rs Q)|.str x,.int n=>if x.length<=1000/\-1000<=n/\n<=1000 then Z (.ok (.str (vD x n)))else U|x,y=>jM x y
def Cu:R2:=λx y H Q=>∃i n,x=.str i/\y=.int n/\(i.length<=1000/\-1000<=n/\n<=1000)/\Q (.str (vD i n)) H
theorem vF(a:Array Nat):∀(k:Nat)(b:Array Nat),((u_ k a).foldl (·++·) b).size=b.size+k*a.size|0,b=>by simp|k+1,b=>by rw[VG,Xj,vF a k (b++a),ZE,Nat.succ_mul];omega
theorem y3(e:b<=1000)(d:k<=1000):k*b<=sizeLine:=by have a:k*b<=1000*1000:=Nat.mul_le_mul d e;rw[X6];exact UD a (by decide)
theorem op_mulS:ù a (V2 .Mult) Cu:=by
 intro N s r H x y v u Q I j h⟨i,n,m,k,f,q⟩;subst m k;obtain⟨t,rfl⟩:=j;obtain⟨w,rfl⟩:=h;have p:(s_ (n< -(2^63:Int))||s_ (n>=2^63))=D:=by
  have d:¬n< -(2^63:Int):=by omega
  have b:¬n>=2^63:=by omega
  rw[decide_eq_false d,decide_eq_false b];rfl
 refine P.mul_str p (λd b E=>?_) (λd b=>?_) ?_
 · have o:0<n:=by omega
   have e1:=Int.mul_ediv_add_emod (2^63-1) n;have e2:=VR (2^63-1) o;have z:(2^63-1:Int)/n<1000:=by omega
   have g:0<=(2^63-1:Int)/n:=Int.ediv_nonneg (by decide) (by omega);have A:n*((2^63-1:Int)/n)<=1000*((2^63-1:Int)/n):=Int.mul_le_mul_of_nonneg_right f.2.2 g;omega
 ·show s_ (i.length*n.toNat>sizeLine)=D;have:=y3 (b:=i.length) (k:=n.toNat) f.1 (by omega);rw[abE];exact decide_eq_false (by omega)
 · unfold vD at q;split;·rename_i d;rw[if_pos d]at q;exact⟨by decide,⟨.str abP,H,I.tok _,⟨_,rfl⟩,q⟩⟩
   · rename_i d;rw[if_neg d]at q;split;·rename_i b;rw[if_pos b]at q;exact⟨.str i,H,I,⟨_,rfl⟩,q⟩
     ·rename_i b;rw[if_neg b]at q;refine⟨?_,⟨.str _,H,I.tok _,⟨_,rfl⟩,q⟩⟩;show((u_ n.toNat i.cps).foldl (·++·) #[]).size<=sizeLine;rw[vF];have:=y3 (b:=i.length) (k:=n.toNat) f.1 (by omega);have e:i.cps.size=i.length:=rfl;rw[e];simpa using this
theorem L5:ù a (V2 .Mult) (λx y H Q=>Cu x y H Q\/rI ŉ (λi j=>.int (i*j)) x y H Q):=op_mulS.or EB
theorem Fb:Ĕ a (λx y H Q=>Cu x y H Q\/rI ŉ (λi j=>.int (i*j)) x y H Q) Sx:=by intro h g x y H Q f e o;cases h with
 |str i=>cases g with|int n=>
 have b:ì a H (if i.length<=1000/\-1000<=n/\n<=1000 then Z (.ok (.str (vD i n)))else U) Q:=o;by_cases d:i.length<=1000/\-1000<=n/\n<=1000;·rw[if_pos d]at b;exact .inl ⟨i,n,f,e,d,b _ H (.refl H) rfl⟩
 ·rw[if_neg d]at b;exact b.elim|_=>exact(show False from o).elim
 |_=>exact .inr (Lz _ _ x y H Q f e o)
noncomputable def xiB(K:d_)(C:O):Bool:=findIn K (.ref C) "__getattribute__"==Z (Z (.builtin "BaseException.__getattribute__"))&&findIn K (.ref C) "__getattr__"==Z U&&findIn K (.ref C) "__class__"==Z (Z (.builtin "object.__class__"))&&specialIn K (.builtin "object.__class__") "__get__"==Z (Z (.builtin "getset_descriptor.__get__"))&&takesIn K (.builtin "object.__class__")==Z L&&mroIn K C (.type "object")==Z L&&mroIn K C (.type "BaseException")==Z L
theorem Qu(h:xiB s e=L):XI s e:=by unfold xiB at h;simp only[m_,beq_iff_eq]at h;exact⟨h.1.1.1.1.1.1,h.1.1.1.1.1.2,h.1.1.1.1.2,h.1.1.1.2,h.1.1.2,h.1.2,h.2⟩
structure Tz(K:d_)(m:Nat)(cls:Nat->O)(CJ:O):Prop where at_:∀c,c<m->nsIn K C_ (Ĩ c)=Z (Z (.ref (cls c)))/\excIn K (cls c) ū "ValueError.__new__"=L/\XI K (cls c)/\mroIn K (cls c) (.ref CJ)=Z L/\kitOne K (.ref (cls c)) (.type "ValueError")=Z L/\∀d,d<m->kitOne K (.ref (cls c)) (.ref (cls d))=Z (c==d)exJ:excIn K CJ ū "ValueError.__new__"=L
section
variable{K:d_}{m:Nat}{cls:Nat->O}{CJ:O}(x:Tz K m cls CJ)
include x
end
noncomputable def mL:Str->Ö|x,[.str y]=>if x.length<=100000 then Z (.ok (.str (We x y)))else U|_,_=>U
def Fc:V->List V->Hp->VK->Prop:=λx a H Q=>∃i j,x=.str i/\a=[.str j]/\i.length<=sizeLine/\Q (.str (We i j)) H
theorem Cv:Ŗ a "str.strip" Fc:=by intro r s g H x m v n Q I b e h;obtain⟨i,j,rfl,rfl,f,q⟩:=h;obtain⟨t,rfl⟩:=b;obtain⟨u,rfl,d⟩:=iE e;obtain⟨p,rfl⟩:=d;exact SC.stripChars (λo k=>⟨.str _,H,I.tok k,⟨_,rfl⟩,q⟩) f
theorem Hl(i:Str)(f:List Q)(e:List V)(H:Hp)(b:VK)(g:S a.K H f e)(o:ì a H (mL i f) b):Fc (.str i) e H b:=by
 unfold mL at o;split at o
 · rename_i j;split at o;·rename_i h;obtain⟨w,rfl,d⟩:=fG g;cases(show w=.str j from d);exact⟨i,j,rfl,rfl,ce h,o _ H (.refl H) rfl⟩
   ·exact o.elim
 ·exact o.elim
def cw(x y:Q):Option (Rs Q):=match x,y with|.tup a,.tup b=>if a.length+b.length<=100000 then Z (.ok (.tup (a++b)))else U|x,y=>cD x y
theorem Cw(u:acx f.heap e #[])(v:acx f.heap A μ.toArray)(w:Ç (.ref A) f):v_ (E_ r q) I (V2 .Add (.ref e) (.ref A)) Ç τ f:=by obtain⟨⟨z,y,m,p⟩,i,k,n,j⟩:=id u;obtain⟨⟨o,h,data2,g⟩,a,d,s,b⟩:=id v;simp only at k j d b;subst k j d b;exact abp ⟨_,i,rfl⟩ ⟨_,a,rfl⟩ ZQ aa8 Ym X7 (XS _ _) (tuple_addW0 e A #[] μ.toArray n s y h p g (by simp)) ⟨i,a,w⟩
noncomputable def Fd(K:d_):R2:=λx y H Q=>∃a b d,x=.ref a/\y=.ref b/\ô K H a []/\ô K H b d/\Q (.ref b) H
theorem Cy:ù a (V2 .Add) (Fd a.K):=by intro z s p H x y v u Q I g f h;obtain⟨d,b,r,rfl,rfl,n,m,q⟩:=h;cases g;cases f;obtain⟨o,i,k,_⟩:=I.tuple n;obtain⟨e,w,j,_⟩:=I.tuple m;cases i;exact Cw k j ⟨.ref b,H,I,rfl,q⟩
def L6(X:C):R2:=λx y H Q=>GM x y H Q\/(KZ X.K x y H Q\/Fd X.K x y H Q)
theorem L7:ù a (V2 .Add) (L6 a):=ż.or (op_catT.or Cy)
variable{j θ:Q}
theorem y4(h:∀a b,¬(j=.tup a/\θ=.tup b)):cw j θ=cD j θ:=by
 unfold cw;split;·rename_i a b;exact absurd ⟨rfl,rfl⟩ (h a b)
 ·rfl
theorem Ma:Ĕ a (L6 a) cw:=by
 intro z w x y H Q s r o;by_cases v:∃d b,z=.tup d/\w=.tup b
 · obtain⟨d,b,rfl,rfl⟩:=v;have e:ì a H (if d.length+b.length<=100000 then Z (.ok (.tup (d++b)))else U) Q:=o;split at e;·rename_i i;obtain⟨p,k,rfl,q,g⟩:=s.tupE;obtain⟨m,j,rfl,n,f⟩:=r.tupE;cases k with
   |nil=>
   have I:d=[]:=by have:=g.length;exact WZ.mp this.symm
   subst I;exact .inr (.inr ⟨p,m,j,rfl,rfl,ô.of q,ô.of n,e _ H (.refl H) ⟨m,j,rfl,n,by simpa using f⟩⟩)|cons A k=>refine .inr (.inl ⟨p,m,A::k,j,rfl,rfl,ô.of q,ô.of n,by simp,by rw[g.length,f.length];exact ce i,λu=>?_,λu l i=>e _ _ (aJ i _) ⟨l,_,rfl,aw,S.mono (aJ i _) _ _ (g.append f)⟩⟩);subst u;have E:b=[]:=WZ.mp f.length.symm;subst E;exact e _ H (.refl H) ⟨p,_,rfl,q,by simpa using g⟩
   ·exact e.elim
 ·rw[y4 (λd b h=>v ⟨d,b,h⟩)]at o;exact .inl (Ly z w x y H Q s r o)
theorem jT{a:Array B}{k:B}(b:acx f.heap e a)(n:f.heap.IsSliceOf A Β k .none)(p:Ż Β Ζ)(o:Ż k Ν)(m:HT.sIx a.size 0 Ζ=0/\HT.sIx a.size a.size Ν=a.size)(h:Ç (.ref e) f):v_ (E_ r q) I (Z7 (.ref e) (.ref A)) Ç τ f:=by
 obtain⟨os,g,i,s⟩:=id n;have j:f.TypeIs (.ref A) "slice":=⟨os,g,i⟩;unfold Z7;try with_reducible refine Vm ?_
 first|refine e_ (j_ ?_)|skip
 refine e_ (wpAny_sequenceKey b.typeIs (by decide) ?_);refine e_ (Vj (name:=b_ "__getitem__") b.typeIs Vh (VD Vh b.typeIs entry_tuple_getitem ?_ (args_tuple_getitem _ _)));show v_ _ _ (Zo (.ref e)>>=_) _ _ f;refine e_ (tupleItemsOf_ b ?_);refine e_ (Yc j ?_);rw[if_pos (by decide)];refine e_ (HT.sliceApplied_gen n p o ?_);have d:(((HT.sIx a.size 0 Ζ:Nat):Int)==0&&(1:Int)==1&&(HT.sIx a.size a.size Ν-HT.sIx a.size 0 Ζ)==a.size)=L:=by rw[m.1,m.2];simp
 show v_ _ _ (if(((HT.sIx a.size 0 Ζ:Nat):Int)==0&&(1:Int)==1&&(HT.sIx a.size a.size Ν-HT.sIx a.size 0 Ζ)==a.size)=L then _ else _) _ _ f;rw[if_pos d];refine e_ (e_ (Yc b.typeIs (j_ ?_)));rw[if_pos (by decide)];exact e_ (W5 (j_ ⟨_,rfl,j_ h⟩))
def TB(K:d_):V->Option Int->Option Int->Hp->VK->Prop:=λx lo d H Q=>∃a b,x=.ref a/\ô K H a b/\(HT.sIx b.length 0 lo=0/\HT.sIx b.length b.length d=b.length)/\Q (.ref a) H
theorem Cz:ź a (TB a.K):=by
 intro A s o H x v u p lo z w Q I i n pl j h;obtain⟨b,g,rfl,k,m,q⟩:=h;cases i;obtain⟨e,r,f,y⟩:=I.tuple k;have d:e.toArray.size=g.length:=by rw[F_];exact r.length.symm
 refine⟨"tuple",_,Vh.lookup,f.typeIs,?_⟩;exact jT f n pl j (by rw[d];exact m) ⟨.ref b,H,I,rfl,q⟩
def Sy(x:Q)(a b:Option Int):Option (Rs Q):=match x with|.tup d=>Z (.ok (.tup (EU d a b)))|x=>Pb x a b
def lU(f:Ò)(d e:Y'):Ò:=λa=>Ø (f a) λx=>Ø (d a) λlo=>Ø (e a) λb=>Sy x lo b
theorem w6{a:List δ}(h:HT.sIx a.length 0 Ζ=0/\HT.sIx a.length a.length Ν=a.length):EU a Ζ Ν=a:=by unfold EU;rw[h.1,h.2];simp
variable{z:Ò}
theorem Hm{A I:Option r_}{N fh:Y'}(ha:FE a h z)(hl:FO a A N)(hh:FO a I fh):FE a (.Subscript h (.Slice A I U m) u) (lU z N fh):=ef (vp ((ť.or yC).or (sl_tup.or Cz)) ha.h hl.h hh.h) λσ H Q s E o=>⟨s,E,ì.bind o λd v H1 e1 r1 o1=>⟨s,E.mono e1,kh o1 λl H2 e2 o2=>⟨s,(E.mono e1).mono e2,kh o2 λe r e3 g=>by
 have w:=Ô.mono e3 d v (Ô.mono e2 d v r1);cases d<;>try exact(show False from g).elim
 · rename_i b;unfold Sy Pb at g;dsimp only at g;split at g;·rename_i hz;exact .inl (.inl ⟨b,w,ce hz,g _ r (.refl r) rfl⟩)
   ·exact g.elim
 · rename_i ds;obtain⟨n,f,rfl,k,i⟩:=w.tupE;have q:=i.length;by_cases y:HT.sIx f.length 0 l=0/\HT.sIx f.length f.length e=f.length;·refine .inr (.inr ⟨n,f,rfl,ô.of k,y,g _ r (.refl r) ⟨n,f,rfl,k,?_⟩⟩);rw[w6 (by rw[<-q];exact y)];exact i
   ·refine .inr (.inl ⟨n,f,rfl,ô.of k,y,λp j=>g _ _ (aJ j _) ⟨p,_,rfl,aw,S.mono (aJ j _) _ _ ?_⟩⟩);unfold BW EU;rw[i.length];exact(i.drop _).take _
 ·rename_i ds;obtain⟨n,f,rfl,k,i⟩:=w.lstE;refine .inl (.inr ⟨n,f,rfl,ā.of k,λp j=>g _ _ (aJ j _) ⟨p,_,rfl,aw,S.mono (aJ j _) _ _ ?_⟩⟩);unfold BW EU;rw[i.length];exact(i.drop _).take _⟩⟩⟩
noncomputable def Mb:Str->Ö
 |x,[.str y]=>match UU x y 0 x.length 1 with|i::_=>Z (.ok (.int i))|[]=>U
 |_,_=>U
def Sz:V->List V->Hp->VK->Prop:=λx a H Q=>∃i j k l,x=.str i/\a=[.str j]/\UU i j 0 i.length 1=k::l/\Q (.int (k:Nat)) H
theorem Mc:Ŗ a "str.index" Sz:=by intro p s g H x m v n Q I b e h;obtain⟨i,j,k,l,rfl,rfl,f,q⟩:=h;obtain⟨t,rfl⟩:=b;obtain⟨u,rfl,d⟩:=iE e;obtain⟨o,rfl⟩:=d;exact SC.index f ⟨.int _,H,I.tok _,⟨_,rfl⟩,q⟩
theorem Qv(i:Str)(g:List Q)(f:List V)(H:Hp)(b:VK)(h:S a.K H g f)(o:ì a H (Mb i g) b):Sz (.str i) f H b:=by
 unfold Mb at o;split at o
 ·rename_i j;obtain⟨w,rfl,e⟩:=fG h;cases(show w=.str j from e);match d:UU i j 0 i.length 1 with|[]=>rw[d]at o;exact o.elim|k::l=>rw[d]at o;exact⟨i,j,k,l,rfl,rfl,d,o _ H (.refl H) rfl⟩
 ·exact o.elim
abbrev Hn(a:List B)(n:Nat):Obj:={cls:=.type "list",data:=.seq a.toArray n}
variable{Λ:L2.St}
theorem Í.untrack(I:Í a ζ Λ (ß g e (.lst ι)) f)(ha:g e=U)(y:a.ex=[]):∃j n,Ï ι j/\ι.length<=sizeLine/\(∀o,a.s₀.heap.get? e=Z o->a.H₀ e≠U)/\(∀p∈a.pn++ζ,p.1≠e)/\Í a (ζ++[(e,Hn j n)]) Λ g f:=by
 obtain⟨z,j,n,rv,hl,d⟩:=I.lstM (l:=e) (xs:=ι) aw;have hb:∀b u,g b=Z u->b≠e:=λb u q=>aF q ha;have h:∀b,ß g e (.lst ι) b=U->g b=U:=λb q=>by
  by_cases i:b=e;·rw[i];exact ha
  ·rw[aA i]at q;exact q
 have s:∀b u,ß g e (.lst ι) b=Z u->(∀H,u≠.lst H)->g b=Z u:=λb u q hu=>by
  by_cases i:b=e;·rw[i,aw]at q;exact absurd (UL q).symm (hu ι)
  ·rw[aA i]at q;exact q
 have a':e∉a.fs:=λhm=>by obtain⟨_,o,r,_⟩:=I.ok.funs.mem hm;have:=I.base.free e o r (I.ok.frf e hm) (by rw[y];simp);rw[aw]at this;cases this
 have A:∀p∈a.pn++ζ,p.1≠e:=λp hp w=>by have:=(I.pin p hp).2.1;rw[w,aw]at this;cases this
 refine⟨j,n,rv,z,λo r h0=>?_,A,⟨I.ok,I.os,I.bare,⟨I.base.keep,I.base.slot,λb o q n hx=>h b (I.base.free b o q n hx),I.base.there,λb H q=>s b _ (I.base.tups b H q) (λ_ w=>by cases w),λb o u q=>s b _ (I.base.frzs b o u q) (λ_ w=>by cases w),λb ps q=>?_⟩,I.loc,I.cell,h _ I.free,λx c q=>h _ (I.freeC x c q),λp hp=>?_,λb u q=>?_,I.len⟩⟩;·have:=I.base.free e o r h0 (by rw[y];simp);rw[aw]at this;cases this
 ·obtain⟨E,q'⟩:=I.base.tbls b ps q;exact⟨E,s b _ q' (λ_ w=>by cases w)⟩
 · rcases R_.mp hp with k|k;·obtain⟨q1,q2,N⟩:=I.pin p (K_ _ k);exact⟨q1,h _ q2,N⟩
   · rcases R_.mp k with k|k;·obtain⟨q1,q2,N⟩:=I.pin p (o_ _ k);exact⟨q1,h _ q2,N⟩
     ·simp only[Uy]at k;subst k;refine⟨d,ha,λw=>?_,a',λv w=>by cases w⟩;obtain⟨m,⟨o,es,ep,r,hd,_⟩,_⟩:=I.loc;have w':e=a.env.locals:=w;rw[<-w',d]at r;cases r;cases hd
 · have hq:ß g e (.lst ι) b=Z u:=by rw[aA (hb b u q)];exact q
   refine(I.hok b u hq).stay (λ_ _ _ w=>w) (λc w=>s c _ w (λ_ w=>by cases w)) (λc H w=>s c _ w (λ_ w=>by cases w)) λc _ _ w=>s c _ w (λ_ w=>by cases w)
theorem Í.retrack(I:Í a (ζ++[(e,Hn μ b)]) Λ g f)(E:Ï ι μ)(hz:ι.length<=sizeLine)(h0:∀o,a.s₀.heap.get? e=Z o->a.H₀ e≠U)(r:∀p∈a.pn++ζ,p.1≠e):g e=U/\Í a ζ Λ (ß g e (.lst ι)) f:=by
 obtain⟨i,A,nL,nf,nc⟩:=I.pin (e,Hn μ b) (o_ _ (o_ _ (by simp)));have j:∀d u,g d=Z u->ß g e (.lst ι) d=Z u:=λd u q=>by rw[aA (aF q A)];exact q
 have lo:∀d,g d=U->d≠e->ß g e (.lst ι) d=U:=λd q h=>by rw[aA h];exact q
 refine⟨A,⟨I.ok,I.os,I.bare,⟨I.base.keep,I.base.slot,λd o q b hx=>lo d (I.base.free d o q b hx) (λw=>h0 o (w▸q) (w▸b)),I.base.there,λd s q=>j d _ (I.base.tups d s q),λd o u q=>j d _ (I.base.frzs d o u q),λd ps q=>?_⟩,I.loc,I.cell,lo _ I.free (UK nL),λx c q=>lo _ (I.freeC x c q) (λw=>?_),λp y=>?_,λd u q=>?_,I.len⟩⟩;·obtain⟨k,q'⟩:=I.base.tbls d ps q;exact⟨k,j d _ q'⟩
 ·obtain⟨v,o,m,hd⟩:=I.cell x c q;rw[w]at m;have e':f.heap.get? e=Z (Hn μ b):=i;rw[e']at m;cases m;cases hd
 ·obtain⟨q1,N,H⟩:=I.pin p (by
   rcases R_.mp y with n|n;·exact K_ _ n
   ·exact o_ _ (K_ _ n));exact⟨q1,lo _ N (r p y),H⟩
 · by_cases z:d=e;·subst z;rw[aw]at q;cases q;exact⟨hz,μ,b,E,i⟩
   ·rw[aA z]at q;exact(I.hok d u q).stay (λ_ _ _ w=>w) (λc w=>j c _ w) (λc s w=>j c _ w) λc _ _ w=>j c _ w
def Qw(t:TE):TE:=λe f Q=>∃H a b,f=ß H a (.lst b)/\H a=U/\t e H λv d=>d a=U->Q v (ß d a (.lst b))
def Qx(t:TT):TT:=λe f Q=>∃H a b,f=ß H a (.lst b)/\H a=U/\t e H λv d=>d a=U->Q v (ß d a (.lst b))
def Qy(t:TA):TA:=λe f Q=>∃H a b,f=ß H a (.lst b)/\H a=U/\t e H λv d=>d a=U->Q v (ß d a (.lst b))
def Qz(t:TI):TI:=λe f Q=>∃H a b,f=ß H a (.lst b)/\H a=U/\t e H λv d=>d a=U->Q v (ß d a (.lst b))
theorem ur(e:a.ex=[]){t:TE}(b:PE a h t):PE a h (Qw t):=by intro f' s g Hf Q I⟨H,d,N,w,o,q⟩;subst w;obtain⟨E,n,i,k,p,m,A⟩:=Í.untrack I o e;refine å (b _ s g H _ A q) λu s'⟨v,H',z,r,j⟩=>?_;obtain⟨f,y⟩:=Í.retrack z i k p m;exact⟨v,_,y,r,j f⟩
theorem Ho(e:a.ex=[]){t:TT}(b:PT a h t):PT a h (Qx t):=by intro N s g Hf Q I⟨H,d,A,r,o,q⟩;subst r;obtain⟨z,n,i,k,p,m,y⟩:=Í.untrack I o e;refine å (b _ s g H _ y q) λu E⟨H',w,j⟩=>?_;obtain⟨f,v⟩:=Í.retrack w i k p m;exact⟨_,v,j f⟩
theorem Hq(e:a.ex=[]){t:TA}(h:PA a v t):PA a v (Qy t):=by intro pos f' s g Hf Q I⟨H,d,N,w,o,q⟩;subst w;obtain⟨E,n,i,k,p,m,A⟩:=Í.untrack I o e;refine å (h pos _ s g H _ A q) λu s'⟨b,H',z,r,j⟩=>?_;obtain⟨f,y⟩:=Í.retrack z i k p m;exact⟨b,_,y,r,j f⟩
theorem Hr(j:a.ex=[]){r:r_}{t:TI}(e:PI a r h t):PI a r h (Qz t):=by
 intro f' s y Hf R I⟨H,d,xs,e1,ha,q⟩;subst e1;obtain⟨f,n,E,hz,h0,hp,I'⟩:=Í.untrack I ha j;refine å (e _ s y H _ I' q) λu s1 g=>å g λa' s2⟨it,fp,z,J,H',e2,I2,T,A,o,N⟩=>?_;obtain⟨m,I3⟩:=Í.retrack I2 E hz h0 hp;refine⟨it,fp,z,J,_,e2,I3,T,A,λb hb=>?_,N m⟩;obtain⟨g0,g1,g2,g3,g4,v⟩:=o b hb;have k:b≠d:=λw=>v (d,Hn f n) (o_ _ (o_ _ (by simp))) w.symm;refine⟨by rw[aA k];exact g0,g1,g2,g3,g4,λp i=>v p ?_⟩;rcases R_.mp i with w|w;·exact K_ _ w
 ·exact o_ _ (K_ _ w)
mutual
def ğ:Q->Bool|.non=>L|.bl _=>L|.int _=>L|.str _=>L|.tup a=>à a|.lst _=>D|.scr _=>D|.exn _=>D|.obj _ _=>D
def à:List Q->Bool|[]=>L|d::a=>ğ d&&à a
end
mutual
theorem Ô.tups{K:d_}{H j:Hp}(k:∀b f,H b=Z (.tup f)->j b=Z (.tup f)):∀(d:Q)(v:V),ğ d=L->Ô K H d v->Ô K j d v|.non,_,_,h=>h|.bl _,_,_,h=>h|.int _,_,_,h=>h|.str _,_,_,h=>h|.tup e,v,i,h=>by obtain⟨a,n,r,h,q⟩:=h.tupE;exact⟨a,n,r,k _ _ h,S.tups k e n (by simpa[ğ]using i) q⟩|.lst _,_,i,_=>by simp[ğ]at i|.scr _,_,i,_=>by simp[ğ]at i|.exn _,_,i,_=>by simp[ğ]at i|.obj _ _,_,i,_=>by simp[ğ]at i
theorem S.tups{K:d_}{H j:Hp}(k:∀b f,H b=Z (.tup f)->j b=Z (.tup f)):∀(e:List Q)(m:List V),à e=L->S K H e m->S K j e m
 |[],_,_,h=>h|d::e,m,i,h=>by
  obtain⟨v,g,r,h,q⟩:∃v g,m=v::g/\Ô K H d v/\S K H e g:=h;have o:ğ d=L/\à e=L:=by simpa[à]using i
  exact⟨v,g,r,Ô.tups k d v o.1 h,S.tups k e g o.2 q⟩end
inductive Fo where|nx(ρ:Ev)(ds:List Q)|rt(d:Q)
abbrev kj:=Ev->List Q->Option Fo
def Ē(X:C)(i:Nat)(a:O)(H:Hp)(o:Option Fo)(b:vi):Prop:=match o with|none=>False|some (.rt d)=>∀v e,Ñ H e->Ô X.K e d v->b.rt v e|some (.nx h j)=>∀f e g,Ñ H e->e a=U->f[i]?=Z (Z (.ref a))->Û X.K e f h->S X.K e j g->b.nx f (ß e a (.lst g))
theorem Ē.mono{f:vi}(d:Ñ g Α):∀{o:Option Fo},Ē a b e g o f->Ē a b e Α o f|none,h=>h|some (.rt _),h=>λv j i r=>h v j (d.trans i) r|some (.nx _ _),h=>λk j m i=>h k j m (d.trans i)
def tO(X:C)(i:Nat)(f:kj):TS:=λb d j=>∃H a g e h,j=ß H a (.lst g)/\H a=U/\d[i]?=Z (Z (.ref a))/\Û X.K H d e/\S X.K H h g/\Ē X i a H (f e h) b
structure Š(X:C)(i:Nat)(st:U8)(f:kj):Prop where h:PS X st (tO X i f)
structure ş(X:C)(i:Nat)(st:List U8)(f:kj):Prop where h:Ľ X st (tO X i f)
def w8(o:Option (Rs δ))(k:δ->Option Fo):Option Fo:=match o with|some (.ok a)=>k a|_=>U
noncomputable def Kf:kj:=λa b=>Z (.nx a b)
noncomputable def gf(f g:kj):kj:=λd e=>match f d e with|some (.nx a b)=>g a b|o=>o
noncomputable def gQ(j:Nat)(f:Ò):kj:=λa b=>w8 (f a) λd=>Z (.nx (a.set j (Z d)) b)
noncomputable def oIf(c:è)(f g:kj):kj:=λa b=>w8 (c a) λk=>if k then f a b else g a b
noncomputable def Hs(i:Nat)(c:è)(f g:kj):kj:=λa b=>w8 (c (a.set i (Z (.lst b)))) λk=>if k then f a b else g a b
noncomputable def y6(i:Nat)(f:Ò):kj:=λa b=>w8 (f (a.set i (Z (.lst b)))) λd=>Z (.rt d)
noncomputable def CB(f:Ò):kj:=λa b=>if b.length<100000 then w8 (f a) λd=>Z (.nx a (b++[d]))else U
theorem y8(h:g e=U)(a:Ñ (ß g e (.lst ι)) Α):∃f,Α=ß f e (.lst ι)/\f e=U/\Ñ g f:=by
 refine⟨λb=>if b=e then U else Α b,?_,by simp,λb u q=>?_⟩
 · funext b;by_cases d:b=e;·subst d;rw[aw];exact a b _ aw
   ·rw[aA d];simp[d]
 ·have d:b≠e:=aF q h;simp only[d,if_false];exact a b u (by rw[aA d];exact q)
theorem jd(a:g e=U):Ñ g (ß g e (.lst ι)):=aJ a _
variable{ε:Ev}{H:List Q}
theorem mM(i:g e=U)(n:Λ[b]?=Z (Z (.ref e)))(E:Û a.K g Λ ε)(r:S a.K g H ι):Û a.K (ß g e (.lst ι)) Λ (ε.set b (Z (.lst H))):=by
 have k:=E.mono (jd (ι:=ι) i);refine⟨by rw[UM];exact k.len,λj d f=>?_⟩;by_cases h:b=j
 · subst h;by_cases m:b<ε.length;·rw[A_ m]at f;cases f;exact⟨.ref e,n,e,ι,rfl,aw,S.mono (jd i) _ _ r⟩
   ·rw[Va (by rw[UM];omega)]at f;cases f
 ·rw[p_ h]at f;exact k.at' j d f
theorem Ht:ş a b [] Kf:=⟨λj s f p d I⟨H,e,g,m,n,k,i,h,E,r,o⟩=>by subst k;exact tY j s f _ d I (o f H g (.refl H) i h E r)⟩
theorem CF{f g:kj}(h1:Š a b Ε f)(N:ş a b À g):ş a b (Ε::À) (gf f g):=⟨λf' s v Hf h I⟨H,e,w,q,u,e1,A,z,E,r,o⟩=>by refine gM h1.h N.h f' s v Hf h I ⟨H,e,w,q,u,e1,A,z,E,r,?_⟩;unfold gf at o;match i:f q u with|none=>rw[i]at o;exact o.elim|some (.rt d)=>rw[i]at o;exact o|some (.nx j p)=>rw[i]at o;exactλa' H' k e' n m E' y=>⟨H',e,k,j,p,rfl,n,m,E',y,Ē.mono e' o⟩⟩
theorem Hu{f:kj}(d:Š a b Ε f):ş a b [Ε] f:=⟨pv d.h⟩
theorem Md(q:a.ex=[])(j:Nat)(n:b≠j){x:Str}{g:Pos}(hN:a.N.Nodup)(hi:a.N[j]?=Z x)(hx:ł a.env.scope x)(he:FE a h z)(hs:Vb h (Z (.Name x g)) m.line a.env=pure D:=by lk)(hf:a.fn x=L\/a.env.scope.names.lookup x=Z .local:=by first|exact .inl rfl|exact .inr rfl|assumption):Š a b (.Assign [.Name x g] h m) (gQ j z):=⟨λf' s A Hf f I⟨H,e,y,w,ds,e1,ha,p,E,r,o⟩=>by refine oq hN hi hx (ur q he.h) hs hf f' s A Hf f I ⟨H,e,y,e1,ha,w,E,?_⟩;unfold gQ at o;match i:z w with|none=>rw[i]at o;exact o.elim|some (.exc _)=>rw[i]at o;exact o.elim|some (.ok d)=>rw[i]at o;exactλv H' k N u=>o _ H' y k u (by rw[p_ (UK n)];exact p) ((E.mono k).set N) (S.mono k _ _ r)⟩
variable{Ξ:è}
theorem QC{f g:kj}(v:a.ex=[]){A z:List U8}(hc:FT a h Ξ)(ha:ş a b A f)(hb:ş a b z g):Š a b (.If h A z m) (oIf Ξ f g):=⟨λf' s N Hf e I⟨H,d,p,k,y,e1,w,j,E,r,o⟩=>by refine BN (Ho v hc.h) ha.h hb.h f' s N Hf e I ⟨H,d,p,e1,w,k,E,?_⟩;unfold oIf at o;match n:Ξ k with|none=>rw[n]at o;exact o.elim|some (.exc _)=>rw[n]at o;exact o.elim|some (.ok L)=>rw[n]at o;exactλu i q=>EH ⟨u,d,p,k,y,rfl,q,j,E.mono i,S.mono i _ _ r,Ē.mono i o⟩|some (.ok D)=>rw[n]at o;exactλu i q=>EG ⟨u,d,p,k,y,rfl,q,j,E.mono i,S.mono i _ _ r,Ē.mono i o⟩⟩
theorem Me{f g:kj}{A:List U8}(hc:FT a h Ξ)(ha:ş a b À f)(hb:ş a b A g):Š a b (.If h À A m) (Hs b Ξ f g):=⟨λf' s N Hf e I⟨H,d,z,p,w,e1,k,j,E,r,o⟩=>by subst e1;refine BN hc.h ha.h hb.h f' s N _ e I ⟨_,mM k j E r,?_⟩;unfold Hs at o;match n:Ξ (p.set b (Z (.lst w)))with|none=>rw[n]at o;exact o.elim|some (.exc _)=>rw[n]at o;exact o.elim|some (.ok L)=>rw[n]at o;intro H2 v;obtain⟨y,u,q,i⟩:=y8 k v;exact EH ⟨y,d,z,p,w,u,q,j,E.mono i,S.mono i _ _ r,Ē.mono i o⟩|some (.ok D)=>rw[n]at o;intro H2 v;obtain⟨y,u,q,i⟩:=y8 k v;exact EG ⟨y,d,z,p,w,u,q,j,E.mono i,S.mono i _ _ r,Ē.mono i o⟩⟩
theorem Mf(q:FE a h z):Š a b (.Return (Z h) m) (y6 b z):=⟨λu s k Hf e I⟨H,f,xs,n,A,y,g,j,E,r,o⟩=>by subst y;refine yg q.h u s k _ e I ⟨_,mM g j E r,?_⟩;unfold y6 at o;match i:z (n.set b (Z (.lst A)))with|none=>rw[i]at o;exact o.elim|some (.exc _)=>rw[i]at o;exact o.elim|some (.ok d)=>rw[i]at o;exactλv N w p=>o v N ((jd g).trans w) p⟩
theorem Mg(b':a.ex=[]){x:Str}{i g:Pos}(hx:PE a (.Name x i) (yd b))(he:FE a h z)(p:Vd (.Name x i) "append" a.env (eval (.Name x i) a.env)=eval (.Name x i) a.env:=by lk)(w:((UH g (k_ [h] a.env)).all (λx=>!x.1)&&(Wd g (Vo [] a.env)).all (λx=>x.1.isSome)&&s_ ([h].length+([]:List Wl).length+(if([]:List Wl).isEmpty then 0 else 1)<30))=L:=by lk){N:Pos}(n:(N.endLine==g.line)=L:=by lk)(hs:k_ [h] a.env=(D,eval h a.env)::k_ [] a.env:=by lk)(k:(UH g (k_ [] a.env)).any (·.1)=D:=by lk)(a':Vb (.Call (.Attribute (.Name x i) "append" N) [h] [] g) U m.line a.env=pure D:=by lk):Š a b (.Expr (.Call (.Attribute (.Name x i) "append" N) [h] [] g) m) (CB z):=⟨λf' s σ Hf f I⟨H,e,q,y,ds,e1,d',u,E,r,o⟩=>by
 refine tZ (BY WV Xo ZI rF hx (Hq b' (ui he yH hs).h) p w n hs k) a' f' s σ Hf f I ?_;unfold CB at o;split at o
 ·rename_i hl;match j:z y with
  |none=>rw[j]at o;exact o.elim|some (.exc _)=>rw[j]at o;exact o.elim|some (.ok d)=>
  rw[j]at o;refine⟨.ref e,u,.inl ⟨rfl,q,ā.of (by rw[e1];exact aw)⟩,H,e,q,e1,d',y,E,?_⟩;show ê a H (aR z bQ y) _;rw[ae j au];intro vs H' A rs c';obtain⟨v,rfl,rv⟩:=fG rs;have hz:q.length<sizeLine:=by have:=r.length;have h2:=ce (b:=q.length+1) (by omega);omega
  refine⟨e,q,v,rfl,rfl,aw,hz,?_⟩;rw[ya];exact o σ H' (q++[v]) A c' u (E.mono A) ((S.mono A _ _ r).append ⟨v,[],rfl,rv,rfl⟩)
 ·exact o.elim⟩
noncomputable def y9(i:Nat)(g:á)(f:kj):Ù:=λe=>db (g e) λh=>if h.length<=100000 then(match f (e.set i U) h with|some (.nx a b)=>Z (.nx (a.set i (Z (.lst b))))|some (.rt d)=>Z (.rt d)|none=>U)else U
variable{ν:á}{Ρ:Pos}
theorem Hv{f:kj}(hN:a.N.Nodup)(hi:a.N[b]?=Z d)(hx:ł a.env.scope d)(hg:FA a v ν)(hr:ş a b À f)(hs:Vb (.List v u) (Z (.Name d Ρ)) m.line a.env=pure D:=by lk)(hf:a.fn d=L\/a.env.scope.names.lookup d=Z .local:=by first|exact .inl rfl|exact .inr rfl|assumption):ġ a (.Assign [.Name d Ρ] (.List v u) m::À) (y9 b ν f):=⟨λf' s σ H h I⟨q,E,o⟩=>by refine gM (oq (b:=b) hN hi hx (yw hg.h) hs hf) hr.h f' s σ H h I ⟨q,E,?_⟩;unfold y9 at o;match k:ν q with
 |none=>rw[k]at o;exact o.elim|some (.exc _)=>rw[k]at o;exact o|some (.ok w)=>
 rw[k]at o;intro vs H1 e1 rs;have i:õ a H (if w.length<=100000 then(match f (q.set b U) w with|some (.nx y N)=>Z (.nx (y.set b (Z (.lst N))))|some (.rt e)=>Z (.rt e)|none=>U)else U) h:=o;by_cases hl:w.length<=100000
 · rw[if_pos hl]at i;refine⟨by rw[rs.length];exact ce hl,λp hp=>?_⟩;have c':b<σ.length:=by rw[I.len];exact(H_.mp hi).1
   refine⟨H1,p,vs,q.set b U,w,rfl,hp,A_ c',?_,rs,?_⟩
   · have E1:=(E.mono e1).fgt1 b;refine⟨by rw[UM];exact E1.len,λj e r=>?_⟩;by_cases z:b=j
     · subst z;by_cases b':b<q.length;·rw[A_ b']at r;cases r
       ·rw[Va (by rw[UM];omega)]at r;cases r
     ·obtain⟨g,q1,q2⟩:=E1.at' j e r;exact⟨g,by rw[p_ z];exact q1,q2⟩
   ·match n:f (q.set b U) w with|none=>rw[n]at i;exact i.elim|some (.rt e)=>rw[n]at i;exactλg H' e' r'=>i g H' (e1.trans e') r'|some (.nx y N)=>rw[n]at i;exactλa' H' g' e' A d' E' r'=>i a' _ ((e1.trans e').trans (jd A)) (mM A d' E' r')
 ·rw[if_neg hl]at i;exact i.elim⟩
def nU(j:Nat)(f:List Nat)(a:kj):List Q->Ev->List Q->Option Fo|[],b,e=>Z (.nx (fgt f b) e)|d::i,b,e=>match a ((fgt f b).set j (Z d)) e with|some (.nx g h)=>nU j f a i g h|o=>o
def za(j:Nat)(g:List Nat)(b:á)(a:kj):kj:=λd f=>w8 (b d) λe=>if à e=L then nU j g a e d f else U
theorem l7:∀{a:List Q}{n:Nat}{d:Q},à a=L->a[n]?=Z d->ğ d=L
 |[],_,_,_,h=>by simp at h|e::a,0,d,i,h=>by
  have b:ğ e=L/\à a=L:=by simpa[à]using i
  cases(show Z e=Z d from h);exact b.1|e::a,n+1,d,i,h=>by
  have b:ğ e=L/\à a=L:=by simpa[à]using i
  exact l7 b.2 (show a[n]?=Z d from h)
theorem CG(i:ğ j=L)(r:Ô s (ß g e (.lst ι)) j ψ):Ô s g j ψ:=Ô.tups (λb d q=>by
 by_cases a:b=e;·rw[a,aw]at q;cases q
 ·rw[aA a]at q;exact q) j ψ i r
theorem Mh{fb:kj}(v':a.ex=[])(j:Nat)(js:List Nat)(s':b≠j)(hp:Xl (E_ a.prog a.w) a.A a.env a.xe)(hc:a.calm=L)(hi:FI a h w ν)(hg:PG a h (wL j))(hb:ş a b À fb)(hs:∀x,UF w a.env x=pure x:=by intro _;lk):Š a b (.For h w À [] m) (za j js ν fb):=⟨λf' s σ Hf f I⟨H,e,xs,ρ,ds,e1,ha,t',E,r,o⟩=>by refine rh hp hc (Hr v' hi.h) hg hb.h hs f' s σ Hf f I ⟨H,e,xs,e1,ha,ρ,E,?_⟩;unfold za at o;match hf:ν ρ with
 |none=>rw[hf]at o;exact o.elim|some (.exc _)=>rw[hf]at o;exact o.elim|some (.ok k)=>
 rw[hf]at o;have o0:Ē a b e H (if à k=L then nU j js fb k ρ ds else U) f:=o;by_cases e':à k=L
 · rw[if_pos e']at o0;intro J H1 e1 wk w';have o1:=Ē.mono e1 o0;refine⟨λn g N m'=>g=k.length-n/\n<=k.length/\∃p i u v,m'=ß p e (.lst i)/\p e=U/\Ñ H1 p/\N[b]?=Z (Z (.ref e))/\Û a.K p N u/\S a.K p v i/\Ē a b e p (nU j js fb (k.drop n) u v) f,⟨k.length,by simp,UQ _,H1,xs,ρ,ds,rfl,w',.refl H1,t',E.mono e1,S.mono e1 _ _ r,by simpa using o1⟩,?_⟩;rintro n g N m'⟨rfl,hn,p,i,u,v,rfl,h',e2,c',E',r',z⟩;have i':Ñ H1 (ß p e (.lst i)):=e2.trans (jd h');by_cases d':n<k.length;·refine .inr ⟨wk.go n _ i' d',λA l'=>∃H2 k' a' b',l'=ß H2 e (.lst k')/\H2 e=U/\Ñ H1 H2/\A[b]?=Z (Z (.ref e))/\Û a.K H2 A a'/\S a.K H2 b' k'/\Ē a b e H2 (nU j js fb (k.drop (n+1)) a' b') f,λA l' q=>⟨k.length-(n+1),by omega,rfl,d',q⟩,λx H2 y=>?_⟩;obtain⟨rfl,d,hd,rd⟩:=wk.yld n _ x H2 i' d' y;have p':=CG (l7 e' hd) rd;rw[i7 hd]at z;show tO a b fb _ _ _;refine⟨p,e,i,(fgt js u).set j (Z d),v,rfl,h',by rw[p_ (UK s')];exact c',(Û.fgt js E').set p',r',?_⟩;unfold nU at z;match g':fb ((fgt js u).set j (Z d)) v with|none=>rw[g']at z;exact z|some (.rt r)=>rw[g']at z;exact z|some (.nx a' b')=>rw[g']at z;exactλA H3 n' e3 h3 u' E3 r3=>⟨H3,n',a',b',rfl,h3,e2.trans e3,u',E3,r3,Ē.mono e3 z⟩
   · have q':n=k.length:=by omega
     subst q';rw[XM]at z;exact .inl ⟨wk.stop _ i',z N p i (.refl p) h' c' (Û.fgt js E') r'⟩
 ·rw[if_neg e']at o0;exact o0.elim⟩
noncomputable def rT:Q->Bool|.bl _=>L|.int _=>L|_=>D
theorem Hw(K:d_)(d:Q):WT K (.type (tyD d)) (.type "int")=Z (rT d):=by cases d<;>lk
theorem Mi:VN (b_ "int")=Z (.type "int"):=by lk
noncomputable def Mj:Ö|[.int i,.int j]=>Z (.ok (.int (if j<i then j else i)))|_=>U
noncomputable def QD:Ö|[.int i]=>if i.natAbs.log2<1920 then Z (.ok (.str (toString i)))else U|_=>U
theorem Ml(w:a.calm=L)(q:Gl a "min")(p:a.mg "min"=U)(y:FA a (h::v) ν)(s:k_ (h::v) a.env=(D,eval h a.env)::k_ v a.env:=by lk)(e:(UH u (k_ v a.env)).any (·.1)=D:=by lk):FE a (.Call (.Name "min" m) (h::v) [] u) (â Mj ν):=ef (ka (yq w) q p PyProof.Rows.boot_min y.h (by decide) (by decide) s e) λz H Q g E o=>⟨g,E,ê.bind o λN A f I k d=>by
 unfold Mj at d;split at d;·rename_i i j;obtain⟨b,v2,rfl,r,n⟩:=GR k;cases(show b=.int i from r);cases(show v2=.int j from n);exact⟨i,j,rfl,d _ f (.refl f) rfl⟩
 ·exact d.elim⟩
noncomputable def Ļ:Q->Q->Option (Rs Q)|.int i,.int j=>Z (.ok (.bl (s_ (i<=j))))|.str x,.str y=>Z (.ok (.bl (!s_ (y.cps.toList<x.cps.toList))))|_,_=>U
def SA:R2:=λx y H Q=>Ř (λi j=>.bl (s_ (i<=j))) x y H Q\/∃i j,x=.str i/\y=.str j/\Q (.bl (!s_ (j.cps.toList<i.cps.toList))) H
theorem zb:ù a (UN .LtE) (λx y H Q=>∃i j,x=.str i/\y=.str j/\Q (.bl (!s_ (j.cps.toList<i.cps.toList))) H):=by intro g s e H x y v u Q I d b h;obtain⟨i,j,rfl,rfl,q⟩:=h;obtain⟨t,rfl⟩:=d;obtain⟨f,rfl⟩:=b;exact PySem.P.le_str ⟨.bl _,H,I,rfl,q⟩
theorem QE:ù a (UN .LtE) SA:=op_le.or zb
theorem QF:Ĕ a SA Ļ:=by
 intro f e x y H Q d b o;cases f<;>cases e<;>try exact(show False from o).elim
 ·rename_i i j;exact .inl ⟨i,j,d,b,o _ H (.refl H) rfl⟩
 ·rename_i i j;exact .inr ⟨i,j,d,b,o _ H (.refl H) rfl⟩
def QG(K:d_)(S:List Nat)(a:List O)(b:O):Bool:=excIn K b ū "ValueError.__new__"&&S.all λc=>excIn K (a.getD c 0) ū "ValueError.__new__"&&xiB K (a.getD c 0)&&mroIn K (a.getD c 0) (.ref b)==Z L&&mroIn K (a.getD c 0) (.ref (a.getD c 0))==Z L&&kitOne K (.ref (a.getD c 0)) (.type "ValueError")==Z L&&S.all λd=>kitOne K (.ref (a.getD c 0)) (.ref (a.getD d 0))==Z (c==d)
structure č(K:d_)(S:List Nat)(cls:Nat->O)(CJ:O):Prop where at_:∀c∈S,nsIn K C_ (Ĩ c)=Z (Z (.ref (cls c)))/\excIn K (cls c) ū "ValueError.__new__"=L/\XI K (cls c)/\mroIn K (cls c) (.ref CJ)=Z L/\mroIn K (cls c) (.ref (cls c))=Z L/\kitOne K (.ref (cls c)) (.type "ValueError")=Z L/\∀d∈S,kitOne K (.ref (cls c)) (.ref (cls d))=Z (c==d)exJ:excIn K CJ ū "ValueError.__new__"=L
theorem CH{S:List Nat}(f:∀c∈S,nsIn s C_ (Ĩ c)=Z (Z (.ref (ο.getD c 0))))(h:QG s S ο e=L):č s S (λc=>ο.getD c 0) e:=by unfold QG at h;rw[m_]at h;refine⟨λc b=>?_,h.1⟩;have a:=UY.mp h.2 c b;simp only[m_,beq_iff_eq]at a;exact⟨f c b,a.1.1.1.1.1,Qu a.1.1.1.1.2,a.1.1.1.2,a.1.1.2,a.1.2,λd g=>by have i:=UY.mp a.2 d g;simpa using i⟩
section
variable{K:d_}{S:List Nat}{cls:Nat->O}{CJ:O}(x:č K S cls CJ)
include x
theorem č.xc(c:Nat)(h:c∈S):XC K c (cls c):=⟨(x.at_ c h).1,(x.at_ c h).2.1⟩
theorem č.same{c:Nat}{C:O}(h:c∈S)(q:nsIn K C_ (Ĩ c)=Z (Z (.ref C))):C=cls c:=by have z:=(x.at_ c h).1;rw[q]at z;cases z;rfl
end
end FD
variable{H:List FD.Q}{Λ:L2.St}{ε:FD.Ev}{j:FD.Q}{Ψ:FD.Ö}{z:FD.Ò}{Ξ:FD.è}{Φ:FD.Ù}{É:FD.Ò}{ν:FD.á}{θ:FD.Q}{Ρ:Pos}
namespace ST
open PySem.SetTable
noncomputable def stp(m i:Nat):Nat:=(i*5+1)%(m+1)
def it(m:Nat):Nat->Nat->Nat|0,i=>i|k+1,i=>it m k (stp m i)
def xT(m:Nat):Bool:=(t_ (m+1)).all λi=>(t_ (m+1)).all λj=>(t_ (m+1)).any λk=>it m k i==j
theorem TC:xT 7=L:=by decide+kernel
theorem QH:xT 31=L:=by decide+kernel
theorem vG(m:Nat):∀(a b i:Nat),it m (a+b) i=it m b (it m a i)|0,b,i=>by rw[Xd];rfl|a+1,b,i=>by rw[abD];exact vG m a b (stp m i)
def orb(m:Nat):Nat->Nat->List Nat|0,_=>[]|n+1,i=>i::orb m n (stp m i)
theorem Fe(m:Nat):∀(n i j:Nat),j∈orb m n i->∃k,k<n/\it m k i=j
 |0,_,_,h=>by simp[orb]at h|n+1,i,j,h=>by
  rcases uk.mp h with rfl|h;·exact⟨0,by omega,rfl⟩
  ·obtain⟨k,b,a⟩:=Fe m n _ j h;exact⟨k+1,by omega,a⟩
theorem Hx:((t_ 128).all λj=>(orb 127 128 0).contains j)=L:=by decide+kernel
theorem CI:it 127 128 0=0:=by decide+kernel
theorem Mm:xT 127=L:=by
 have d:∀j,j<128->∃k,k<128/\it 127 k 0=j:=λj e=>by have:=UY.mp Hx j (UZ.mpr e);exact Fe 127 128 0 j (by simpa using this)
 unfold xT;refine UY.mpr λi h=>UY.mpr λj e=>W3.mpr ?_;obtain⟨a,o,g⟩:=d i (UZ.mp h);obtain⟨b,n,f⟩:=d j (UZ.mp e);by_cases m:a<=b;·refine⟨b-a,UZ.mpr (by omega),?_⟩;rw[<-g,<-vG,show a+(b-a)=b by omega,f];simp
 ·refine⟨128-a+b,UZ.mpr (by omega),?_⟩;rw[<-g,<-vG,show a+(128-a+b)=128+b by omega,vG,CI,f];simp
theorem Mn(h:xT b=L){i j:Nat}(m:i<=b)(g:j<=b):∃k,k<=b/\it b k i=j:=by unfold xT at h;have f:=UY.mp h i (UZ.mpr (by omega));have d:=UY.mp f j (UZ.mpr (by omega));obtain⟨k,a,e⟩:=W3.mp d;exact⟨k,by have:=UZ.mp a;omega,by simpa using e⟩
noncomputable def lp(m:Nat):Nat->Nat×Nat->Nat×Nat|0,x=>x|r+1,x=>lp m r (leap m x.1 x.2)
theorem zc(m:Nat):∀(a b:Nat)(x:Nat×Nat),lp m (a+b) x=lp m b (lp m a x)|0,b,x=>by rw[Xd];rfl|a+1,b,x=>by rw[abD];show lp m (a+b) (leap m x.1 x.2)=lp m b (lp m a (leap m x.1 x.2));exact zc m a b _
theorem Hy(m:Nat):∀(r:Nat)(x:Nat×Nat),x.1<=m->(lp m r x).1<=m|0,x,h=>h|r+1,x,h=>Hy m r _ (by show(x.1*5+1+x.2/32)%(m+1)<=m;exact WF (Zq _ (Yr m)))
theorem Mp(m:Nat):∀(r:Nat)(x:Nat×Nat),(lp m r x).2=x.2/32^r|0,x=>by simp[lp]|r+1,x=>by show(lp m r (leap m x.1 x.2)).2=_;rw[Mp m r];show x.2/32/32^r=_;rw[Nat.div_div_eq_div_mul,Nat.pow_succ,abE]
theorem zd(m:Nat):∀(r:Nat)(i:Nat),(lp m r (i,0)).1=it m r i
 |0,i=>rfl|r+1,i=>by
  show(lp m r (leap m i 0)).1=it m r (stp m i);have e:leap m i 0=(stp m i,0):=by unfold leap stp;simp
  rw[e];exact zd m r _
theorem ze(c:xT b=L){i a j:Nat}(f:i<=b)(m:a<2^64)(d:j<=b):∃r,r<=13+b/\(lp b r (i,a)).1=j:=by
 have g:(lp b 13 (i,a)).2=0:=by rw[Mp];exact Nat.div_eq_of_lt (by
 show a<32^13;have:(32:Nat)^13=2^65:=by decide
 omega)
 obtain⟨k,n,e⟩:=Mn c (Hy b 13 (i,a) f) d;refine⟨13+k,by omega,?_⟩;rw[zc];have h:lp b 13 (i,a)=((lp b 13 (i,a)).1,0):=by rw[<-g]
 rw[h,zd];exact e
noncomputable def advN(t:SetTable):Nat->Probe->Probe|0,p=>p|n+1,p=>advN t n (t.advance p)
theorem kl(t:SetTable):∀(a b:Nat)(p:Probe),advN t (a+b) p=advN t b (advN t a p)|0,b,p=>by rw[Xd];rfl|a+1,b,p=>by rw[abD];exact kl t a b _
structure Vp(t:SetTable)(p:Probe):Prop where
 i:p.i<=t.mask
 pt:p.perturb<2^64more:p.more<=9dm:p.dummy=U
theorem rV(m i:Nat):acs m i-i<=9:=by unfold acs;split<;>omega
noncomputable def rW(t:SetTable)(p:Probe):Probe:={p with j:=(leap t.mask p.i p.perturb).1,more:=acs t.mask (leap t.mask p.i p.perturb).1-(leap t.mask p.i p.perturb).1,i:=(leap t.mask p.i p.perturb).1,perturb:=(leap t.mask p.i p.perturb).2}
theorem vH(t:SetTable)(p:Probe)(h:p.more=0):t.advance p=rW t p:=by unfold abR rW;rw[if_neg (by omega)]
theorem zg(t:SetTable)(p:Probe)(h:0<p.more):t.advance p={p with j:=p.j+1,more:=p.more-1}:=by unfold abR;rw[if_pos h]
theorem uu(t:SetTable):∀(k:Nat)(p:Probe),p.more=k->advN t (k+1) p=rW t p|0,p,h=>vH t p h|k+1,p,h=>by show advN t (k+1) (t.advance p)=_;rw[zg t p (by omega),uu t k _ (by show p.more-1=k;omega)];rfl
theorem zh(m i a:Nat)(h:a<2^64):(leap m i a).2<2^64:=Nat.lt_of_le_of_lt (Nat.div_le_self _ _) h
theorem Vp.leap{t:SetTable}{p:Probe}(v:Vp t p):Vp t (rW t p):=⟨by show(p.i*5+1+p.perturb/32)%(t.mask+1)<=t.mask;exact WF (Zq _ (Yr t.mask)),(show(aba t.mask p.i p.perturb).2<2^64 from zh _ _ _ v.pt),(show acs t.mask (aba t.mask p.i p.perturb).1-(aba t.mask p.i p.perturb).1<=9 from rV _ _),v.dm⟩
theorem Vp.adv{t:SetTable}{p:Probe}(v:Vp t p):Vp t (t.advance p):=by
 by_cases h:0<p.more;·rw[zg t p h];exact⟨v.i,v.pt,by show p.more-1<=9;have:=v.more;omega,v.dm⟩
 ·rw[vH t p (by omega)];exact v.leap
theorem Vp.advN{t:SetTable}:∀(n:Nat){p:Probe},Vp t p->Vp t (advN t n p)|0,p,v=>v|n+1,p,v=>Vp.advN n v.adv
theorem vI(t:SetTable):∀(r:Nat)(p:Probe),Vp t p->∃n,n<=10*r/\(advN t n p).i=(lp t.mask r (p.i,p.perturb)).1/\(r≠0->(advN t n p).j=(advN t n p).i)
 |0,p,v=>⟨0,by omega,rfl,λh=>absurd rfl h⟩|r+1,p,v=>by
  obtain⟨n,f,e,d⟩:=vI t r (rW t p) v.leap;refine⟨p.more+1+n,by have:=v.more;omega,?_,λ_=>?_⟩;·rw[kl,uu t p.more p rfl,e];rfl
  · rw[kl,uu t p.more p rfl];by_cases a:r=0
    · subst a;have b:n=0:=by omega
      subst b;rfl
    ·exact d a
structure Tb(t:SetTable)(n:Nat):Prop where
 size:t.place.size=n
 dm:t.dummies=#[]cyc:xT t.mask=L
 room:n<=t.mask
theorem zi(j:Nat):has #[] j=D:=by unfold has;simp
theorem oH{t:SetTable}(T:Tb t b)(j:Nat):t.slot j=.empty\/∃i,t.slot j=.live i/\t.place[i]?=Z j:=by
 unfold SetTable.slot;dsimp only;split;·rename_i h;exact .inr ⟨_,rfl,by simpa using h⟩
 ·rw[T.dm,zi];exact .inl rfl
theorem zj:∀(m:Nat)(l:List Nat),l.length<=m->∃j,j<=m/\j∉l
 |0,l,h=>⟨0,on _,by have:l=[]:=WZ.mp (by omega);simp[this]⟩|m+1,l,h=>by
  by_cases a:(m+1)∈l;·obtain⟨j,e,b⟩:=zj m (l.erase (m+1)) (by rw[List.length_erase_of_mem a];omega);refine⟨j,by omega,λd=>b ?_⟩;exact(List.mem_erase_of_ne (by omega)).mpr d
  ·exact⟨m+1,on _,a⟩
theorem CL{t:SetTable}(T:Tb t b):∃j,j<=t.mask/\t.slot j=.empty:=by
 obtain⟨j,d,a⟩:=zj t.mask t.place.toList (by simp[T.size,T.room]);refine⟨j,d,?_⟩;rcases oH T j with h|⟨i,h,e⟩;·exact h
 ·exact absurd (WI.mpr (Array.mem_of_getElem? e)) a
theorem QI{t:SetTable}(T:Tb t b){p:Probe}(v:Vp t p):∃N,N<10*ŷ t.mask/\t.slot (advN t N p).j=.empty:=by obtain⟨j,a,d⟩:=CL T;obtain⟨r,h,e⟩:=ze T.cyc (Hy t.mask 1 (p.i,p.perturb) v.i) (by show(leap t.mask p.i p.perturb).2<2^64;exact zh _ _ _ v.pt) a (a:=(lp t.mask 1 (p.i,p.perturb)).2);obtain⟨N,i,g,f⟩:=vI t (1+r) p v;refine⟨N,by unfold ŷ;omega,?_⟩;rw[f (by omega),g,zc];rw[show lp t.mask 1 (p.i,p.perturb)=((lp t.mask 1 (p.i,p.perturb)).1,(lp t.mask 1 (p.i,p.perturb)).2)from rfl,e];exact d
theorem first{P:Nat->Prop}[DecidablePred P]:∀(b:Nat),(∃n,n<b/\P n)->∃n,n<b/\P n/\∀k,k<n->¬P k
 |0,⟨n,h,_⟩=>absurd h (XY _)|b+1,⟨n,h,a⟩=>by
  by_cases q:∃n,n<b/\P n
  ·obtain⟨n,i,g,f⟩:=first b q;exact⟨n,by omega,g,f⟩
  · have d:n=b:=by have:¬n<b:=λz=>q ⟨n,z,a⟩;omega
    subst d;exact⟨n,by omega,a,λk e z=>q ⟨k,e,z⟩⟩
theorem Mq{t:SetTable}(T:Tb t b){p:Probe}(v:Vp t p):∃N,N<10*ŷ t.mask/\t.slot (advN t N p).j=.empty/\∀k,k<N->t.slot (advN t k p).j≠.empty:=first (P:=λb=>t.slot (advN t b p).j=.empty) _ (QI T v)
theorem Ff{t:SetTable}{n:Nat}(T:Tb t n)(a:Nat->Int)(h:Int):∀(N b:Nat)(p:Probe),Vp t p->N<b->t.slot (advN t N p).j=.empty->(∀k,k<N->t.slot (advN t k p).j≠.empty)->ZS t a h b p=Z (.empty (advN t N p).j U)\/∃m i,m<N/\t.slot (advN t m p).j=.live i/\t.place[i]?=Z (advN t m p).j/\a i=h/\ZS t a h b p=Z (.candidate (advN t m p).j i (advN t (m+1) p))
 |N,0,p,v,e,_,_=>absurd e (XY _)|0,b+1,p,v,e,f,_=>by refine .inl ?_;unfold ZS;rw[show t.slot p.j=.empty from f];show Z (Met.empty p.j p.dummy)=_;rw[v.dm];rfl|N+1,b+1,p,v,e,f,j=>by
  rcases oH T p.j with A|⟨i,g,z⟩;·exact absurd A (j 0 (by omega))
  · by_cases d:a i=h;·refine .inr ⟨0,i,by omega,g,z,d,?_⟩;unfold ZS;rw[g];dsimp only;rw[if_pos (by simpa using d)];rfl
    · have o:ZS t a h (b+1) p=ZS t a h b (t.advance p):=by
       conv=>lhs;unfold ZS
       rw[g];dsimp only;rw[if_neg (by simpa using d)]
      rcases Ff T a h N b (t.advance p) v.adv (by omega) f (λk H=>j (k+1) (by omega))with q|⟨m,y,E,w,u,s,r⟩;·exact .inl (by rw[o,q];rfl)
      ·exact .inr ⟨m+1,y,by omega,w,u,s,by rw[o,r];rfl⟩
theorem zk{t:SetTable}(h:Int):Vp t (t.probeStart h):=⟨by show bits h%(t.mask+1)<=t.mask;exact WF (Zq _ (Yr t.mask)),by show bits h<2^64;unfold bits;have b:=WB h (show(2^64:Int)≠0 by decide);have a:=VR h (show(0:Int)<2^64 by decide);omega,rV _ _,rfl⟩
theorem rX{m:Nat}{a:Array (Option Nat)}:∀(b i d:Nat),i<=m->(∃r,r<b/\(a.getD (lp m r (i,d)).1 (Z 0)).isNone=L)->∃j,YK m a b i d=Z j/\(a.getD j (Z 0)).isNone=L
 |0,i,d,_,⟨r,h,_⟩=>absurd h (XY _)|b+1,i,d,n,⟨r,h,e⟩=>by
  unfold YK;split;·rename_i k f;exact⟨i+k,rfl,by simpa using acb f⟩
  ·rename_i f;cases r with|zero=>have g:0∈t_ (acs m i+1-i):=UZ.mpr (by unfold acs;split<;>omega);have:=Zt.mp f 0 g;exact absurd (show(a.getD (i+0) (Z 0)).isNone=L from e) this|succ r=>exact rX b _ _ (by show(i*5+1+d/32)%(m+1)<=m;exact WF (Zq _ (Yr m))) ⟨r,by omega,e⟩
theorem Fg:∀(l:List (Option Nat))(j k:Nat),l[j]?=Z U->((l.set j (Z k)).filterMap id).Perm (k::l.filterMap id)
 |[],j,k,h=>by simp at h|x::l,0,k,h=>by
  have:x=U:=by simpa using h
  subst this;simp|x::l,j+1,k,h=>by have a:=Fg l j k (by simpa using h);cases x with|none=>simpa using a|some y=>show List.Perm (y::(l.set j (Z k)).filterMap id) (k::y::l.filterMap id);exact(a.cons y).trans (acy ..)
theorem zl:∀(l:List (Option Nat)),(l.filterMap id).length<l.length->∃j,j<l.length/\l[j]?=Z U|[],h=>by simp at h|none::l,h=>⟨0,by simp,rfl⟩|some y::l,h=>by obtain⟨j,b,a⟩:=zl l (by simpa using h);exact⟨j+1,by simpa using b,by simpa using a⟩
noncomputable def Hz(m:Nat)(b:Option (Array (Option Nat)×Nat))(h:Int):Option (Array (Option Nat)×Nat):=do let(a,k)<-b let j<-YK m a (ŷ m) (bits h%(m+1)) (bits h)pure (a.setIfInBounds j (Z k),k+1)
theorem HB(h:Int):bits h<2^64:=by unfold bits;have b:=WB h (show(2^64:Int)≠0 by decide);have a:=VR h (show(0:Int)<2^64 by decide);omega
theorem getD_none{a:Array (Option Nat)}(h:(a.getD b (Z 0)).isNone=L):b<a.size/\a.toList[b]?=Z U:=by rw[Xr]at h;cases q:a[b]? with|none=>rw[q]at h;simp at h|some x=>
 rw[q]at h;have d:x=U:=by simpa using h
 subst d;refine⟨(VZ.mp q).1,by rw[Wv];exact q⟩
theorem zm{m:Nat}(c:xT m=L):∀(b:List Int)(a:Array (Option Nat))(k:Nat),a.size=m+1->(a.toList.filterMap id).Perm (t_ k)->k+b.length<=m->∃d,b.foldl (Hz m) (Z (a,k))=Z (d,k+b.length)/\d.size=m+1/\(d.toList.filterMap id).Perm (t_ (k+b.length))
 |[],a,k,f,g,n=>⟨a,rfl,f,g⟩|h::b,a,k,f,g,n=>by
  have z:k+(b.length+1)<=m:=by simpa using n
  obtain⟨p,y,o⟩:=zl a.toList (by rw[g.length_eq,Yx];simp only[Ve,f];omega);have i:p<=m:=by simp only[Ve,f]at y;omega
  obtain⟨r,E,w⟩:=ze c (i:=bits h%(m+1)) (a:=bits h) (WF (Zq _ (Yr m))) (HB h) i;obtain⟨j,f1,R⟩:=rX (m:=m) (a:=a) (ŷ m) (bits h%(m+1)) (bits h) (WF (Zq _ (Yr m))) ⟨r,by unfold ŷ;omega,by rw[w,Xr];rw[Wv]at o;rw[o];rfl⟩;obtain⟨A,q⟩:=getD_none R;have e:Hz m (Z (a,k)) h=Z (a.setIfInBounds j (Z k),k+1):=by show(YK m a (ŷ m) (bits h%(m+1)) (bits h)).bind (λj=>Z (a.setIfInBounds j (Z k),k+1))=_;rw[f1];rfl
  rw[Xj,e];obtain⟨d,v,u,s⟩:=zm c b (a.setIfInBounds j (Z k)) (k+1) (by rw[Array.size_setIfInBounds];exact f) (by rw[Array.toList_setIfInBounds];refine(Fg _ _ _ q).trans ((g.cons k).trans ?_);rw[aar];exact(Xw k (t_ k)).symm) (by omega);refine⟨d,?_,u,?_⟩;·rw[v];simp only[UB];congr 2;omega
  ·simp only[UB];rw[show k+(b.length+1)=k+1+b.length by omega];exact s
theorem uv(c:xT b=L)(d:Array Int)(i:d.size<=b):∃f,act b d=Z f/\f.size=b+1/\(f.toList.filterMap id).Perm (t_ d.size):=by obtain⟨f,o,n,m⟩:=zm c d.toList (aav (b+1) U) 0 (by simp) (by simp[List.filterMap_replicate]) (by simpa using i);refine⟨f,?_,n,by simpa using m⟩;unfold act;rw[<-Array.foldl_toList];have e:(abk (λg h=>do let(a,k)<-g let j<-YK b a (ŷ b) (bits h%(b+1)) (bits h)pure (a.setIfInBounds j (Z k),k+1)) (Z (aav (b+1) U,0)) d.toList:Option (Array (Option Nat)×Nat))=d.toList.foldl (Hz b) (Z (aav (b+1) U,0)):=rfl;rw[e,o];rfl
theorem vJ:∀(l:List (Option Nat))(base:Nat),((t_ l.length).filterMap λj=>(l.getD j U).map (λx=>(base+j,x))).map (·.2)=l.filterMap id
 |[],base=>rfl|x::l,base=>by
  rw[UB,aah,XQ,Zu];have a:=vJ l (base+1);have e:(t_ l.length).filterMap ((λj=>((x::l).getD j U).map (λx=>(base+j,x)))∘Nat.succ)=(t_ l.length).filterMap λj=>(l.getD j U).map (λx=>(base+1+j,x)):=by congr 1;funext j;show((x::l).getD (j+1) U).map _=_;simp only[List.getD_cons_succ];rw[show base+(j+1)=base+1+j by omega]
  rw[e];cases x with|none=>simpa using a|some y=>simp only[List.getD_cons_zero,Xi,G_];rw[a];rfl
variable{υ:Nat}
theorem HC(c:xT b=L)(f:Array Int)(h:f.size<=b):∃t a,laid b k υ E Ã f=Z (t,a)/\t.mask=b/\t.moves=υ/\t.led=E/\t.plain=Ã/\Tb t f.size/\a.toList.Perm (t_ f.size):=by
 obtain⟨g,n,m,i⟩:=uv c f h;have e:=vJ g.toList 0;have d:((t_ (b+1)).filterMap λj=>(g.getD j U).map (j,·))=((t_ g.toList.length).filterMap λj=>(g.toList.getD j U).map (λx=>(0+j,x))):=by rw[Ve,m];congr 1;funext j;rw[Xd,Xr,Xx,Wv]
 refine⟨_,_,by unfold laid;rw[n];rfl,rfl,rfl,rfl,rfl,⟨?_,rfl,c,h⟩,?_⟩;·simp only[F_,S_];rw[d];have:=congrArg YR e;rw[S_]at this;rw[this,i.length_eq,Yx]
 ·rw[aa1,d,e];exact i
theorem kn(a:Array δ)(p:Nat)(x:δ)(h:p<=a.size):(insertAt a p x).size=a.size+1:=by unfold insertAt;simp only[ZE,Array.size_push,Array.size_extract];omega
theorem vK(b:Array Nat)(j:Nat):below b j<=b.size:=by
 unfold below;have:∀(a lo d:Nat),lo<=d->d<=b.size->acH b j a lo d<=b.size:=by intro a;induction a with|zero=>intro lo d g f;unfold acH;omega|succ a e=>
  intro lo d g f;unfold acH;split
  · rename_i h;dsimp only;split;·exact e _ _ (by omega) f
    ·exact e _ _ (by omega) (by omega)
  ·omega
 exact this _ _ _ (UQ _) (on _)
theorem Mr{t:SetTable}(T:Tb t b)(h:b+1<=t.mask)(j:Nat):Tb (t.put j).1 (b+1)/\(t.put j).2<=b/\(t.put j).1.mask=t.mask/\(t.put j).1.led=t.led/\(t.put j).1.moves=t.moves:=by
 unfold SetTable.put;refine⟨⟨?_,?_,T.cyc,h⟩,?_,rfl,rfl,rfl⟩;·show(insertAt t.place (below t.place j) j).size=b+1;rw[kn _ _ _ (vK _ _),T.size]
 ·show(if has t.dummies j then eraseAt t.dummies (below t.dummies j)else t.dummies)=#[];rw[T.dm,zi];rfl
 ·show below t.place j<=b;rw[<-T.size];exact vK _ _
abbrev TK(b:n_)(w:xy)(h:N_)(k:List Str)(a:O):Prop:=IsTupleKey (strKind b w) h k a
abbrev Ħ(a:n_)(w:xy)(k:List Str):Int:=tupleKeyHash (strKind a w) k
theorem rY(h:ItemsAre (strKind r q) y μ):∀v∈μ,∃x t,v=.str x t:=by induction h with|nil=>intro v a;simp at a|@cons g e f μ d _ b=>
 intro v a;rcases uk.mp a with rfl|a;·obtain⟨t,rfl⟩:=aaX d;exact⟨_,_,rfl⟩
 ·exact b v a
theorem zn{Q:Bool->ge->Prop}(j:TK r q f.heap y e)(h:Q D f):v_ (E_ r q) I (ofAClassStatement 8 (.ref e)) Q τ f:=by
 have hT:=j.typeIs;obtain⟨o,items,n,k,_,p,m⟩:=j;unfold ofAClassStatement;refine e_ (Yc hT ?_);show v_ _ _ ((if("tuple"=="tuple")=L then pure L else isSubtype (.type "tuple") (.type "tuple"))>>=_) _ _ f;rw[if_pos (by decide)];refine e_ (j_ ?_);simp only[XV,x_,if_false];refine e_ (Wc k p ?_);refine e_ ?_;show v_ _ _ (acG items _ _) _ _ f;rw[<-X4];refine Xz _ (λrest a d=>a.1=U/\d=f/\∀v∈rest,∃x t,v=V6 x t) _ ?_ ?_ _ _ ⟨rfl,rfl,rY m⟩;·rintro v rest a d⟨g,rfl,b⟩;obtain⟨x,t,rfl⟩:=b v pi;refine e_ (j_ ?_);simp only[x_,if_false];exact j_ ⟨rfl,rfl,λu i=>b u (rl _ i)⟩
 ·rintro⟨w,s⟩d⟨g,rfl,_⟩;simp only at g;subst g;exact j_ h
theorem Ms(n:TK r q f.heap y e){l:List B}(p:∀v∈l,∃i a,v=.ref a/\TK r q f.heap i a){Q:Bool->ge->Prop}(h:Q D f):v_ (E_ r q) I (searchCouldBeSeen (.ref e) l) Q τ f:=by
 unfold searchCouldBeSeen;refine e_ ?_;refine Xz _ (λrest b j=>b.1=U/\j=f/\∀v∈rest,∃i a,v=B_ a/\TK r q f.heap i a) _ ?_ ?_ _ _ ⟨rfl,rfl,p⟩
 · rintro v rest b j⟨k,rfl,g⟩;obtain⟨i,a,rfl,o⟩:=g v pi;have d:∀v∈rest,∃i a,v=B_ a/\TK r q j.heap i a:=λu m=>g u (rl _ m);dsimp only;split;·exact j_ ⟨rfl,rfl,d⟩
   ·refine e_ (aaw n ?_);simp only[XV,x_,if_false];refine e_ (aaw o ?_);simp only[XV,x_,if_false];refine e_ (zn n ?_);simp only[x_,if_false];refine e_ (zn o ?_);simp only[x_,if_false];exact j_ ⟨rfl,rfl,d⟩
 ·rintro⟨w,s⟩j⟨k,rfl,_⟩;simp only at k;subst k;exact j_ h
def Ŵ(b:n_)(w:xy)(h:N_)(d:List (List Str))(f:List (Int×B)):Prop:=∀e∈f,∃k a,k∈d/\e.2=.ref a/\TK b w h k a
theorem pR{t:SetTable}(T:Tb t b):t.fits b=L:=by unfold SetTable.fits acC;rw[T.size,T.dm];simp[T.room]
theorem zo{o:Obj}{u:Array (Int×B)}{t:SetTable}{ks:List (List Str)}{Q:SetFound->ge->Prop}(hu:I.units<cLine)(ho:f.heap.get? e=Z o)(hd:o.data=.set u b t)(T:Tb t u.size)(hm:t.mask%2=1)(hE:Ŵ r q f.heap ks u.toList)(hx:TK r q f.heap y A)(hk:y∉ks):∀(N k:Nat)(st:Option Probe),(∀p,st=Z p->Vp t p)->N<k->t.slot (advN t N (st.getD (t.probeStart n))).j=.empty->(∀m,m<N->t.slot (advN t m (st.getD (t.probeStart n))).j≠.empty)->N<10*ŷ t.mask->(∀j,Q (.free j D) f)->v_ (E_ r q) I (ZG e (.ref A) n E k st) Q τ f:=by intro N;induction N using Nat.strongRecOn with|_ N ih=>intro k st hv hf he hn hN hQ;cases k with|zero=>exact absurd hf (XY _)|succ k=>
 have H:=pR T;have v:Vp t (st.getD (t.probeStart n)):=by cases st with|none=>exact zk n|some p=>exact hv p rfl
 unfold ZG;refine e_ (WC ho hd H ?_);dsimp only;have g':t.gaveWay=D:=by unfold SetTable.gaveWay;rw[hm];rfl
 rw[g'];simp only[x_,if_false];unfold SetTable.probe;rcases Ff T _ n N _ (st.getD (t.probeStart n)) v hN he hn with h|⟨m,i,o',q1,q2,q3,q5⟩;·rw[h];dsimp only;exact j_ (hQ _)
 · rw[q5];dsimp only;have hi:i<u.size:=by have:=(VZ.mp q2).1;rw[T.size]at this;exact this
   obtain⟨k',a,f',ea,ta⟩:=hE u[i] (WI.mpr (Array.getElem_mem hi));have hg:u[i]?=Z (u[i].1,.ref a):=by rw[Array.getElem?_eq_getElem hi,<-ea]
   have rest:v_ (E_ r q) I (do
    let Z (_,d):=u[i]?|ab2 "internal:set-entry"
    let s<-XA [d] (eqBool d (.ref A))let(m',_,t')<-setState e if(E&&s)=L then return SetFound.there U
    let Z same:=t'.sameMemory t.moves t.mask|ab2 "set.changed-during-lookup:is-the-new-block-at-the-old-address"
    let a'<-match(if same then t'.slot (advN t m (st.getD (t.probeStart n))).j else .empty)with
     |.live i'=>match m'[i']? with|some (_,y')=>do pure (if<-isSame y' d then Z i' else U)|none=>pure U
     |_=>pure U
    match a' with|none=>rule "set.search.anew";ZG e (.ref A) n E k U|some i'=>if s then return .there (Z i')else ZG e (.ref A) n E k (Z (advN t (m+1) (st.getD (t.probeStart n))))) Q τ f:=by
    rw[hg];dsimp only;refine e_ (Vm (wpAny_eqBool_tuple hu ta hx ?_));have e':s_ (k'=y)=D:=decide_eq_false λz=>hk (z▸f');rw[e'];refine e_ (WC ho hd H ?_);dsimp only;rw[Bool.and_false];simp only[x_,if_false];have d':t.sameMemory t.moves t.mask=Z L:=by unfold SetTable.sameMemory;simp
    rw[d'];dsimp only;rw[if_pos rfl,q1];dsimp only;rw[hg];dsimp only;have b':isSame (B_ a) (B_ a)=pure L:=by unfold isSame;dsimp only;rw[if_pos (by simp)]
    rw[b'];refine e_ (e_ (j_ (j_ ?_)));rw[if_pos rfl];refine ih (N-(m+1)) (by omega) k (Z (advN t (m+1) (st.getD (t.probeStart n)))) (λp hp=>by cases hp;exact Vp.advN (m+1) v) (by omega) ?_ ?_ (by omega) hQ;·show t.slot (advN t (N-(m+1)) (advN t (m+1) (st.getD (t.probeStart n)))).j=.empty;rw[<-kl,show m+1+(N-(m+1))=N by omega];exact he
    ·intro x n';show t.slot (advN t x (advN t (m+1) (st.getD (t.probeStart n)))).j≠.empty;rw[<-kl];exact hn _ (by omega)
   by_cases w:t.led=L;·rw[w];simp only[XV,x_,if_false];exact rest
   · have c':t.led=D:=by simpa using w
     rw[c'];simp only[YA,if_true];refine e_ (Ms hx (λv hv=>?_) ?_)
     · obtain⟨g,l',rfl⟩:=Ux.mp hv;have h':g∈u.toList:=by have:=WI.mp l';rw[Array.mem_filter]at this;exact WI.mpr this.1
       obtain⟨k2,a2,_,e2,t2⟩:=hE g h';exact⟨k2,a2,e2,t2⟩
     ·simp only[x_,if_false];exact rest
abbrev Ŀ(w:xy):Bool:=w.params.followText "set-order"
def Mk(m n:Nat):Prop:=(m=7/\n<=4)\/(m=31/\n<=18)\/(m=127/\n<=20)
def ē(a:n_)(w:xy)(h:N_)(S:O)(d:List (List Str))(e:List B)(n:Nat):Prop:=∃o b f t,h.get? S=Z o/\o.ExactSet/\o.data=.set b f t/\b.size=n/\Tb t n/\Mk t.mask n/\Ŵ a w h d b.toList/\(b.toList.map (·.2)).Perm e/\t.led=(!Ŀ w)/\((∀k∈d,k≠[])->n≠0->t.plain=D)
theorem uw{Q:Bool->ge->Prop}(m:TK r q f.heap y e)(h:∀b,(y≠[]->b=D)->Q b f):v_ (E_ r q) I (hashByValue 8 (.ref e)) Q τ f:=by
 have hT:=m.typeIs;obtain⟨o,items,n,p,_,s,k⟩:=m;have w:items.toList=[]->y=[]:=λd=>by rw[d]at k;cases k;rfl
 unfold hashByValue;refine e_ (wpAny_specialOf hT F.slot_tuple_hash.lookup ?_);dsimp only;refine e_ (Wc p s ?_);refine e_ ?_;show v_ _ _ (acG items _ _) _ _ f;rw[<-X4];refine Xz _ (λrest a i=>a.1=U/\i=f/\(∀v∈rest,∃x t,v=V6 x t)/\(rest=[]->y=[])) _ ?_ ?_ _ _ ⟨rfl,rfl,rY k,w⟩;·rintro v rest a i⟨j,rfl,g,_⟩;obtain⟨x,t,rfl⟩:=g v pi;refine e_ (j_ ?_);simp only[YA,if_true];refine j_ ?_;exact j_ (h _ λ_=>rfl)
 ·rintro⟨E,A⟩i⟨j,rfl,_,u⟩;simp only at j;subst j;exact j_ (h _ λz=>absurd (u rfl) z)
theorem TK.keeps{g:N_}{o:Obj}{p s t}(x:TK r q N y e)(i:N.get? A=Z o)(k:o.data=.set p s t)(h:Wm A N g):TK r q g y e:=by
 obtain⟨f,items,n,b,m,a,j⟩:=x;have d:e≠A:=by rintro rfl;obtain rfl:f=o:=UL (b.symm.trans i);rw[k]at a;exact nomatch a
 exact⟨f,items,n,(h.2 e d).trans b,m,a,j⟩
theorem Ŵ.keeps{f:N_}{d:List (List Str)}{l:List (Int×B)}{o:Obj}{s u t}(x:Ŵ r q N d l)(h:N.get? e=Z o)(j:o.data=.set s u t)(g:Wm e N f):Ŵ r q f d l:=λb i=>by obtain⟨k,a,p,n,m⟩:=x b i;exact⟨k,a,p,n,m.keeps h j g⟩
theorem rZ{o:Obj}{h a:Array (Int×B)}{t d:SetTable}(g:N.get? e=Z o)(f:o.data=.set h b t):(N.update e (WN a d)).get? e=Z {o with data:=.set a (b+1) d}:=by have:=V3 (WN a d) g (by rw[ZP a d f];rfl);rw[ZP a d f]at this;exact this
theorem Ŵ.insert{i:List (List Str)}{h:Array (Int×B)}(o:Ŵ r q N i h.toList)(m:TK r q N y e):Ŵ r q N (y::i) (UC h b (n,.ref e)).toList:=λf k=>by
 have g:=(aab h b (n,B_ e)).mem_iff.mp k;rw[ZD]at g;rcases R_.mp g with d|d;·obtain⟨j,a,u,s,p⟩:=o f d;exact⟨j,a,rl _ u,s,p⟩
 ·rw[Uy]at d;subst d;exact⟨y,e,pi,rfl,m⟩
theorem zp{t:SetTable}(T:Tb t b):t.fill=b:=by unfold acC;rw[T.size,T.dm];simp
theorem oJ(h:b<=20):b<=sizeLine:=by rw[X6];omega
theorem CM(a:Array δ):(t_ a.size).filterMap (λi=>a[i]?)=a.toList:=by
 apply abH;intro i;have:(t_ a.size).filterMap (λi=>a[i]?)=(t_ a.size).pmap (λi h=>a[i]) (λi h=>UZ.mp h):=by
  rw[List.pmap_eq_map_attach,<-List.filterMap_eq_map];conv=>lhs;rw[<-List.attach_map_subtype_val (t_ a.size)]
  rw[Zu];congr 1;funext⟨i,b⟩;simp[UZ.mp b]
 rw[this];simp[List.getElem?_pmap,Y3];by_cases b:i<a.size;·simp[b]
 ·simp[b]
theorem HE{d:Array Int}{t:SetTable}{a:Array Nat}(e:laid b k υ E Ã d=Z (t,a)):t.led=E/\t.plain=Ã:=by unfold laid at e;cases f:act b d with|none=>rw[f]at e;cases e|some o=>rw[f]at e;cases e;exact⟨rfl,rfl⟩
theorem Mt{ks:List (List Str)}{Q:Bool->ge->Prop}(hu:I.units<cLine)(hS:ē r q f.heap e ks μ b)(hx:TK r q f.heap y A)(hk:y∉ks)(hn:b+1<=20)(h:∀h',Wm e f.heap h'->ē r q h' e (y::ks) (.ref A::μ) (b+1)->Q L {f with heap:=h'}):v_ (E_ r q) I (Z4 e (.ref A) (Ħ r q y)) Q τ f:=by
 obtain⟨o,n,ep,t,ho,hex,hd,u,T,hm,hE,n',c',r'⟩:=hS;have l':=pR T;have w:t.fits n.size=L:=by rw[u];exact l'
 have k':t.mask%2=1:=by rcases hm with⟨a,_⟩|⟨a,_⟩|⟨a,_⟩<;>rw[a]
 have g':b+1<=t.mask:=by rcases hm with⟨a,d⟩|⟨a,d⟩|⟨a,d⟩<;>omega
 unfold Z4 aaE;refine Vm (e_ (WC ho hd w ?_));dsimp only;have p':byScan (B_ A) n=D:=by unfold byScan;rfl
 rw[p'];simp only[x_,if_false];unfold setSearch;obtain⟨N,h1,h2,h3⟩:=Mq T (zk (t:=t) (Ħ r q y));have s':t.mask<=127:=by rcases hm with⟨a,_⟩|⟨a,_⟩|⟨a,_⟩<;>omega
 refine e_ (zo (ks:=ks) hu ho hd (by rw[u];exact T) k' hE hx hk N 100000 U (λp hp=>by cases hp) (by unfold ŷ at h1;omega) h2 h3 h1 λj=>?_);dsimp only;refine e_ (WC ho hd w ?_);dsimp only;obtain⟨P1,P2,P3,P4,P5⟩:=Mr T g' j;have b':((UC n (t.put j).2 (Ħ r q y,B_ A)).toList.map (·.2)).Perm (.ref A::μ):=by refine((aab n (t.put j).2 (Ħ r q y,B_ A)).map (·.2)).trans ?_;rw[ZD,Vx];exact(n'.append_right _).trans (Xw _ _)
 have go:∀H:Bool,((∀x∈y::ks,x≠[])->(if H then(t.put j).1 else{(t.put j).1 with plain:=D}).plain=D)->v_ (E_ r q) I (do
  ach e (UC n (t.put j).2 (Ħ r q y,.ref A)) (if H then(t.put j).1 else{(t.put j).1 with plain:=D})if(!D&&(if H then(t.put j).1 else{(t.put j).1 with plain:=D}).tooFull)=L then setRelay e (VY (n.size+1))
  return L) Q τ f:=by
  intro H f';have T2:∃g,(if H then(t.put j).1 else{(t.put j).1 with plain:=D})=g/\Tb g (b+1)/\g.mask=t.mask/\g.led=t.led:=by cases H with|true=>exact⟨_,rfl,P1,P3,rfl⟩|false=>exact⟨_,rfl,⟨P1.size,P1.dm,P1.cyc,P1.room⟩,P3,rfl⟩
  obtain⟨g,e2,T2,M2,L2⟩:=T2;rw[e2]at f'⊢;have k:(UC n (t.put j).2 (Ħ r q y,B_ A)).size=b+1:=by rw[kn _ _ _ (by rw[u];exact P2),u]
  refine e_ (Yd ho hd ?_ (by rw[k];exact oJ hn));have d':=VF f.heap e (WN (UC n (t.put j).2 (Ħ r q y,B_ A)) g);have hg:=rZ (a:=UC n (t.put j).2 (Ħ r q y,B_ A)) (d:=g) ho hd;have i':Ŵ r q (f.heap.update e (WN (UC n (t.put j).2 (Ħ r q y,B_ A)) g)) (y::ks) (UC n (t.put j).2 (Ħ r q y,B_ A)).toList:=(hE.insert hx).keeps ho hd d';by_cases hf:g.tooFull=L
  · rw[hf];simp only[YA,Bool.and_self,if_true];have E:g.fill*5>=g.mask*3:=by unfold abQ at hf;simpa using hf
    rw[zp T2,M2]at E;have h5:b=4\/b=18:=by rcases hm with⟨a,d⟩|⟨a,d⟩|⟨a,d⟩<;>rw[a]at E<;>omega
    obtain⟨M,hM,cM,lM,kM⟩:∃M,sizeAbove (VY (b+1))-1=M/\xT M=L/\b+1<=M/\Mk M (b+1):=by
     rcases h5 with rfl|rfl;·exact⟨31,by decide,QH,by decide,.inr (.inl ⟨rfl,by decide⟩)⟩
     ·exact⟨127,by decide,Mm,by decide,.inr (.inr ⟨rfl,by decide⟩)⟩
    unfold setRelay;refine e_ (e_ (WC hg rfl (by rw[k];exact pR T2) ?_));dsimp only;rw[u];rw[if_neg (by rw[X6];rcases h5 with a|a<;>rw[a]<;>decide)];have m':g.relaid ((UC n (t.put j).2 (Ħ r q y,B_ A)).map (·.1)) (VY (b+1))=laid M g.finger (g.movedTo M) g.led g.plain ((UC n (t.put j).2 (Ħ r q y,B_ A)).map (·.1)):=by unfold SetTable.relaid;rw[hM]
    obtain⟨t3,m,r1,r2,r3,r4,r5,r6,r7⟩:=HC (k:=g.finger) (υ:=g.movedTo M) (E:=g.led) (Ã:=g.plain) cM ((UC n (t.put j).2 (Ħ r q y,B_ A)).map (·.1)) (by rw[YB,k];omega);have r8:t3.led=g.led/\t3.plain=g.plain:=HE r1;rw[m',r1];rw[YB,k]at r6 r7;have s:(m.filterMap (λi=>(UC n (t.put j).2 (Ħ r q y,B_ A))[i]?)).toList.Perm (UC n (t.put j).2 (Ħ r q y,B_ A)).toList:=by rw[Array.toList_filterMap];refine(r7.filterMap _).trans ?_;rw[<-k,CM]
    have v:(m.filterMap (λi=>(UC n (t.put j).2 (Ħ r q y,B_ A))[i]?)).size=b+1:=by rw[<-Ve,s.length_eq,Ve,k]
    show v_ (E_ r q) I ((if((m.filterMap (λi=>(UC n (t.put j).2 (Ħ r q y,B_ A))[i]?)).size !=(UC n (t.put j).2 (Ħ r q y,B_ A)).size)=L then(ab2 "internal:set-table-lost-an-element":Sem _)else pure (m.filterMap (λi=>(UC n (t.put j).2 (Ħ r q y,B_ A))[i]?),t3))>>=λx=>ach e x.1 x.2) _ _ _;rw[if_neg (by rw[v,k];simp)];refine e_ (j_ ?_);refine Yd hg rfl ?_ (by rw[v];exact oJ hn);have a':=VF (f.heap.update e (WN (UC n (t.put j).2 (Ħ r q y,B_ A)) g)) e (WN (m.filterMap (λi=>(UC n (t.put j).2 (Ħ r q y,B_ A))[i]?)) t3);refine j_ (h _ (d'.trans a') ⟨_,_,_,t3,rZ hg rfl,hex,rfl,v,r6,by rw[r2];exact kM,?_,(s.map (·.2)).trans b',r8.1.trans (L2.trans c'),λz _=>r8.2.trans (f' z)⟩);have q':=i'.keeps hg rfl a';exactλa he=>q' a (s.mem_iff.mp he)
  · have e':g.tooFull=D:=by simpa using hf
    rw[e'];simp only[YA,Bool.and_false,x_,if_false];have E:¬(g.fill*5>=g.mask*3):=by unfold abQ at e';simpa using e'
    rw[zp T2,M2]at E;refine j_ (h _ d' ⟨_,_,_,g,hg,hex,rfl,k,T2,?_,i',b',L2.trans c',λz _=>f' z⟩);rw[M2];rcases hm with⟨a,d⟩|⟨a,d⟩|⟨a,d⟩;·exact .inl ⟨a,by omega⟩
    ·exact .inr (.inl ⟨a,by omega⟩)
    ·exact .inr (.inr ⟨a,hn⟩)
 cases o':(t.put j).1.plain with|true=>simp only[if_true];refine e_ (uw hx λH hb=>?_);refine go H λz=>?_;rw[hb (z y pi)];rfl|false=>simp only[x_,if_false];refine e_ (j_ ?_);exact go L λ_=>o'
theorem TK.moved{d:N_}(x:TK r q N y e)(g:∀o,N.get? e=Z o->d.get? e=Z o):TK r q d y e:=by obtain⟨f,items,n,a,i,b,h⟩:=x;exact⟨f,items,n,g _ a,i,b,h⟩
theorem ē.moved{g:N_}{f:List (List Str)}(x:ē r q N e f μ b)(v:∀o,N.get? e=Z o->g.get? e=Z o)(p:∀k∈f,∀a,TK r q N k a->TK r q g k a):ē r q g e f μ b:=by obtain⟨o,A,E,t,n,hex,u,h,T,i,w,m⟩:=x;exact⟨o,A,E,t,v _ n,hex,u,h,T,i,λd s=>let⟨k,a,j,z,y⟩:=w d s;⟨k,a,j,z,p k j a y⟩,m⟩
theorem QJ{R:abh->ge->Prop}{E:List O}{G:Array aaK->Array aaK->Prop}{P:Nat->B->Prop}{St:Nat->ge->Prop}(W:WalksS r q I.in1 e ο E G b P St)(S:O)(e':S∉ο)(hu:I.in1.units<cLine)(q':E=[e])(hI:∀i s,St i s->∃o vs,s.heap.get? e=Z o/\o.data=.fields vs)(m:Nat->O)(g:Nat->List Str)(g':∀i v,P i v->v=.ref (m i))(hn:b<=20)(a':∀i j,i<b->j<b->g i=g j->i=j):∀(k i:Nat)(s:ge),b-i=k->i<=b->St i s->(∀j,j<b->TK r q s.heap (g j) (m j))->ē r q s.heap S (((t_ i).map g).reverse) (((t_ i).map λj=>B_ (m j)).reverse) i->(∀u,Moved (S::E) G s u->ē r q u.heap S (((t_ b).map g).reverse) (((t_ b).map λj=>B_ (m j)).reverse) b->R (.ok (.ret .none)) u)->Xp (E_ r q) I (.builtin "set.update.loop" ⟨[.ref S,.ref e],[]⟩) R s:=by
 have d':S∉E:=λh=>e' (W.sub _ h);have A:∀d∈E,d∈S::E:=λd hb=>rl _ hb;have z:∀{i:Nat}{s:ge}{k:List Str}{a:O},St i s->TK r q s.heap k a->a∉E:=λ{i s k a}n x p=>by rw[q',Uy]at p;subst p;obtain⟨o',items,b,b',hc,c',hi⟩:=x;obtain⟨o,vs,w,hd⟩:=hI _ _ n;rw[w]at b';cases b';rw[hd]at c';cases c'
 intro k;induction k with|zero=>
 intro i s hk hi n hT hS hR;have t':i=b:=by omega
 subst t';refine Xg WX ?_;rw[WE VT _];show v_ _ I.in1 (Yg (.ref e)>>=_) _ _ s;refine e_ (W.done s _ _ n λu p=>?_);show v_ _ I.in1 (ret J_) _ _ u;exact j_ (hR u (p.mono A) (hS.moved (λo w=>p.heap S _ d' w) λk' _ a x=>x.moved λo w=>p.heap a _ (z n x) w))|succ k ih=>
 intro i s hk hi n hT hS hR;have y:i<b:=by omega
 refine Xg WX ?_;rw[WE VT _];show v_ _ I.in1 (Yg (.ref e)>>=_) _ _ s;refine e_ (W.item i s _ _ y n λv u hP i' p=>?_);have hv:=g' i v hP;subst hv;have N:∀j,j<b->TK r q u.heap (g j) (m j):=λj hj=>(hT j hj).moved λo w=>p.heap _ _ (z n (hT j hj)) w;have f':ē r q u.heap S (((t_ i).map g).reverse) (((t_ i).map λj=>B_ (m j)).reverse) i:=hS.moved (λo w=>p.heap S _ d' w) λk' _ a x=>x.moved λo w=>p.heap a _ (z n x) w;show v_ _ I.in1 (XA [B_ (m i)] (setAdd S (.ref (m i)))>>=_) _ _ u;refine e_ (Vm ?_);unfold setAdd;refine Vm ?_;refine e_ (wpAny_pyHash_tuple hu (N i y) ?_);have l':g i∉((t_ i).map g).reverse:=λp=>by rw[List.mem_reverse]at p;obtain⟨j,hj,f⟩:=Ux.mp p;have x':=UZ.mp hj;have:=a' j i (by omega) y f;omega
 refine Mt (f:={u with toks:=u.toks+((g i).length+1)}) hu f' (N i y) l' (by omega) λh' H w'=>?_;obtain⟨oS,y',z',tS,r',_,u',_⟩:=f';have v':ē r q h' S (((t_ (i+1)).map g).reverse) (((t_ (i+1)).map λj=>B_ (m j)).reverse) (i+1):=by rw[aar,Vx,aa2,Vx,aa2];exact w'
 refine j_ ⟨aa9 VT _,ih (i+1) _ (by omega) y (W.frame _ u _ _ i' (by simp) λd hb o f=>?_) (λj hj=>(N j hj).keeps r' u' H) v' λp' m' n'=>?_⟩;·rw[H.2 d (λh:d=S=>e' (by rw[<-h];exact hb))];exact f
 ·refine hR p' (Moved.trans W.gtrans ((p.mono A).then_heap (by simp) λd o hb f=>?_) m') n';rw[H.2 d (λh:d=S=>hb (by rw[h];exact pi))];exact f
abbrev vL(a:Bool):Obj:={cls:=.type "set",dict:=U,data:=.set #[] 0 (.fresh 0 0 a)}
theorem HF(a:N.get? e=Z (vL (!Ŀ q))):ē r q N e [] [] 0:=⟨_,#[],0,_,a,⟨rfl,rfl,rfl⟩,rfl,rfl,⟨rfl,rfl,TC,UQ _⟩,.inl ⟨rfl,by omega⟩,(λa b=>by simp at b),.refl _,rfl,λ_ z=>absurd rfl z⟩
theorem HG(a:B){b:B->ge->Prop}(h:b (.ref f.heap.objs.size) {f with heap:=f.heap.push (vL (!Ŀ q))}):Xp (E_ r q) I (.call (.builtin "set.__new__") ⟨[.type "set",a],[]⟩) (wants b τ) f:=by refine codeAny_of_tree ?_;show v_ _ I.in1 (do checkBuiltinCall "set.__new__" ⟨[.type "set",a],[]⟩;again (.builtin "set.__new__" ⟨[.type "set",a],[]⟩)) _ _ f;refine e_ (ab0 (F.newCall_set_1 a) (j_ ⟨aa9 F.plain_set_new _,Xg F.entry_set_new ?_⟩));rw[WE F.plain_set_new _];unfold WR.«set.__new__»acw;have e:=sub_set_self;obtain⟨j,g,d,i,os⟩:=f;dsimp only;wp_walk;refine wpAny_askSetting (j_ ?_);dsimp only;simp only[newObj];exact e_ (wpAny_alloc (j_ (j_ h)))
theorem Mu{g:Array B}{h:Nat->List Str}{m:Nat->O}{R:abh->ge->Prop}(hh:I.handled=U)(hu:I.units+8<cLine)(hl:f.heap.IsList e g)(hk:∀i,i<g.size->g[i]?=Z (.ref (m i))/\TK r q f.heap (h i) (m i))(hn:g.size<=20)(s:∀i j,i<g.size->j<g.size->h i=h j->i=j)(hR:∀(u:N_)(tk:Nat),ē r q u f.heap.objs.size (((t_ g.size).map h).reverse) (((t_ g.size).map λj=>B_ (m j)).reverse) g.size->(∀b o,b<f.heap.objs.size->f.heap.get? b=Z o->u.get? b=Z o)->R (.ok (.ret .none)) {f with heap:=u,toks:=tk}):Xp (E_ r q) I (.call (.builtin "set.__init__") ⟨[.ref f.heap.objs.size,.ref e],[]⟩) R {f with heap:=f.heap.push (vL (!Ŀ q))}:=by
 have hS:(f.heap.push (vL (!Ŀ q))).get? f.heap.objs.size=Z (vL (!Ŀ q)):=w_ _ rfl;have hT:acB {f with heap:=f.heap.push (vL (!Ŀ q))} (.ref f.heap.objs.size) "set":=⟨_,hS,rfl⟩;refine codeAny_call_builtin W_.init.plain F.entry_set_init (check_set_init_1 hT ?_);obtain⟨ol,w,E,nl,A⟩:=hl;obtain⟨m',p,l',n⟩:=ol;simp only at E A;subst E;subst A;have H:(f.heap.push (vL (!Ŀ q))).get? e=Z {cls:=.type "list",dict:=p,data:=.seq g nl,slots:=n}:=l_ _ w;have s1:=F.sub_list_set;have s2:=F.sub_list_frozenset;have s3:(q_ "list"==q_ "dict")=D:=by decide
 have z:(f.heap.push (vL (!Ŀ q))).IsList e g:=⟨_,H,rfl,nl,rfl⟩;unfold WR.«set.__init__»noKeywords aca;generalize k':pyIter=PI;wp_walk;subst k';refine Ye z (e_ (wpAny_runValue ?_));have y:e<f.heap.objs.size:=z_ w;have N:e≠(f.heap.push (vL (!Ŀ q))).objs.size:=by rw[U7];exact UI (ZA y)
 have f':f.heap.objs.size∉[(f.heap.push (vL (!Ŀ q))).objs.size,e]:=by rw[U7];simp only[uk,O_,or_false,not_or];exact⟨UI (ZY _),XG y⟩
 have up:∀{k:List Str}{a:O},TK r q f.heap k a->TK r q ((f.heap.push (vL (!Ŀ q))).push {cls:=.type "list_iterator",data:=.fields #[.ref e,.int 0 0]}) k a:=λx=>x.moved λo d=>l_ _ (l_ _ d);refine QJ ((acq (by simp[hh]) _ e N g).toS) f.heap.objs.size f' (by show I.units+1+1<cLine;omega) rfl (λi s' st=>by obtain⟨⟨o,ho,_,hd⟩,_⟩:=st;exact⟨o,_,ho,hd⟩) m h (λi v hv=>?_) hn s (g.size-0) 0 _ (by omega) (UQ _) ⟨⟨_,w_ _ rfl,rfl,rfl⟩,(z.push _)⟩ (λj hj=>up (hk j hj).2) ?_ ?_;·have hi:i<g.size:=(VZ.mp hv).1;have:=(hk i hi).1;rw[this]at hv;exact(UL hv).symm
 ·exact HF (l_ _ hS)
 · intro s' hm i';obtain⟨u,g',d',a',b'⟩:=s';have eg:g'=f.gens:=hm.gens;have ed:d'=f.drawn:=hm.drawn;have eo:b'=f.os:=hm.os;subst eg;subst ed;subst eo;show v_ _ _ _ _ _ _;refine j_ ?_;show v_ _ _ (ret J_) _ _ _;refine j_ (hR u a' i' λb o hb d=>?_);have e':b≠f.heap.objs.size:=UI hb;have c':b≠(f.heap.push (vL (!Ŀ q))).objs.size:=by rw[U7];exact UI (ZA hb)
   exact hm.heap b o (by simp only[uk,O_,or_false,not_or];exact⟨e',c'⟩) (l_ _ (l_ _ d))
theorem call_set_T{g:Array B}{m:Nat->List Str}{p:Nat->O}(hh:I.handled=U)(hu:I.units+16<cLine)(hl:f.heap.IsList e g)(hk:∀i,i<g.size->g[i]?=Z (.ref (p i))/\TK r q f.heap (m i) (p i))(hn:g.size<=20)(v:∀i j,i<g.size->j<g.size->m i=m j->i=j)(h:∀(n:N_)(y:Nat),ē r q n f.heap.objs.size (((t_ g.size).map m).reverse) (((t_ g.size).map λj=>B_ (p j)).reverse) g.size->(∀b o,b<f.heap.objs.size->f.heap.get? b=Z o->n.get? b=Z o)->Ç (.ref f.heap.objs.size) {f with heap:=n,toks:=y}):v_ (E_ r q) I (call (.type "set") [.ref e]) Ç τ f:=by
 obtain⟨c,tl,c'⟩:=W_.mro;have a':=W_.made;have b':=W_.sub;refine abd (codeAny_of_tree ?_);show v_ _ _ (callAny (.type "set") _) _ _ _;refine j_ ⟨Code.quiet_builtin _ (by decide+kernel),Xg F.entry_type_call ?_⟩;rw[Around.under_plain (weight_type_call_type "set" [.ref e] []) rfl];have h1:=W_.notType;have h2:=W_.canCreate;have e':=F.typeCall_set_1 (.ref e);repeat(any_goals(first|assumption|wp_step))
 refine XB (HG (.ref e) (τ:=τ) (b:=λz u=>z=.ref f.heap.objs.size/\u={f with heap:=f.heap.push (vL (!Ŀ q))}) ⟨rfl,rfl⟩) λa u E=>?_;cases a with|error d=>exact E|ok fl=>cases fl with
 |ret z=>
  obtain⟨rfl,rfl⟩:=E;have hT:acB {f with heap:=f.heap.push (vL (!Ŀ q))} (.ref f.heap.objs.size) "set":=⟨_,w_ _ rfl,rfl⟩;have d':=W_.init.lookup;have f':=W_.init.bind (.ref f.heap.objs.size);repeat(any_goals(first|assumption|wp_step))
  refine XB (Mu (R:=wants (λa s=>a=.none/\∃n y,s={f with heap:=n,toks:=y}/\ē r q n f.heap.objs.size (((t_ g.size).map m).reverse) (((t_ g.size).map λj=>B_ (p j)).reverse) g.size/\(∀b o,b<f.heap.objs.size->f.heap.get? b=Z o->n.get? b=Z o)) τ) (by simp[hh]) (by show I.units+1+8<cLine;omega) hl hk hn v λn y q1 q2=>⟨rfl,n,y,rfl,q1,q2⟩) λA s k=>?_;cases A with|error d=>exact k|ok w=>cases w with
  |ret a=>
  obtain⟨rfl,n,y,rfl,N,H⟩:=k;repeat(any_goals(first|assumption|wp_step))
  exact h _ _ N H|_=>exact k.elim
 |_=>exact E.elim
theorem len_T{g:List (List Str)}(k:ē r q f.heap e g μ b)(p:b<=20)(h:∀t d,Ç (.int b t) {f with toks:=d}):v_ (E_ r q) I (call (.builtin "len") [.ref e]) Ç τ f:=by obtain⟨o,m,v,t,i,hex,j,a,T,s,u,n⟩:=k;subst a;exact call_len_set i hex j (pR T) (Int.lt_of_le_of_lt (show((m.size:Nat):Int)<=20 by omega) (by decide)) (h _ _)
end ST
variable{υ:Nat}
namespace FD
open L2
noncomputable def df:List Q->Option (List Str)|[]=>Z []|.str x::r=>(df r).map (x::·)|_=>U
def mO:List Q->Option (List (List Str))
 |[]=>Z []|.tup b::r=>match df b,mO r with|some k,Z a=>Z (k::a)|_,_=>U
 |_=>U
def mP:Ö
 |[.lst b]=>match mO b with|some a=>if a.Nodup/\a.length<=20 then Z (.ok (.int a.length))else U|none=>U
 |_=>U
theorem oK{X:C}{H:Hp}{e:n_}{w:xy}:∀{d:List Q}{k:List Str}{b:List V}{a:List B},df d=Z k->S X.K H d b->Ï b a->acv (U6 e w) k a
 |[],k,b,a,h,r,v=>by cases h;cases(show b=[]from r);cases v;exact .nil|.str x::d,k,b,a,h,r,v=>by obtain⟨y,f,rfl,j,i⟩:∃v f,b=v::f/\Ô X.K H (.str x) v/\S X.K H d f:=r;cases(show y=.str x from j);obtain⟨n,m,rfl⟩:=Wn.mp (show(df d).map (x::·)=Z k from h);cases v with|cons g v2=>obtain⟨t,rfl⟩:=g;exact .cons (by show WM x (.str x t)=L;simp[WM]) (oK m i v2)
 |.non::d,k,b,a,h,r,v=>by cases h|.bl _::d,k,b,a,h,r,v=>by cases h|.int _::d,k,b,a,h,r,v=>by cases h|.tup _::d,k,b,a,h,r,v=>by cases h|.lst _::d,k,b,a,h,r,v=>by cases h|.scr _::d,k,b,a,h,r,v=>by cases h|.exn _::d,k,b,a,h,r,v=>by cases h|.obj _ _::d,k,b,a,h,r,v=>by cases h
theorem QK(I:Í a ζ Λ g f){j:List Q}{k:List Str}{v:V}{u:B}(h:df j=Z k)(r:Ô a.K g (.tup j) v)(q:Ú v u):∃b,u=.ref b/\ST.TK a.prog a.w f.heap k b:=by obtain⟨b,w,rfl,s,p⟩:=r.tupE;cases(show u=B_ b from q);obtain⟨i,m,⟨o,e,c,n,d⟩,y⟩:=I.tuple (ô.of s);exact⟨b,rfl,o,i.toArray,_,e,c,d,by simpa using oK h p m⟩
theorem zq{X:C}{E:List (O×Obj)}{m:L2.St}{H:Hp}{s:ge}(I:Í X E m H s):∀{f:List Q}{e:List (List Str)}{d:List V}{b:List B},mO f=Z e->S X.K H f d->Ï d b->e.length=b.length/\∀i,i<b.length->∃a,b[i]?=Z (.ref a)/\ST.TK X.prog X.w s.heap (e.getD i []) a
 |[],e,d,b,h,r,v=>by cases h;cases(show d=[]from r);cases v;exact⟨rfl,λi j=>absurd j (XY _)⟩|.tup N::f,e,d,b,h,r,v=>by
  obtain⟨y,g,rfl,q,p⟩:∃v g,d=v::g/\Ô X.K H (.tup N) v/\S X.K H f g:=r;unfold mO at h;split at h;·rename_i k b' A z;cases h;cases v with|cons n v2=>obtain⟨a,rfl,o⟩:=QK I A q n;obtain⟨w,u⟩:=zq I z p v2;refine⟨by simp[w],λi j=>?_⟩;cases i with|zero=>exact⟨a,rfl,o⟩|succ i=>obtain⟨a',e1,e2⟩:=u i (by simpa using j);exact⟨a',by simpa using e1,by simpa using e2⟩
  ·cases h|.non::f,e,d,b,h,r,v=>by cases h|.bl _::f,e,d,b,h,r,v=>by cases h|.int _::f,e,d,b,h,r,v=>by cases h|.str _::f,e,d,b,h,r,v=>by cases h|.lst _::f,e,d,b,h,r,v=>by cases h|.scr _::f,e,d,b,h,r,v=>by cases h|.exn _::f,e,d,b,h,r,v=>by cases h|.obj _ _::f,e,d,b,h,r,v=>by cases h
theorem w9{a:List δ}(h:a.Nodup){i j:Nat}(d:i<a.length)(b:j<a.length)(e:a.getD i Ë=a.getD j Ë):i=j:=by rw[Xx,Xx,I_ d,I_ b]at e;exact(abY h).mp (by simpa using e)
theorem zr{f:Pos}(hu:a.A.units+64<cLine)(hc:a.calm=L)(hg:Gl a "len")(hm:a.mg "len"=U)(g':Gl a "set")(c':a.mg "set"=U)(ha:FA a [h] ν)(he:k_ [.Call (.Name "set" u) [h] [] f] a.env=(D,eval (.Call (.Name "set" u) [h] [] f) a.env)::k_ [] a.env:=by lk)(b':(UH Ρ (k_ [] a.env)).any (·.1)=D:=by lk)(i':k_ [h] a.env=(D,eval h a.env)::k_ [] a.env:=by lk)(N:(UH f (k_ [] a.env)).any (·.1)=D:=by lk):FE a (.Call (.Name "len" m) [.Call (.Name "set" u) [h] [] f] [] Ρ) (â mP ν):=⟨λf' s σ H Q I⟨ρ,E,o⟩=>by
 refine V5 (jL I hg hm acl ?_ (by decide) (by decide));refine YG ?_ he b';rw[he];show v_ _ _ (spliced ((D,eval (.Call (.Name "set" u) [h] [] f) a.env)::UH Ρ (k_ [] a.env))) _ _ s;refine Xa ?_;refine V5 (jL I g' c' (Β:=.type "set") (by decide+kernel) ?_ (by decide) (by decide));refine Vz (å (ha.h f f' s σ H _ I ⟨ρ,E,ê.bind o λA vs y e1 rs k=>(show∃A,S a.K y A vs/\ì a y (mP A) Q from⟨A,rs,k⟩)⟩) λus s1⟨vs,y,I1,r1,A,rs,k⟩=>?_) i' N;unfold mP at k;split at k
 · rename_i es;obtain⟨v,rfl,r⟩:=fG rs;obtain⟨l,xs,rfl,hl,rx⟩:=r.lstE;obtain⟨d,rfl,ru⟩:=iE r1;cases(show d=B_ l from ru);split at k
   · rename_i ks d';split at k
     · rename_i w;obtain⟨z,p,n,rv,hz,eh⟩:=I1.lstM hl;obtain⟨q1,q2⟩:=zq I1 d' rx rv;have g:p.toArray.size=ks.length:=by simp[q1]
       refine ST.call_set_T (g:=p.toArray) (m:=λi=>ks.getD i []) (p:=λi=>match p[i]? with|some (.ref e)=>e|_=>0) (I1.ok.hd hc) (by omega) ⟨_,eh,rfl,n,rfl⟩ (λi hi=>?_) (by rw[g];exact w.2) (λi j hi hj k'=>?_) λh' tk hS e'=>?_;·obtain⟨e,e1,e2⟩:=q2 i (by simpa using hi);simp only[List.getElem?_toArray,e1];exact⟨trivial,e2⟩
       ·exact w9 w.1 (by rw[<-g];exact hi) (by rw[<-g];exact hj) k'
       ·refine Yo ?_;refine ST.len_T hS (by rw[g];exact w.2) λt a'=>⟨.int (ks.length:Nat),y,?_,⟨t,by rw[g]⟩,k _ y (.refl y) rfl⟩;exact I1.kept (t':=a') λb d q=>e' b d (z_ q) q
     ·exact k.elim
   ·exact k.elim
 ·exact k.elim⟩
def QL:Q->Q->Option (Rs Q)|.lst a,.int n=>if 0<=n/\a.length*n.toNat<=100000/\n<=100000 then Z (.ok (.lst (u_ n.toNat a).flatten))else U|x,y=>Sx x y
theorem vM{K:d_}{H:Hp}{b:List Q}{a:List V}(h:S K H b a):∀n:Nat,S K H (u_ n b).flatten (u_ n a).flatten|0=>rfl|n+1=>by rw[VG,VG,WH,WH];exact h.append (vM h n)
def Mv:R2:=λx y H Q=>Sl x y H Q\/(Cu x y H Q\/rI ŉ (λi j=>.int (i*j)) x y H Q)
theorem Mw:ù a (V2 .Mult) Mv:=op_rep.or L5
theorem Mx:Ĕ a Mv QL:=by intro q m x y H Q f e o;cases q with
 |lst d=>cases m with|int n=>
 have b:ì a H (if 0<=n/\d.length*n.toNat<=100000/\n<=100000 then Z (.ok (.lst (u_ n.toNat d).flatten))else U) Q:=o;by_cases g:0<=n/\d.length*n.toNat<=100000/\n<=100000;·rw[if_pos g]at b;obtain⟨p,j,rfl,k,h⟩:=f.lstE;refine .inl ⟨p,n,j,rfl,e,k,by omega,by omega,by rw[h.length];exact ce g.2.1,λl i=>b _ _ (aJ i _) ⟨l,_,rfl,aw,S.mono (aJ i _) _ _ (vM h _)⟩⟩
 ·rw[if_neg g]at b;exact b.elim|_=>exact .inr (Fb _ _ x y H Q f e o)
 |_=>exact .inr (Fb _ _ x y H Q f e o)
def frs{b:Type}(P:b->Bool):Sem b->Bool|.pure a=>P a|.fresh _=>L|.at _ k=>frs P (k ())|.rule _ k=>frs P (k ())|.point _ k=>frs P (k ())|_=>D
theorem oM{j:Array B}(i:f.heap.IsTupleIter e A b)(s:f.heap.IsTuple A j)(p:j[b]?=Z Β)(a:∀h,h.IsTupleIter e A (b+1)->Wm e f.heap h->Ç Β {f with heap:=h}):v_ (E_ r q) I (Vq (.ref e)) Ç τ f:=by obtain⟨v,g,o,d⟩:=id i;obtain⟨u,n,_,m,k⟩:=s;unfold Vq;refine e_ (Vj (name:=b_ "__next__") i.typeIs Wq (VD Wq i.typeIs Y8 ?_ (YW _)));show v_ _ _ (X' (.ref e) 0>>=_) _ _ f;refine e_ (Vy g d (x:=.ref A) rfl ?_);show v_ _ _ (if(B_ A==J_)=L then _ else _) _ _ f;rw[if_neg (show¬((B_ A==J_)=L)from y_)];show v_ _ _ (X' (.ref e) 1>>=_) _ _ f;refine e_ (Vy g d (x:=.int b 0) rfl ?_);show v_ _ _ (seqItems? (.ref A)>>=_) _ _ f;refine e_ (Wc n k ?_);simp only[Yz,p];refine e_ (Zc g d (by simp) (j_ ⟨Β,rfl,j_ (a _ ⟨_,V3 _ g (aaz (X1 d _)),(abx ..).trans o,by rw[X1 d];simp[Ze]⟩ (VF ..))⟩))
theorem zt{k:Array B}(n:I.handled=U)(j:f.heap.IsTupleIter e A b)(v:f.heap.IsTuple A k)(u:k[b]?=U)(d:∀i a,Heap.ExtBut e f.heap i->(∃o,i.get? a=Z o/\o.cls=.type "StopIteration")->τ (.ref a) {f with heap:=i}):v_ (E_ r q) I (Vq (.ref e)) Ç τ f:=by
 obtain⟨y,h,z,g⟩:=id j;obtain⟨w,s,_,m,p⟩:=v;unfold Vq;refine e_ (Vj (name:=b_ "__next__") j.typeIs Wq (VD Wq j.typeIs Y8 ?_ (YW _)));show v_ _ _ (X' (.ref e) 0>>=_) _ _ f;refine e_ (Vy h g (x:=.ref A) rfl ?_);show v_ _ _ (if(B_ A==J_)=L then _ else _) _ _ f;rw[if_neg (show¬((B_ A==J_)=L)from y_)];show v_ _ _ (X' (.ref e) 1>>=_) _ _ f;refine e_ (Vy h g (x:=.int b 0) rfl ?_);show v_ _ _ (seqItems? (.ref A)>>=_) _ _ f;refine e_ (Wc s p ?_);simp only[Yz,u];refine e_ (W5 (e_ (Zc h g (by simp) ?_)));show v_ _ _ (newExc (.type "StopIteration") []>>=_) _ _ _;refine e_ ?_;simp only[newExc,newTuple];refine e_ (Vl ?_ (by size_fits));refine e_ (m:=Zg _ _) (ab0 (a:=J_) (by first|rfl|(simp only[Zg];rfl)) ?_);refine Vl ?_ (by size_fits);simp only[raiseNew];refine e_ (wpAny_handled ?_);first|rw[show I.in1.handled=U from n]|rw[n]
 exact e_ (j_ (wpAny_throw (d _ _ (((VF ..).extBut.push _).push _) ⟨_,w_ _ rfl,rfl⟩)))
theorem zu{j n m l1 N:O}{xs ys:Array B}{y a h:B}{Q:Option B->ge->Prop}(d:acp e A j n m l1 N)(z:ţ f.heap e A j .none)(g':Yk f.heap A (.ref n) (.ref m))(f':Yk f.heap j a h)(j1:f.heap.IsTupleIter n l1 b)(j2:f.heap.IsTupleIter m N b)(m1:f.heap.IsTuple l1 xs)(m2:f.heap.IsTuple N ys)(hx:xs[b]?=Z Β)(hy:ys[b]?=Z y)(i:∀p,ţ p e A j (Ze f.heap.objs.size)->Yk p j Β y->p.IsTupleIter n l1 (b+1)->p.IsTupleIter m N (b+1)->Yk p f.heap.objs.size Β y->p.objs.size=f.heap.objs.size+1->(∀c o,c≠e->c≠j->c≠n->c≠m->f.heap.get? c=Z o->p.get? c=Z o)->Q (Z (.ref f.heap.objs.size)) {f with heap:=p}):v_ (E_ r q) I (Yg (.ref e)) Q τ f:=by
 have ty:f.TypeIs (.ref e) "zip":=⟨_,z,rfl⟩;unfold Yg;refine e_ (XR (Vj (name:=b_ "__next__") ty YV (VD YV ty F.entry_zip_next ?_ (F.args_zip_next_1 _))));show v_ _ _ (X' (.ref e) 2>>=_) _ _ f;refine e_ (Vy z rfl (x:=.bool D) rfl ?_);show v_ _ _ (X' (.ref e) 3>>=_) _ _ f;refine e_ (Vy z rfl (x:=.ref A) rfl ?_);refine e_ (Wc g' rfl ?_);show v_ _ _ (VJ (.ref e)>>=_) _ _ f;refine e_ ?_;unfold VJ;refine e_ (Vy z rfl (x:=.none) rfl (j_ ?_));simp only[if_true];refine e_ (W5 ?_);refine e_ (Vy z rfl (x:=.ref j) rfl ?_);refine e_ (W4 z (by simp) λhA zA s=>?_);have d':ţ hA e A j .ellipsis:=zA;refine e_ ?_;simp only[Z0,aaq,YY,Yy];refine e_ (e_ (aa5 ?_));show v_ _ _ (Vq (.ref n)>>=_) _ _ _;refine e_ (oM (j1.extBut s.extBut d.i1z) (m1.extBut s.extBut d.l1z) hx λhB jB w=>j_ ?_);have tB:Yk hB j a h:=w.extBut _ _ d.TOi1 (s.extBut _ _ d.TOz f');refine e_ (Wc tB rfl ?_);refine e_ (aaD tB λhC tC v=>?_);have e':Yk hC j Β h:=tC;refine e_ (ab1 (j_ ?_));refine e_ (e_ (aa5 ?_));show v_ _ _ (Vq (.ref m)>>=_) _ _ _;refine e_ (oM (((j2.extBut s.extBut d.i2z).extBut w.extBut d.i12.symm).extBut v.extBut d.TOi2.symm) (((m2.extBut s.extBut d.l2z).extBut w.extBut d.l2i1).extBut v.extBut d.l2TO) hy λhD jD H=>j_ ?_);have tD:Yk hD j Β h:=H.extBut _ _ d.TOi2 e';refine e_ (Wc tD rfl ?_);refine e_ (aaD tD λk tF E=>?_);have b':Yk k j Β y:=tF;refine e_ (ab1 (j_ (j_ ?_)));refine e_ (Wc b' rfl ?_);refine e_ (wpAny_newTuple ?_);have n5:k.objs.size=f.heap.objs.size:=by rw[E.1,H.1,v.1,w.1,s.1]
 have z5:ţ k e A j .ellipsis:=E.extBut _ _ d.TOz.symm (H.extBut _ _ d.i2z.symm (v.extBut _ _ d.TOz.symm (w.extBut _ _ d.i1z.symm d')));have k5:∀c o,c≠e->c≠j->c≠n->c≠m->f.heap.get? c=Z o->k.get? c=Z o:=λc o u c2 c3 c4 g=>E.extBut _ _ c2 (H.extBut _ _ c4 (v.extBut _ _ c2 (w.extBut _ _ c3 (s.extBut _ _ u g))));have p1:k.IsTupleIter n l1 (b+1):=((jB.extBut v.extBut d.TOi1.symm).extBut H.extBut d.i12).extBut E.extBut d.TOi1.symm;have p2:k.IsTupleIter m N (b+1):=jD.extBut E.extBut d.TOi2.symm;have nz:e<k.objs.size:=z_ z5;show v_ _ _ (XO (.ref e) (.ref k.objs.size)>>=_) _ _ _;refine e_ ?_;unfold XO;have z6:ţ (k.push {cls:=.type "tuple",data:=.seq #[Β,y]}) e A j .ellipsis:=l_ _ z5;refine e_ (W4 z6 (by simp) λhG zG sG=>?_);have c':ţ hG e A j (Ze k.objs.size):=zG;refine W4 c' (by simp) λhH zH sH=>?_;have a':ţ hH e A j (Ze k.objs.size):=zH;have up:∀c o,c≠e->k.get? c=Z o->hH.get? c=Z o:=λc o u g=>sH.extBut _ _ u (sG.extBut _ _ u (l_ _ g));have pr:Yk hH k.objs.size Β y:=sH.extBut _ _ (XG nz) (sG.extBut _ _ (XG nz) (w_ _ rfl));have n8:hH.objs.size=k.objs.size+1:=by rw[sH.1,sG.1,U7]
 rw[n5]at a' pr n8;refine j_ ⟨_,rfl,j_ ?_⟩;show Q (Z (.ref k.objs.size)) _;rw[n5];exact i hH a' (up _ _ d.TOz b') (p1.at λo g=>up _ o d.i1z g) (p2.at λo g=>up _ o d.i2z g) pr n8 λc o u c2 c3 c4 g=>up c o u (k5 c o u c2 c3 c4 g)
theorem CN{j m s p l2:O}{z:Array B}{i:B}{Q:Option B->ge->Prop}(hh:I.handled=U)(a:acp e A j m s p l2)(k:ţ f.heap e A j .none)(w:Yk f.heap A (.ref m) (.ref s))(a':Yk f.heap j Β i)(j1:f.heap.IsTupleIter m p b)(m1:f.heap.IsTuple p z)(hx:z[b]?=U)(d:∀h',(∀c o,c≠e->c≠j->c≠m->c≠s->f.heap.get? c=Z o->h'.get? c=Z o)->Q U {f with heap:=h'}):v_ (E_ r q) I (Yg (.ref e)) Q τ f:=by
 have E:f.TypeIs (.ref e) "zip":=⟨_,k,rfl⟩;unfold Yg;refine e_ (XR (Vj (name:=b_ "__next__") E YV (VD YV E F.entry_zip_next ?_ (F.args_zip_next_1 _))));show v_ _ _ (X' (.ref e) 2>>=_) _ _ f;refine e_ (Vy k rfl (x:=.bool D) rfl ?_);show v_ _ _ (X' (.ref e) 3>>=_) _ _ f;refine e_ (Vy k rfl (x:=.ref A) rfl ?_);refine e_ (Wc w rfl ?_);show v_ _ _ (VJ (.ref e)>>=_) _ _ f;refine e_ ?_;unfold VJ;refine e_ (Vy k rfl (x:=.none) rfl (j_ ?_));simp only[if_true];refine e_ (W5 ?_);refine e_ (Vy k rfl (x:=.ref j) rfl ?_);refine e_ (W4 k (by simp) λhA zA n=>?_);have v:ţ hA e A j .ellipsis:=zA;refine e_ ?_;simp only[Z0,aaq,YY,Yy];refine e_ (e_ (aa5 ?_));show v_ _ _ (Vq (.ref m)>>=_) _ _ _;refine e_ (zt hh (j1.extBut n.extBut a.i1z) (m1.extBut n.extBut a.l1z) hx λhB h N he=>?_);obtain⟨oe,u,g2⟩:=he;have y:ţ hB e A j .ellipsis:=N _ _ a.i1z.symm v;have ne:h≠e:=λg=>by subst g;rw[y]at u;cases u;simp at g2
 refine W4 y (by simp) λhC _ H=>?_;refine e_ (wpAny_isInstance (T:="StopIteration") (b:=L) ⟨oe,H.extBut _ _ ne u,g2⟩ isSubtype_stop (j_ (d hC λc o c1 _ c3 _ g=>H.extBut _ _ c1 (N _ _ c3 (n.extBut _ _ c1 g)))))
abbrev zq1(h:N_)(a:O):N_:=h.push {cls:=.type "tuple_iterator",data:=.fields #[.ref a,.int 0 0]}
abbrev zq2(h:N_)(b a:O):N_:=(zq1 h b).push {cls:=.type "tuple_iterator",data:=.fields #[.ref a,.int 0 0]}
abbrev zq3(h:N_)(a b:O):N_:=(zq2 h a b).push {cls:=.type "tuple",data:=.seq #[.ref h.objs.size,.ref (zq1 h a).objs.size]}
abbrev zq4(h:N_)(b a:O):N_:=(zq3 h b a).push {cls:=.type "tuple",data:=.seq #[.none,.none]}
abbrev Z'(h:N_)(b a:O):N_:=(zq4 h b a).push {cls:=.type "zip",data:=.fields #[.none,.bool D,.bool D,.ref (zq2 h b a).objs.size,.ref (zq3 h b a).objs.size]}
theorem CO(a b:O)(f e:Array B):Meets (WR.«zip.__new__» ⟨[.type "zip",.ref a,.ref b],[]⟩) (λ_ R s=>s.heap.IsTuple a f/\s.heap.IsTuple b e/\R (.ok (.ret (.ref (zq4 s.heap a b).objs.size))) {s with heap:=Z' s.heap a b}):=.of_wp λk w A R s h=>by obtain⟨j,g,d,i,os⟩:=s;obtain⟨q,p,h⟩:=h;have m:=sub_zip;have o:Heap.IsTuple (Shared.heap ⟨j,g,d,i,os⟩) a f:=q;have n:Heap.IsTuple (Shared.heap ⟨j.push {cls:=.type "tuple_iterator",data:=.fields #[.ref a,.int 0 0]},g,d,i,os⟩) b e:=Heap.IsTuple.push p _;wp_walk using XZ o,XZ n;exact⟨_,rfl,h⟩
theorem zv{p n:Array B}(z:f.heap.IsTuple e p)(y:f.heap.IsTuple A n)(a:∀b,ţ b (f.heap.objs.size+4) (f.heap.objs.size+2) (f.heap.objs.size+3) .none->Yk b (f.heap.objs.size+2) (.ref f.heap.objs.size) (.ref (f.heap.objs.size+1))->Yk b (f.heap.objs.size+3) .none .none->b.IsTupleIter f.heap.objs.size e 0->b.IsTupleIter (f.heap.objs.size+1) A 0->b.objs.size=f.heap.objs.size+5->(∀c o,f.heap.get? c=Z o->b.get? c=Z o)->Ç (.ref (f.heap.objs.size+4)) {f with heap:=b}):v_ (E_ r q) I (call (.type "zip") [.ref e,.ref A]) Ç τ f:=by
 refine callType_new F.called_zip (by decide) (F.typeCall_zip_2 _ _) (F.newCall_zip_2 _ _) (λm=>F.args_object_init_3 m _ _) F.entry_zip_new (CO e A p n) ⟨z,y,?_⟩;have j:(zq1 f.heap e).objs.size=f.heap.objs.size+1:=U7 ..;have i:(zq2 f.heap e A).objs.size=f.heap.objs.size+2:=by rw[U7,j]
 have h:(zq3 f.heap e A).objs.size=f.heap.objs.size+3:=by rw[U7,i]
 have d:(zq4 f.heap e A).objs.size=f.heap.objs.size+4:=by rw[U7,h]
 have w:(Z' f.heap e A).objs.size=f.heap.objs.size+5:=by rw[U7,d]
 have P:=@l_;have k:(Z' f.heap e A).get? (zq4 f.heap e A).objs.size=Z _:=w_ _ rfl;have s:(Z' f.heap e A).get? (zq3 f.heap e A).objs.size=Z _:=l_ _ (w_ _ rfl);have u:(Z' f.heap e A).get? (zq2 f.heap e A).objs.size=Z _:=l_ _ (l_ _ (w_ _ rfl));have v:(Z' f.heap e A).get? (zq1 f.heap e).objs.size=Z _:=l_ _ (l_ _ (l_ _ (w_ _ rfl)));have E:(Z' f.heap e A).get? f.heap.objs.size=Z _:=l_ _ (l_ _ (l_ _ (l_ _ (w_ _ rfl))));show _/\_;rw[i,h,d]at k;rw[j,i]at u;rw[h]at s;rw[j]at v;rw[d];exact⟨⟨_,k,rfl⟩,a _ k u s ⟨_,E,rfl,rfl⟩ ⟨_,v,rfl,rfl⟩ w λc o g=>l_ _ (l_ _ (l_ _ (l_ _ (l_ _ g))))⟩
def Itz(a b:O):It:=⟨λi H=>∃d e x y,H a=Z (.tup d)/\H b=Z (.tup e)/\d[i]?=Z x/\e[i]?=Z y,λi H v f=>∃p x y,v=.ref p/\H p=U/\f=ß H p (.tup [x,y])/\(∀d,H a=Z (.tup d)->d[i]?=Z x)/\(∀e,H b=Z (.tup e)->e[i]?=Z y),λi H=>∃d e,H a=Z (.tup d)/\H b=Z (.tup e)/\d.length<=i⟩
structure ZSt(z TI TO i1 i2 a b:O)(i:Nat)(h:N_):Prop where
 z:ţ h z TI TO .none
 ti:Yk h TI (.ref i1) (.ref i2)to:∃p q,Yk h TO p q
 j1:h.IsTupleIter i1 a i
 j2:h.IsTupleIter i2 b i
structure ZNe(z TI TO i1 i2:O):Prop where
 n1:TI≠z
 n2:TO≠z
 n3:i1≠z
 n4:i2≠z
 n5:TI≠TO
 n6:TI≠i1
 n7:TI≠i2
 n8:TO≠i1
 n9:TO≠i2
 n10:i1≠i2
theorem QM{d b a c:O}(h:c∈[e,A,d,b,a]):c=e\/c=A\/c=d\/c=b\/c=a:=by simpa using h
theorem CP{P:n_}{w:xy}{K:d_}{es:List r_}{k:Nat}{r':Pos}(a b z TI TO A j:O)(N:ZNe z TI TO A j):BE P w K (.Tuple es k r') (Itz a b) [z,TI,TO,A,j] z (λi h=>ZSt z TI TO A j a b i h)where
 mem:=by simp
 obj:=λi h st c hc=>by
  obtain⟨p,q,g3⟩:=st.to;rcases QM hc with rfl|rfl|rfl|rfl|rfl;·exact⟨_,st.z,λv g=>by cases g⟩
  ·exact⟨_,st.ti,λv g=>by cases g⟩
  ·exact⟨_,g3,λv g=>by cases g⟩
  ·obtain⟨o,e,_,d⟩:=st.j1;exact⟨o,e,λv g=>by rw[d]at g;cases g⟩
  ·obtain⟨o,e,_,d⟩:=st.j2;exact⟨o,e,λv g=>by rw[d]at g;cases g⟩
 keep:=λi h h' st kk=>by obtain⟨p,q,g3⟩:=st.to;exact⟨kk z (by simp) _ st.z,kk TI (by simp) _ st.ti,⟨p,q,kk TO (by simp) _ g3⟩,st.j1.at λo e=>kk A (by simp) o e,st.j2.at λo e=>kk j (by simp) o e⟩
 item:=by
  intro X hP hw hK hc i f' s σ H E I hf st hg;subst hP hw hK;obtain⟨xs,ys,x,y,ha,hb,hx,hy⟩:=hg;obtain⟨i',rv,p,_⟩:=I.tuple (ô.of ha);obtain⟨s',sv,p',_⟩:=I.tuple (ô.of hb);obtain⟨u,hu,ru⟩:=rv.get hx;obtain⟨v,hv,q'⟩:=sv.get hy;obtain⟨q1,q2,g'⟩:=st.to;have F:∀c∈[z,TI,TO,A,j],ua X f' H c:=hf;have fr:∀c∈[z,TI,TO,A,j],H c=U:=λc m=>(hf c m).1;have an:∀c∈[z,TI,TO,A,j],a≠c:=λc m g=>by rw[g,fr c m]at ha;cases ha
  have bn:∀c∈[z,TI,TO,A,j],b≠c:=λc m g=>by rw[g,fr c m]at hb;cases hb
  have f:acp z TI TO A j a b:=⟨N.n1,N.n2,N.n3,N.n4,N.n5,N.n6,N.n7,N.n8,N.n9,N.n10,an z (by simp),an TO (by simp),an A (by simp),an j (by simp),bn z (by simp),bn TO (by simp),bn A (by simp),bn j (by simp)⟩;refine zu f st.z st.ti g' st.j1 st.j2 (show s.heap.IsTuple a i'.toArray from p) (show s.heap.IsTuple b s'.toArray from p') (Β:=u) (y:=v) (by simpa using hu) (by simpa using hv) λh' a1 a2 a3 a4 a5 a6 kk=>?_;refine⟨_,rfl,wpAny_letOwnedTupleGo_zip a1 λh2 z2 d'=>?_⟩;have hp:H s.heap.objs.size=U:=I.hok.fresh (on _);have l':z<s.heap.objs.size:=z_ st.z;have k2:∀c o,c∉[z,TO,A,j]->s.heap.get? c=Z o->h2.get? c=Z o:=λc o b' q=>d'.extBut c o (λg=>b' (by simp[g])) (kk c o (λg=>b' (by simp[g])) (λg=>b' (by simp[g])) (λg=>b' (by simp[g])) (λg=>b' (by simp[g])) q);have o':h2.get? s.heap.objs.size=Z {cls:=.type "tuple",data:=.seq #[u,v]}:=d'.extBut _ _ (XG l') a5;have sub:∀c,c∈[z,TO,A,j]->c∈[z,TI,TO,A,j]:=λc m=>by
   have m':c=z\/c=TO\/c=A\/c=j:=by simpa using m
   rcases m' with rfl|rfl|rfl|rfl<;>simp
  have I1:Í X f' σ (ß H s.heap.objs.size (.tup [x,y])) {s with heap:=h2}:=by
   have nt:∀c o,H c=Z o->c∉[z,TO,A,j]:=λc o q m=>by rw[fr c (sub c m)]at q;cases q
   refine I.step (g':=s.gens) (d':=s.drawn) (t':=s.toks) (ch:=[z,TO,A,j]) (λc m=>?_) (λc o _ _ a' q _=>k2 c o a' q) (λc o _ _ a' q _=>⟨o.slots,k2 c o a' q⟩) (λc o a' q n=>?_) (λc o a' q=>⟨o,k2 c o a' q⟩) (λc zs q=>by rw[aA (aF q hp)];exact q) (λc o zs q=>by rw[aA (aF q hp)];exact q) (λc ps q=>⟨#[],by rw[aA (aF q hp),q];simp⟩) (λm hm=>?_) (λc o2 q=>?_) I.bare;·obtain⟨f0,f1,R,f3,f4,f5⟩:=hf c (sub c m);exact⟨f3,f1,f4,f5⟩
   ·rw[aA (UI (z_ q))];exact n
   ·obtain⟨o,k',ep,ho,r⟩:=hm;exact⟨o,k',ep,k2 _ o (λm=>(hf _ (sub _ m)).2.1 rfl) ho,r⟩
   · by_cases n':c=s.heap.objs.size;·subst n';rw[aw]at q;cases q;exact⟨by show 2<=sizeLine;decide,[u,v],.cons ru (.cons q' .nil),⟨_,o',rfl,_,rfl⟩⟩
     · rw[aA n']at q;refine(I.hok c o2 q).stay (λe v' c' qq=>k2 e v' ?_ qq) (λe qq=>by rw[aA (aF qq hp)];exact qq) λe zs qq=>by rw[aA (aF qq hp)];exact qq
       rcases c' with rfl|c';·exact nt _ _ q
       ·exact nt _ _ c'
  refine⟨.ref s.heap.objs.size,_,I1,rfl,⟨_,x,y,rfl,hp,rfl,λzs e'=>?_,λzs e'=>?_⟩,⟨z2,?_,⟨_,_,d'.extBut _ _ N.n2 a2⟩,a3.at λo q=>d'.extBut _ _ N.n3 q,a4.at λo q=>d'.extBut _ _ N.n4 q⟩,λc m=>?_⟩;·rw[ha]at e';cases e';exact hx
  ·rw[hb]at e';cases e';exact hy
  ·exact d'.extBut _ _ N.n1 (kk _ _ N.n1 N.n5 N.n6 N.n7 st.ti)
  · have lt:c<s.heap.objs.size:=by
     rcases QM m with rfl|rfl|rfl|rfl|rfl;·exact l'
     ·exact z_ st.ti
     ·exact z_ g'
     ·obtain⟨_,e,_⟩:=st.j1;exact z_ e
     ·obtain⟨_,e,_⟩:=st.j2;exact z_ e
    rw[aA (UI lt)];exact fr c m
 done:=by
  intro X hP hw hK hc i f' s σ H E I hf st hg;subst hP hw hK;obtain⟨xs,ys,ha,hb,hl⟩:=hg;obtain⟨i',rv,p,_⟩:=I.tuple (ô.of ha);obtain⟨q1,q2,g'⟩:=st.to;have fr:∀c∈[z,TI,TO,A,j],H c=U:=λc m=>(hf c m).1;have an:∀c∈[z,TI,TO,A,j],a≠c:=λc m g=>by rw[g,fr c m]at ha;cases ha
  have bn:∀c∈[z,TI,TO,A,j],b≠c:=λc m g=>by rw[g,fr c m]at hb;cases hb
  have f:acp z TI TO A j a b:=⟨N.n1,N.n2,N.n3,N.n4,N.n5,N.n6,N.n7,N.n8,N.n9,N.n10,an z (by simp),an TO (by simp),an A (by simp),an j (by simp),bn z (by simp),bn TO (by simp),bn A (by simp),bn j (by simp)⟩;have t':=rv.length;refine CN (I.ok.hd hc) f st.z st.ti g' st.j1 (show s.heap.IsTuple a i'.toArray from p) (by simp;omega) λh' kk=>⟨rfl,?_⟩;have k2:∀c o,c∉[z,TO,A,j]->s.heap.get? c=Z o->h'.get? c=Z o:=λc o b' q=>kk c o (λg=>b' (by simp[g])) (λg=>b' (by simp[g])) (λg=>b' (by simp[g])) (λg=>b' (by simp[g])) q;have sub:∀c,c∈[z,TO,A,j]->c∈[z,TI,TO,A,j]:=λc m=>by
   have m':c=z\/c=TO\/c=A\/c=j:=by simpa using m
   rcases m' with rfl|rfl|rfl|rfl<;>simp
  have nt:∀c o,H c=Z o->c∉[z,TO,A,j]:=λc o q m=>by rw[fr c (sub c m)]at q;cases q
  refine I.step (g':=s.gens) (d':=s.drawn) (t':=s.toks) (ch:=[z,TO,A,j]) (λc m=>?_) (λc o _ _ a' q _=>k2 c o a' q) (λc o _ _ a' q _=>⟨o.slots,k2 c o a' q⟩) (λc o a' q n=>n) (λc o a' q=>⟨o,k2 c o a' q⟩) (λc zs q=>q) (λc o zs q=>q) (λc ps q=>⟨#[],by rw[q];simp⟩) (λm hm=>?_) (λc o2 q=>?_) I.bare;·obtain⟨f0,f1,R,f3,f4,f5⟩:=hf c (sub c m);exact⟨f3,f1,f4,f5⟩
  ·obtain⟨o,k',ep,ho,r⟩:=hm;exact⟨o,k',ep,k2 _ o (λm=>(hf _ (sub _ m)).2.1 rfl) ho,r⟩
  · refine(I.hok c o2 q).stay (λe v' c' qq=>k2 e v' ?_ qq) (λe qq=>qq) λe zs qq=>qq;rcases c' with rfl|c';·exact nt _ _ q
    ·exact nt _ _ c'
 self:=λ_ _ _ _ _ st h=>wpAny_pyIter_zip st.z h
noncomputable def Kg:List Q->List Q->List Q|x::b,y::a=>.tup [x,y]::Kg b a|_,_=>[]
theorem jU:∀(a b:List Q),a.length=b.length->(Kg a b).length=a.length|[],[],_=>rfl|x::a,y::b,h=>by show(Kg a b).length+1=a.length+1;rw[jU a b (by simpa using h)]|[],_::_,h=>by simp at h|_::_,[],h=>by simp at h
theorem vN:∀(d b:List Q)(i:Nat)(x y:Q),d[i]?=Z x->b[i]?=Z y->(Kg d b)[i]?=Z (.tup [x,y])|x::d,y::b,0,f,e,h,a=>by simp at h a;subst h a;rfl|x::d,y::b,i+1,f,e,h,a=>vN d b i f e (by simpa using h) (by simpa using a)|[],_,_,_,_,h,_=>by simp at h|_::_,[],_,_,_,_,a=>by simp at a
theorem My{b:List V}{f:List Q}(n:g e=Z (.tup ι))(m:g A=Z (.tup b))(r:S s g H ι)(z:S s g f b)(k:H.length=f.length):P' s (Itz e A) (Kg H f) g where
 go:=λi E a h=>by
  rw[jU H f k]at h;have q:i<ι.length:=by rw[r.length];exact h
  have o:i<b.length:=by rw[z.length,<-k];exact h
  exact⟨ι,b,ι[i],b[i],a _ _ n,a _ _ m,by simp[q],by simp[o]⟩
 stop:=λE a=>⟨ι,b,a _ _ n,a _ _ m,by rw[r.length,jU H f k];exact on _⟩;yld:=λi E v H2 a h y=>by obtain⟨p,x,y,rfl,j,rfl,N,I⟩:=y;obtain⟨d,q,o⟩:=S.get (S.mono a _ _ r) (N ι (a _ _ n));obtain⟨d',w,u⟩:=S.get (S.mono a _ _ z) (I b (a _ _ m));exact⟨aJ j _,_,vN H f i d d' q w,⟨p,_,rfl,aw,⟨x,[y],rfl,Ô.mono (aJ j _) _ _ o,y,[],rfl,Ô.mono (aJ j _) _ _ u,rfl⟩⟩⟩
def Kh:List Q->Option (Rs (List Q))|[.tup b,.tup a]=>if b.length=a.length then Z (.ok (Kg b a))else U|_=>U
theorem HH(hg:Gl a "zip")(hm:a.mg "zip"=U)(ha:FA a [h,w] ν)(hs:k_ [h,w] a.env=[(D,eval h a.env),(D,eval w a.env)]:=by lk)(N:k_ [w] a.env=[(D,eval w a.env)]:=by lk):ř a (.Tuple v b m) (.Call (.Name "zip" u) [h,w] [] Ρ) (λz=>Ø (ν z) Kh):=by
 constructor;intro f' s σ H R I i;obtain⟨z,E,o⟩:=i;have key:ê a H (ν z) λvs H'=>∃A,S a.K H' A vs/\ī a H' (Kh A) R:=by match hf:ν z,o with|some (.exc c),o=>exact o|some (.ok A),o=>exactλvs H' e rs=>⟨A,rs,ī.mono e o⟩
 refine Call_ (jL I hg hm (show VN "zip"=Z (.type "zip")by decide+kernel) (Vz (å (ha.h Ρ f' s σ H _ I ⟨z,E,key⟩) λus p⟨vs,H1,q,r1,A,rs,r⟩=>?_) (by rw[hs,N]) (by rw[N];rfl)));unfold Kh at r;split at r
 · rename_i xs ys;split at r
   · rename_i hl;obtain⟨j,v',rfl,rv,b'⟩:=GR rs;obtain⟨g,ws,rfl,h1,h2⟩:=rv.tupE;obtain⟨f,l',rfl,a',k'⟩:=b'.tupE;obtain⟨k,u',rfl,ru,c'⟩:=Ï.two r1;cases ru;cases c';obtain⟨g',rt,pl,hz⟩:=q.tuple (ô.of h1);obtain⟨e',m',d',n'⟩:=q.tuple (ô.of a');refine zv (show p.heap.IsTuple g g'.toArray from pl) (show p.heap.IsTuple f e'.toArray from d') λh' g1 g2 g3 g4 g5 g6 kk=>?_;refine wpAny_pyIter_zip g1 ?_;have I2:Í a f' σ H1 {p with heap:=h'}:=q.kept (t':=p.toks) kk;have y:∀d n:Nat,d≠n->p.heap.objs.size+d≠p.heap.objs.size+n:=λd n i' e=>i' (aa0 e);have g0:∀d:Nat,0≠d->p.heap.objs.size≠p.heap.objs.size+d:=λd hm e=>hm (aa0 (n:=p.heap.objs.size) e);refine⟨p.heap.objs.size+4,[p.heap.objs.size+4,p.heap.objs.size+2,p.heap.objs.size+3,p.heap.objs.size,p.heap.objs.size+1],_,Itz g f,H1,rfl,I2,CP g f _ _ _ _ _ ⟨y 2 4 (by decide),y 3 4 (by decide),g0 4 (by decide),y 1 4 (by decide),y 2 3 (by decide),(g0 2 (by decide)).symm,y 2 1 (by decide),(g0 3 (by decide)).symm,y 3 1 (by decide),g0 1 (by decide)⟩,⟨g1,g2,⟨_,_,g3⟩,g4,g5⟩,λc hc=>?_,r _ H1 (.refl H1) (My h1 a' h2 k' hl)⟩;rcases QM hc with rfl|rfl|rfl|rfl|rfl;·exact q.fpOk (V7 _ _) (q.hok.fresh (V7 _ _))
     ·exact q.fpOk (V7 _ _) (q.hok.fresh (V7 _ _))
     ·exact q.fpOk (V7 _ _) (q.hok.fresh (V7 _ _))
     ·exact q.fpOk (on _) (q.hok.fresh (on _))
     ·exact q.fpOk (V7 _ _) (q.hok.fresh (V7 _ _))
   ·exact r.elim
 ·exact r.elim
def jF(b:Q->Ev->Option Ev)(f:List Nat)(a:Ù):List Q->Ev->Option Fl|[],e=>Z (.nx (fgt f e))|d::i,e=>match b d (fgt f e)with|none=>U|some g=>match a g with|some (.nx h)=>jF b f a i h|o=>o
def xb(b:Q->Ev->Option Ev)(f:List Nat)(d:á)(a:Ù):Ù:=λe=>db (d e) λg=>jF b f a g e
noncomputable def tgG(X:C)(b:Q->Ev->Option Ev):TG:=λv i H a=>∃d h f,Ô X.K H d v/\Û X.K H i h/\b d h=Z f/\∀e g,Ñ H g->Û X.K g e f->a e g
theorem FG.pg{b:Q->Ev->Option Ev}(f:FG a h b):PG a h (tgG a b):=λp s m H v u g I r⟨d,n,j,o,E,e,q⟩=>å (f.h p s m H v u d n j I r o E e) λ_ A⟨i,k,y,w,z⟩=>⟨i,k,y,q i k w z⟩
theorem HI{b:Q->Ev->Option Ev}(u:List Nat)(hp:Xl (E_ a.prog a.w) a.A a.env a.xe)(hc:a.calm=L)(hi:ř a h w ν)(hg:FG a h b)(hb:ġ a À Φ)(hs:∀x,UF w a.env x=pure x:=by intro _;lk):FS a (.For h w À [] m) (xb b u ν Φ):=by refine uf (rh hp hc hi.h hg.pg hb.h hs) λe σ H ρ E o=>⟨ρ,E,?_⟩;unfold xb at o;match hf:ν ρ,o with
 |none,o=>exact o|some (.exc c),o=>exact o|some (.ok k),o=>
 intro J H1 e1 wk;have o1:õ a H1 (jF b u Φ k ρ) e:=õ.mono e1 o;refine⟨λn f v p=>f=k.length-n/\n<=k.length/\Ñ H1 p/\∃j,Û a.K p v j/\õ a p (jF b u Φ (k.drop n) j) e,⟨k.length,by simp,UQ _,.refl H1,ρ,E.mono e1,by simpa using o1⟩,?_⟩;rintro n f v p⟨rfl,hn,e2,j,E',s⟩;by_cases A:n<k.length;·refine .inr ⟨wk.go n p e2 A,λa' N=>Ñ H1 N/\∃g,Û a.K N a' g/\õ a N (jF b u Φ (k.drop (n+1)) g) e,λa' N⟨e3,g,E2,i⟩=>⟨k.length-(n+1),by omega,rfl,A,e3,g,E2,i⟩,λx N y=>?_⟩;obtain⟨e4,d,hd,rd⟩:=wk.yld n p x N e2 A y;rw[i7 hd]at s;unfold jF at s;match I:b d (fgt u j)with
   |none=>rw[I]at s;exact s.elim|some z=>rw[I]at s;refine⟨d,fgt u j,z,rd,(Û.fgt u E').mono e4,I,λd' H3 e5 E3=>?_⟩;show tS a Φ _ _ _;refine⟨z,E3,?_⟩;have i:=õ.mono (e4.trans e5) s;dsimp only at i;match q:Φ z with|none=>rw[q]at i;exact i|some (.exc c)=>rw[q]at i;exact i|some (.rt r)=>rw[q]at i;exact i|some (.nx g)=>rw[q]at i;exactλc' H4 e6 E4=>⟨((e2.trans e4).trans e5).trans e6,g,E4,õ.mono e6 i⟩
 · have b':n=k.length:=by omega
   subst b';rw[XM]at s;exact .inl ⟨wk.stop p e2,s v p (.refl p) (Û.fgt u E')⟩
def Ki:Ö|[.str x]=>Z (.ok (.str x))|a=>QD a
theorem zw:mB a (.type "str") (λb H Q=>(∃i,b=[.int i]/\i.natAbs.log2<1920/\Q (.str (toString i)) H)\/∃x,b=[.str x]/\Q (.str x) H):=by
 intro g s e H b f Q I r h;rcases h with⟨i,rfl,d,q⟩|⟨x,rfl,q⟩;·obtain⟨u,rfl,t,rfl⟩:=iE r;exact PySem.P.str_of_int d ⟨.str _,H,I.tok _,⟨_,rfl⟩,q⟩
 ·obtain⟨u,rfl,t,rfl⟩:=iE r;exact PySem.P.str_of_str ⟨.str _,H,I,⟨_,rfl⟩,q⟩
theorem HJ(p:Gl a "str")(n:a.mg "str"=U)(s:FA a (h::v) ν)(q:k_ (h::v) a.env=(D,eval h a.env)::k_ v a.env:=by lk)(f:(UH u (k_ v a.env)).any (·.1)=D:=by lk):FE a (.Call (.Name "str" m) (h::v) [] u) (â Ki ν):=ef (kc zw p n (by decide+kernel) s.h (by decide) (by decide) q f) λw H Q j E o=>⟨j,E,ê.bind o λA y e z g d=>by
 unfold Ki at d;split at d;·rename_i x;obtain⟨b,rfl,r⟩:=fG g;cases(show b=.str x from r);exact .inr ⟨x,rfl,d _ e (.refl e) rfl⟩
 · unfold QD at d;split at d
   · rename_i i _;split at d;·rename_i k;obtain⟨b,rfl,r⟩:=fG g;cases(show b=.int i from r);exact .inl ⟨i,rfl,k,d _ e (.refl e) rfl⟩
     ·exact d.elim
   ·exact d.elim⟩
noncomputable def vO(e f:Ò):kj:=λa b=>w8 (f a) λd=>w8 (e a) λk=>match k with|.int k=>if 0<=k/\k<b.length then Z (.nx a (b.set k.toNat d))else U|_=>U
theorem S.set{K:d_}{H:Hp}{d:Q}{v:V}(k:Ô K H d v):∀{f:List Q}{b:List V}(j:Nat),S K H f b->S K H (f.set j d) (b.set j v)|[],b,j,r=>by cases(show b=[]from r);exact r|h::f,b,0,r=>by obtain⟨i,e,rfl,m,g⟩:∃v a,b=v::a/\Ô K H h v/\S K H f a:=r;exact⟨v,e,rfl,k,g⟩|h::f,b,j+1,r=>by obtain⟨i,e,rfl,m,g⟩:∃v a,b=v::a/\Ô K H h v/\S K H f a:=r;exact⟨i,e.set j v,rfl,m,S.set k j g⟩
theorem CQ(A:a.ex=[]){x:Str}{i:Pos}(hx:PE a (.Name x i) (yd b))(hi:FE a w É)(he:FE a h z)(hs:aa6 [.Subscript (.Name x i) w u] h m.line a.env=pure D:=by lk)(hw:aa7 [.Subscript (.Name x i) w u] h a.env=pure U:=by lk)(h1:(UJ [.Subscript (.Name x i) w u] a.env).map (·.2)=[W7 (.Subscript (.Name x i) w u) a.env]:=by lk)(ha:∀v,W7 (.Subscript (.Name x i) w u) a.env v=(do let N<-XA [v] (eval (.Name x i) a.env);let iv<-XA [v,N] (eval w a.env);aaS u;XA [v,N,iv] (setItem N iv v);release [v,N,iv] []):=by intro _;lk):Š a b (.Assign [.Subscript (.Name x i) w u] h m) (vO É z):=⟨λf' s σ Hf g I⟨H,e,q,p,ds,e1,c',y,E,r,o⟩=>by refine EA (ur A he.h) (KL hx (ur A hi.h) BX ha) hs hw h1 f' s σ Hf g I ⟨H,e,q,e1,c',p,E,?_⟩;unfold vO at o;match n:z p with
 |none=>rw[n]at o;exact o.elim|some (.exc _)=>rw[n]at o;exact o.elim|some (.ok d)=>rw[n]at o;match j:É p with
 |none=>dsimp only[w8]at o;rw[j]at o;exact o.elim|some (.exc _)=>dsimp only[w8]at o;rw[j]at o;exact o.elim|some (.ok k)=>
 dsimp only[w8]at o;rw[j]at o;dsimp only at o;intro v H' e' rd b';refine⟨.ref e,y,H',e,q,rfl,b',p,E.mono e',?_⟩;show ì a H' (É p) _;rw[j];intro f H2 e2 rk a';cases k<;>try exact(show False from o).elim
 rename_i k;dsimp only at o;split at o
 · rename_i hk;cases(show f=.int k from rk);have hl:=r.length;have hj:ž q.length k=Z k.toNat:=by unfold ž;rw[if_pos hk.1,if_pos (by omega)]
   refine⟨e,q,k,k.toNat,rfl,rfl,aw,hj,?_⟩;rw[ya];exact o σ H2 (q.set k.toNat v) (e'.trans e2) a' y (E.mono (e'.trans e2)) (S.set (Ô.mono e2 _ _ rd) k.toNat (S.mono (e'.trans e2) _ _ r))
 ·exact o.elim⟩
noncomputable def Ph:Ö|[.str x]=>if x.length<=640 then(match aci x with|some n=>Z (.ok (.int n))|none=>U)else U|_=>U
theorem zx:mB a (.type "int") (λb H Q=>∃x i,b=[.str x]/\x.length<=640/\aci x=Z i/\Q (.int i) H):=by intro j s f H b g Q I r h;obtain⟨x,i,rfl,e,d,q⟩:=h;obtain⟨u,rfl,t,rfl⟩:=iE r;exact PySem.W.KIN.call_text d e ⟨.int _,H,I.tok _,⟨_,rfl⟩,q⟩
theorem CS(q:Gl a "int")(k:a.mg "int"=U)(w:FA a (h::v) ν)(s:k_ (h::v) a.env=(D,eval h a.env)::k_ v a.env:=by lk)(e:(UH u (k_ v a.env)).any (·.1)=D:=by lk):FE a (.Call (.Name "int" m) (h::v) [] u) (â Ph ν):=ef (kc zx q k (by decide+kernel) w.h (by decide) (by decide) s e) λy H Q g E o=>⟨g,E,ê.bind o λI z f A i d=>by
 unfold Ph at d;split at d
 · rename_i x;split at d
   · rename_i p;split at d;·rename_i n j;obtain⟨b,rfl,r⟩:=fG i;cases(show b=.str x from r);exact⟨x,n,rfl,p,j,d _ f (.refl f) rfl⟩
     ·exact d.elim
   ·exact d.elim
 ·exact d.elim⟩
end FD
namespace ST
open PySem.SetTable
noncomputable def tm(m:Nat):SetTable:={mask:=m,place:=#[],dummies:=#[],finger:=0,led:=L,moves:=0,plain:=L}
def pos(m:Nat)(h:Int)(n:Nat):Nat:=(advN (tm m) n ((tm m).probeStart h)).j
def zy[DecidableEq δ](a:List δ)(k:δ):List δ:=if k∈a then a else k::a
def Ų[DecidableEq δ](a:List δ):List δ:=a.foldl zy []
theorem CT[DecidableEq δ](a:List δ)(k:δ):(zy a k).length<=a.length+1:=by unfold zy;split<;>simp
theorem ko{d:Type}[DecidableEq d]:∀(b a:List d),(b.foldl zy a).length<=a.length+b.length|[],a=>on _|k::b,a=>by have f:=ko b (zy a k);have e:=CT a k;rw[Xj,UB];omega
theorem Mz[DecidableEq δ](a:List δ):(Ų a).length<=a.length:=by have:=ko a [];unfold Ų;simpa using this
end ST
namespace FD
open L2
def tC(X:C)(i:Nat)(j:Ò):TS:=λa e H=>∃f,Û X.K H e f/\match j f with|none=>False|some (.exc c)=>XW X c H|some (.ok d)=>∃g,d=.lst g/\∀b p h,Ñ H b->b p=U->S X.K b g h->a.nx (e.set i (Z (.ref p))) (ß b p (.lst h))
theorem zC{m:List (Str×Nat)}{a:Q->Ev->Option Ev}{f:Option è}(i:Ev)(d:Q)(h:dc b m ν a f z i=Z (.ok d)):∃e,d=.lst e:=by
 rcases Qo h with⟨c,k,g⟩|⟨p,e,k,g,o,n,j⟩;·cases g
 ·cases j;exact⟨e,rfl⟩
def xf{a:Type}(b:a->a->Bool)(x:a):List a->List a|[]=>[x]|y::l=>if b x y then x::y::l else y::xf b x l
def gR{a:Type}(b:a->a->Bool):List a->List a|[]=>[]|x::l=>xf b x (gR b l)
theorem kq{a:Type}(b:a->a->Bool)(x:a):∀l:List a,(xf b x l).Perm (x::l)
 |[]=>.refl _|y::l=>by
  unfold xf;split;·exact .refl _
  ·exact((kq b x l).cons y).trans (acy ..)
theorem cR{a:Type}(b:a->a->Bool):∀l:List a,(gR b l).Perm l|[]=>.refl _|x::l=>(kq b x _).trans ((cR b l).cons x)
noncomputable def r9:List Q->Option (List Int)|[]=>Z []|.int i::r=>(r9 r).map (i::·)|_=>U
theorem kr(h:b<64):b<=sizeLine:=by
 have:sizeLine=16777216:=by decide
 omega
def HK:Ö|[.lst a]=>(match ki a with|some bs=>Z (.ok (.bl (bs.any id)))|none=>U)|_=>U
theorem zD:mB a (.builtin "any") (λA H Q=>∃d p bs w,A=[.ref d]/\H d=Z (.lst p)/\S a.K H w p/\ki w=Z bs/\a.calm=L/\Q (.bl (bs.any id)) H):=by
 intro f' s σ H A us Q I r h;obtain⟨d,p,bs,w,rfl,h1,h2,h3,hc,q⟩:=h;obtain⟨u,rfl,ru⟩:=iE r;cases ru;obtain⟨z,a',n,rv,hl,e⟩:=I.lstM h1;have eb:=pM h2 rv h3;subst eb;have E:s.heap.IsList d (bs.map Q_).toArray:=⟨_,e,rfl,_,rfl⟩;have y:d<s.heap.objs.size:=z_ e;refine call_any_walk (Ye E ?_);refine⟨s.heap.objs.size,[s.heap.objs.size,d],[s.heap.objs.size],(bs.map Q_).toArray.size,_,_,λi=>(bs[i]?).getD L,rfl,acq (A:=a.A.in1) (I.ok.hd hc) _ d (UI y) (bs.map Q_).toArray,⟨⟨_,w_ _ rfl,rfl,rfl⟩,E.push _⟩,λi v s' Q' E' hP hQ=>?_,λh' N hk=>?_⟩
 · have f:(bs.map Q_)[i]?=Z v:=by simpa using hP
   rw[P_]at f;cases j:bs[i]? with|none=>rw[j]at f;cases f|some b=>rw[j]at f;cases f;have k:Q' ((bs[i]?).getD L) s':=hQ;rw[j]at k;exact VX k
 · have e2:((t_ (bs.map Q_).toArray.size).any λi=>(bs[i]?).getD L)=bs.any id:=by
    rw[F_,S_];rw[VO];simp only[W3,UZ,id];constructor;·rintro⟨i,g,m⟩;simp only[I_ g,abV]at m;exact⟨_,XH g,m⟩
    ·rintro⟨b,j,m⟩;obtain⟨i,g,rfl⟩:=aaO.mp j;exact⟨i,g,by simpa[g]using m⟩
   rw[e2];exact⟨.bl (bs.any id),H,I.kept (t':=N) λb o q=>hk b o (by simp;exact UI (z_ q)) (l_ _ q),rfl,q⟩
theorem MB(w:a.calm=L)(q:Gl a "any")(p:a.mg "any"=U)(z:FA a (h::v) ν)(s:k_ (h::v) a.env=(D,eval h a.env)::k_ v a.env:=by lk)(f:(UH u (k_ v a.env)).any (·.1)=D:=by lk):FE a (.Call (.Name "any" m) (h::v) [] u) (â HK ν):=ef (ka zD q p (by decide+kernel) z.h (by decide) (by decide) s f) λN H Q i E o=>⟨i,E,ê.bind o λds vs g e1 n e=>by
 unfold HK at e;split at e
 · rename_i j;split at e;·rename_i bs y;obtain⟨d,rfl,r⟩:=fG n;obtain⟨b,k,rfl,I,A⟩:=r.lstE;exact⟨b,k,bs,j,rfl,I,A,y,w,e _ g (.refl g) rfl⟩
   ·exact e.elim
 ·exact e.elim⟩
theorem Fh{a:Option è}{b:Ò}{e:Ev}:∀f:List Q,yM a b e f=lN (gN 0) a b e f|[]=>rfl|d::f=>by unfold yM lN;rw[Fh f];rfl
theorem HL(f:List (Str×Nat))(a:á)(b:Option è)(e:Ò):du f a b e=dc 1 f a (gN 0) b e:=by funext d;show Ø (a d) _=Ø (a d) _;congr 1;funext g;rw[Fh];rfl
theorem HM(h:PS a Ε (tC a b z))(r:∀f d,z f=Z (.ok d)->∃i,d=.lst i):FS a Ε (cG b z):=⟨λu s m H e I⟨f,E,o⟩=>by refine h u s m H e I ⟨f,E,?_⟩;unfold cG at o;match g:z f with|none=>rw[g]at o;exact o.elim|some (.exc c)=>rw[g]at o;exact o|some (.ok d)=>rw[g]at o;obtain⟨i,rfl⟩:=r f d g;exact⟨i,rfl,λv p n k j q=>o _ _ (k.trans (aJ j _)) ((E.mono (k.trans (aJ j _))).set ⟨p,n,rfl,aw,S.mono (aJ j _) _ _ q⟩)⟩⟩
end FD
namespace ST
open PySem.SetTable
def Ĭ(b:n_)(w:xy)(h:N_)(S:O)(d:List Str):Prop:=∃o a f t,h.get? S=Z o/\o.ExactSet/\o.data=.set a f t/\t.fits a.size=L/\d.length<=60/\t.led=(!Ŀ w)/\(a.size≠0->t.plain=D)/\ElemsOf (U6 b w) a.toList/\(∀e∈a.toList,∃x t,e.2=.str x t)/\(a.toList.map λe=>strOf e.2).Perm d
theorem MD(t:SetTable)(n:Nat):(t.orStandIn n).led=t.led/\((t.orStandIn n).plain=t.plain\/(t.orStandIn n).plain=D):=by
 unfold SetTable.orStandIn;split;·exact⟨rfl,.inl rfl⟩
 ·exact⟨rfl,.inr rfl⟩
theorem HN(t:SetTable)(a:Array (Int×B))(h:Int)(x:B):(layNew t a h x).2.1.led=t.led:=by
 unfold layNew;split;·exact(MD _ _).1
 ·rfl
theorem CU{d:Array Int}{t:SetTable}{a:Array Nat}(e:laid b k υ E Ã d=Z (t,a)):t.led=E/\t.plain=Ã:=by unfold laid at e;cases f:act b d with|none=>rw[f]at e;cases e|some o=>rw[f]at e;cases e;exact⟨rfl,rfl⟩
theorem zE(t:SetTable)(b:Array (Int×B))(n:Nat)(d:t.plain=D):(ZO t b n).2.1.led=t.led/\(ZO t b n).2.1.plain=D:=by
 unfold ZO;split
 · rename_i h a e;obtain⟨g,f⟩:=CU e;dsimp only;split;·exact⟨g,f.trans d⟩
   ·exact⟨rfl,rfl⟩
 ·exact⟨rfl,rfl⟩
theorem zF{o:Obj}{y:Array (Int×B)}{t:SetTable}(p:N.get? e=Z o)(h:o.ExactSet)(k:o.data=.set y b t){d:Array (Int×B)}{f:SetTable}{g:List Str}(w:f.fits d.size=L)(v:g.length<=60)(u:f.led=(!Ŀ q))(n:f.plain=D)(i:ElemsOf (U6 r q) d.toList)(m:∀a∈d.toList,∃x t,a.2=.str x t)(s:(d.toList.map λa=>strOf a.2).Perm g):Ĭ r q (N.update e (WN d f)) e g:=by have j:=V3 (WN d f) p (by rw[ZP d f k];rfl);rw[ZP d f k]at j;exact⟨_,d,b+1,f,j,h,rfl,w,v,u,λ_=>n,i,m,s⟩
theorem se{l a:List (Int×B)}(p:a.Perm l)(d:∀e∈l,∃x t,e.2=V6 x t){b:List Str}(f:(l.map λe=>strOf e.2).Perm b):(∀e∈a,∃x t,e.2=V6 x t)/\(a.map λe=>strOf e.2).Perm b:=⟨λe g=>d e (p.mem_iff.mp g),(p.map _).trans f⟩
theorem Fj{g:Array (Int×B)}(h:∀e∈g.toList,∃x t,e.2=.str x t)(i:(g.toList.map λe=>strOf e.2).Perm y):(∃e∈g.toList,(U6 r q).is d e.2=L)↔d∈y:=by
 rw[<-i.mem_iff,Ux];constructor
 · rintro⟨e,b,a⟩;obtain⟨x,t,f⟩:=h e b;refine⟨e,b,?_⟩;rw[f]at a⊢;have:(x==d)=L:=by simpa[U6,WM]using a
   show x=d;simpa using this
 ·rintro⟨e,b,a⟩;obtain⟨x,t,f⟩:=h e b;refine⟨e,b,?_⟩;rw[f]at a⊢;have:x=d:=a;rw[this];simp[U6,WM]
theorem TD{w:Tok}{Q:Bool->ge->Prop}(hS:Ĭ r q f.heap e y)(hn:y.length<60)(h:∀b h',Wm e f.heap h'->Ĭ r q h' e (zy y d)->Q b {f with heap:=h'}):v_ (E_ r q) I (Z4 e (.str d w) ((U6 r q).hash d)) Q τ f:=by
 obtain⟨o,A,ep,t,ho,hex,hd,hf,p',hl,hp,d',hs,hm⟩:=id hS;have N:(U6 r q).is d (.str d w)=L:=strKind_is r q d w;have a':(V6 d w).scannable=L:=rfl;have m':A.size=y.length:=by have:=hm.length_eq;simpa using this
 have hb:A.size<scanBound:=by rw[m'];unfold scanBound;omega
 unfold Z4 aaE;refine Vm (e_ (WC ho hd hf ?_));dsimp only;rw[byScan_of a' hb d',if_pos rfl];unfold setAddByScan;refine e_ (e_ (W5 (e_ (wpAny_setScan_of N ho hd hf d' ?_))));have gv:∀(b:Bool){H:ge}{Q':Unit->ge->Prop},Q' () H->v_ (E_ r q) I (match b with|true=>rule "set.scan.the-table-gave-way"|false=>pure ()) Q' τ H:=λb _ _ z=>by
  cases b;·exact j_ z
  ·exact W5 z
 cases hr:List.findIdx? (λg=>(U6 r q).is d g.2) A.toList with|some j=>
  obtain⟨hj,pj,_⟩:=List.findIdx?_eq_some_iff_getElem.mp hr;have n':d∈y:=(Fj (r:=r) (q:=q) hs hm).mp ⟨A.toList[j],XH hj,pj⟩;dsimp only;refine j_ (j_ ?_);have g:f={f with heap:=f.heap}:=by cases f;rfl
  rw[g];refine h _ f.heap (Heap.SameBut.refl e f.heap) ?_;unfold zy;rw[if_pos n'];exact hS|none=>
  have l':d∉y:=λz=>by obtain⟨g,he,i⟩:=(Fj (r:=r) (q:=q) hs hm).mpr z;have:=List.findIdx?_eq_none_iff.mp hr g he;rw[i]at this;cases this
  dsimp only;have n:=layNew_perm t A ((U6 r q).hash d) (.str d w);have p:=layNew_fits t A ((U6 r q).hash d) (.str d w);have u:=HN t A ((U6 r q).hash d) (.str d w);generalize layNew t A ((U6 r q).hash d) (.str d w)=k at n p u⊢;obtain⟨m,t1,wd,q'⟩:=k;dsimp only at n p u⊢;rw[ZD]at n;have k':ElemsOf (U6 r q) m.toList:=(d'.push N a').perm n;have eK:zy y d=d::y:=by unfold zy;rw[if_neg l']
  obtain⟨s1,m1⟩:=se n (b:=d::y) (λg he=>by
   rcases R_.mp he with he|he;·exact hs g he
   ·rw[Uy.mp he];exact⟨d,w,rfl⟩) (by rw[Vx];exact(hm.append_right _).trans (Xw d y));have z1:m.size=y.length+1:=by have:=m1.length_eq;simpa using this
  have i':m.size<scanBound:=by rw[z1];unfold scanBound;omega
  refine e_ (gv _ ?_);have E:∀s:SetTable,s.fits m.size=L->s.led=(!Ŀ q)->s.plain=D->v_ (E_ r q) I (do
   ach e m s if(!wd&&s.tooFull)=L then do(match(ZO s m (VY m.size)).2.2 with|true=>rule "set.scan.the-table-gave-way"|false=>pure ())ach e (ZO s m (VY m.size)).1 (ZO s m (VY m.size)).2.1pure (Z L)else pure (Z L)) (λa s'=>v_ (E_ r q) I (match a with|some e'=>pure e'|none=>aaE e (.str d w) ((U6 r q).hash d) 99999) Q τ s') τ f:=by
   intro s R l2 p2;refine e_ (Yd ho hd ?_ (fits_of_scanBound i'));have S1:Ĭ r q (f.heap.update e (WN m s)) e (zy y d):=by rw[eK];exact zF ho hex hd R (by simp;omega) l2 p2 k' s1 m1
   have f':=VF f.heap e (WN m s);split
   · have v:=relayAll_perm s m (VY m.size);have c':=relayAll_fits s m (VY m.size);obtain⟨q1,q2⟩:=zE s m (VY m.size) p2;generalize ZO s m (VY m.size)=L2 at v c' q1 q2⊢;obtain⟨o',t3,g2⟩:=L2;dsimp only at v c' q1 q2⊢;obtain⟨s2,m2⟩:=se v s1 m1;have z2:o'.size=m.size:=by rw[<-Ve,v.length_eq,Ve]
     have b':=V3 (WN m s) ho (by rw[ZP m s hd];rfl);rw[ZP m s hd]at b';refine e_ (gv _ (e_ (Yd b' rfl ?_ (fits_of_scanBound (by rw[z2];exact i')))));refine j_ (j_ (h _ _ (f'.trans (VF _ e _)) ?_));rw[eK];exact zF b' hex rfl c' (by simp;omega) (q1.trans l2) q2 (k'.perm v) s2 m2
   ·exact j_ (j_ (h _ _ f' S1))
  split;·rename_i g';refine e_ ?_;rw[hashByValue_scannable 8 a'];refine j_ ?_;exact E _ (SetTable.fits_plain_off p) (u.trans hl) rfl
  ·rename_i g';refine e_ (j_ ?_);exact E _ p (u.trans hl) (by simpa using g')
theorem Ĭ.moved{b:N_}(x:Ĭ r q N e y)(f:∀o,N.get? e=Z o->b.get? e=Z o):Ĭ r q b e y:=by obtain⟨o,g,h,t,d,a⟩:=x;exact⟨o,g,h,t,f _ d,a⟩
theorem iH{R:abh->ge->Prop}{p:List O}{G:Array aaK->Array aaK->Prop}{P:Nat->B->Prop}{St:Nat->ge->Prop}(W:WalksS r q I.in1 e ο p G b P St)(S:O)(H:S∉ο)(f:Nat->Str)(a':∀i v,P i v->∃u,v=.str (f i) u)(hn:b<=59):∀(k i:Nat)(s:ge),b-i=k->i<=b->St i s->Ĭ r q s.heap S (Ų ((t_ i).map f))->(∀g,Moved (S::p) G s g->Ĭ r q g.heap S (Ų ((t_ b).map f))->R (.ok (.ret .none)) g)->Xp (E_ r q) I (.builtin "set.update.loop" ⟨[.ref S,.ref e],[]⟩) R s:=by have E:S∉p:=λh=>H (W.sub _ h);have j:∀a∈p,a∈S::p:=λa y=>rl _ y;intro k;induction k with
 |zero=>
 intro i s hk hi m hS hR;have f':i=b:=by omega
 subst f';refine Xg WX ?_;rw[WE VT _];show v_ _ I.in1 (Yg (.ref e)>>=_) _ _ s;refine e_ (W.done s _ _ m λg w=>?_);show v_ _ I.in1 (ret J_) _ _ g;exact j_ (hR g (w.mono j) (hS.moved λo ho=>w.heap S _ E ho))|succ k ih=>
 intro i s hk hi m hS hR;have A:i<b:=by omega
 refine Xg WX ?_;rw[WE VT _];show v_ _ I.in1 (Yg (.ref e)>>=_) _ _ s;refine e_ (W.item i s _ _ A m λv g hP b' w=>?_);obtain⟨u,rfl⟩:=a' i v hP;have g':Ĭ r q g.heap S (Ų ((t_ i).map f)):=hS.moved λo ho=>w.heap S _ E ho;show v_ _ I.in1 (XA [V6 (f i) u] (setAdd S (.str (f i) u))>>=_) _ _ g;refine e_ (Vm ?_);unfold setAdd;refine Vm ?_;refine e_ ((U6 r q).pyHash (strKind_is r q (f i) u) ?_);have n:Ų ((t_ (i+1)).map f)=zy (Ų ((t_ i).map f)) (f i):=by unfold Ų;rw[aar,Vx,List.foldl_append];rfl
 have i':(Ų ((t_ i).map f)).length<=i:=by have:=Mz ((t_ i).map f);simpa using this
 refine TD (f:={g with toks:=g.toks+1}) g' (by omega) λbb h' z N=>?_;rw[<-n]at N;refine j_ ⟨aa9 VT _,ih (i+1) _ (by omega) A (W.frame _ g _ _ b' (by simp) λa y o d=>?_) N λe' c' d'=>?_⟩;·rw[z.2 a (λh:a=S=>H (by rw[<-h];exact y))];exact d
 ·refine hR e' (Moved.trans W.gtrans ((w.mono j).then_heap (by simp) λa o y d=>?_) c') d';rw[z.2 a (λh:a=S=>y (by rw[h];exact pi))];exact d
end ST
namespace FD
open L2
end FD
namespace TS
def Ġ{a:Type}(M:Xq)(A:D_)(E:B->ge->Prop)(J:ge->Prop)(m:StateT δ Sem a)(Q:a->δ->Prop)(b:δ):Prop:=∀s,J s->v_ M A (m.run b) (λr d=>J d/\Q r.1 r.2) E s
variable{Ì:ge->Prop}
theorem cK{b:Type}{a:b}{Q:b->δ->Prop}(h:Q a Ë):Ġ Æ I τ Ì (pure a:StateT δ Sem b) Q Ë:=λs d=>by rw[ab8];exact j_ ⟨d,h⟩
theorem bG{g d:Type}{m:StateT δ Sem g}{f:g->StateT δ Sem d}{Q:d->δ->Prop}(h:Ġ Æ I τ Ì m (λa b=>Ġ Æ I τ Ì (f a) Q b) Ë):Ġ Æ I τ Ì (m>>=f) Q Ë:=λs k=>by rw[StateT.run_bind];exact e_ (U5 (h s k) (λr j i=>i.2 j i.1) λ_ _ e=>e)
theorem sf{d:Type}{m:StateT δ Sem d}{Q g:d->δ->Prop}(h:Ġ Æ I τ Ì m Q Ë)(j:∀a b,Q a b->g a b):Ġ Æ I τ Ì m g Ë:=λs i=>U5 (h s i) (λr _ f=>⟨f.1,j _ _ f.2⟩) λ_ _ e=>e
theorem xg{Q:δ->δ->Prop}(h:Q Ë Ë):Ġ Æ I τ Ì (get:StateT δ Sem δ) Q Ë:=λs a=>by rw[StateT.run_get];exact j_ ⟨a,h⟩
theorem l8{f:δ->δ}{Q:PUnit->δ->Prop}(h:Q ⟨⟩ (f Ë)):Ġ Æ I τ Ì (modify f:StateT δ Sem PUnit) Q Ë:=λs a=>by rw[StateT.run_modify];exact j_ ⟨a,h⟩
theorem zI{b:Type}{m:Sem b}{Q:b->δ->Prop}(h:∀s,Ì s->v_ Æ I m (λa d=>Ì d/\Q a Ë) τ s):Ġ Æ I τ Ì (liftM m:StateT δ Sem b) Q Ë:=λs f=>by show v_ Æ I ((StateT.lift m:StateT δ Sem b).run Ë) _ τ s;rw[StateT.run_lift];exact e_ (U5 (h s f) (λa d g=>j_ g) λ_ _ e=>e)
theorem ME{M:Xq}{A:D_}{E:B->ge->Prop}{J:ge->Prop}{o k:Type}(f:Nat->k->StateT o Sem (ForInStep k))(I:Nat->k->o->Prop)(Q:k->o->Prop)(b:Nat)(g:∀i c st,i<b->I i c st->Ġ M A E J (f i c) (λr d=>match r with|.done j=>Q j d|.yield j=>I (i+1) j d) st)(m:∀c st,I b c st->Q c st):∀(n a:Nat)(c:k)(st:o),a+n=b->I a c st->Ġ M A E J (acG (List.range' a n 1) c f) Q st
 |0,a,c,st,e,h=>by
  rw[List.range'_zero,Yy];have:a=b:=by omega
  subst this;exact cK (m c st h)|n+1,a,c,st,e,h=>by rw[List.range'_succ,YY];refine bG (sf (g a c st (by omega) h) λr d p=>?_);cases r with|done j=>exact cK p|yield j=>exact ME f I Q b g m n (a+1) j d (by omega) p
theorem ll{e:Type}{f:Nat->e->StateT δ Sem (ForInStep e)}(a:Nat->e->δ->Prop){Q:e->δ->Prop}(p:b<=k)(j:∀i c d,i<k->a i c d->Ġ Æ I τ Ì (f i c) (λr g=>match r with|.done m=>Q m g|.yield m=>a (i+1) m g) d)(o:∀c d,a k c d->Q c d){c:e}{d:δ}(h:a b c d):Ġ Æ I τ Ì (acG [b:k] c f) Q d:=by
 rw[Std.Legacy.Range.forIn_eq_forIn_range'];have n:([b:k]:abK).size=k-b:=by simp[Std.Legacy.Range.size]
 show Ġ Æ I τ Ì (acG (List.range' b ([b:k]:abK).size 1) c f) Q d;rw[n];exact ME f a Q k j o (k-b) b c d (by omega) h
structure Od(blt:Nat->Nat->Bool):Prop where
 ir:∀a,blt a a=D
 tr:∀a b c,blt a b=L->blt b c=L->blt a c=L
 nt:∀a b c,blt a c=L->blt a b=L\/blt b c=L
def ı(d:Nat->Nat->Bool)(a b:Nat):Prop:=d a b=L\/(d b a=D/\a<b)
variable{Η:Nat->Nat->Bool}
theorem Od.le(O:Od Η){a b c:Nat}(e:Η b a=D)(d:Η c b=D):Η c a=D:=by cases h:Η c a with|false=>rfl|true=>
 rcases O.nt _ b _ h with q|q;·rw[q]at d;cases d
 ·rw[q]at e;cases e
theorem Od.lt_le(O:Od Η){a b c:Nat}(e:Η a b=L)(d:Η c b=D):Η a c=L:=by
 rcases O.nt _ c _ e with q|q;·exact q
 ·rw[q]at d;cases d
theorem Od.le_lt(O:Od Η){a b c:Nat}(d:Η b a=D)(e:Η b c=L):Η a c=L:=by
 rcases O.nt _ a _ e with q|q;·rw[q]at d;cases d
 ·exact q
theorem Od.as(O:Od Η){a b:Nat}(h:Η a b=L):Η b a=D:=by cases d:Η b a with|false=>rfl|true=>have:=O.tr _ _ _ h d;rw[O.ir]at this;cases this
theorem ı.tr(O:Od Η){a b c:Nat}(e:ı Η a b)(d:ı Η b c):ı Η a c:=by
 rcases e with e|⟨e,f⟩
 · rcases d with d|⟨d,i2⟩;·exact .inl (O.tr _ _ _ e d)
   ·exact .inl (O.lt_le e d)
 · rcases d with d|⟨d,i2⟩;·exact .inl (O.le_lt e d)
   ·exact .inr ⟨O.le e d,by omega⟩
theorem ı.of_le(h:Η k b=D)(i:b<k):ı Η b k:=.inr ⟨h,i⟩
structure SB(a₀:Array YQ)(kd:WW)(p:Nat->Nat)(st:Wr):Prop where
 sz:(Y2 st).size=a₀.size
 at':∀k,k<a₀.size->(Y2 st)[k]?=a₀[p k]?lt:∀k,k<a₀.size->p k<a₀.size
 inj:∀a b,a<a₀.size->b<a₀.size->p a=p b->a=b
 kind:kindOf st=kd
 failed:abC st=U
 pend:ZX st=#[]
noncomputable def ģ(p:Nat->Nat)(i j k:Nat):Nat:=if i<=k/\k<j then p (i+j-1-k)else p k
noncomputable def Ŕ(p:Nat->Nat)(a b k:Nat):Nat:=if k=b then p a else if b<k/\k<=a then p (k-1)else p k
variable{Ο:Nat->Nat}
theorem SB.mirror{d:Array YQ}{h:WW}{f:Wr}(B:SB d h Ο f){i j:Nat}(o:j<=d.size):SB d h (ģ Ο i j) (setArr f (mirror (Y2 f) i j ((j-i)/2)))where
 sz:=(mirror_size _ _ _ _).trans B.sz;at':=λk g=>by
  show(PyProof.Rows.mirror (Y2 f) i j ((j-i)/2))[k]?=_;rw[getElem?_mirror_all (by rw[B.sz];exact o)];unfold ģ;split;·exact B.at' _ (by omega)
  ·exact B.at' _ g
 lt:=λk g=>by
  unfold ģ;split;·exact B.lt _ (by omega)
  ·exact B.lt _ g
 inj:=λa b n m e=>by
  unfold ģ at e;split at e<;>split at e;·have:=B.inj _ _ (by omega) (by omega) e;omega
  ·have:=B.inj _ _ (by omega) m e;omega
  ·have:=B.inj _ _ n (by omega) e;omega
  ·exact B.inj _ _ n m e
 kind:=B.kind;failed:=B.failed;pend:=B.pend
theorem SB.bubble{g:Array YQ}{m:WW}{h:Wr}(B:SB g m Ο h){d f:Nat}(i:d<g.size)(n:f<=d):SB g m (Ŕ Ο d f) (setArr h (bubble (Y2 h) d (d-f)))where
 sz:=(bubble_size _ _ _).trans B.sz;at':=λk j=>by
  show(PyProof.Rows.bubble (Y2 h) d (d-f))[k]?=_;rw[getElem?_bubble (by rw[B.sz];exact i) _ (by omega),show d-(d-f)=f by omega];unfold Ŕ;split;·exact B.at' _ i
  · split;·exact B.at' _ (by omega)
    ·exact B.at' _ j
 lt:=λk j=>by
  unfold Ŕ;split;·exact B.lt _ i
  · split;·exact B.lt _ (by omega)
    ·exact B.lt _ j
 inj:=λa b p o e=>by
  unfold Ŕ at e;repeat' split at e
  all_goals first|omega|(have:=B.inj _ _ (by omega) (by omega) e;omega)
 kind:=B.kind;failed:=B.failed;pend:=B.pend
def Cm(M:Xq)(A:D_)(J:ge->Prop)(a:Array YQ)(f:WW)(d:Nat->Nat->Bool):Prop:=∀(i j:Nat)(x y:YQ)(s:ge)(g:B->ge->Prop),a[i]?=Z x->a[j]?=Z y->J s->v_ M A (keyLt' f x.1 y.1) (λb e=>J e/\b=d i j) g s
theorem MF{f:Array YQ}{m:WW}{g:Wr}{Q:Option Bool->Wr->Prop}(C:Cm Æ I Ì f m Η)(a:SB f m Ο g)(j:b<f.size)(i:k<f.size)(h:Q (Z (Η (Ο b) (Ο k))) g):Ġ Æ I τ Ì (ltAt' b k) Q g:=by
 have r:(Y2 g)[b]?=Z (f[Ο b]'(a.lt b j)):=by rw[a.at' b j];simp[a.lt b j]
 have q:(Y2 g)[k]?=Z (f[Ο k]'(a.lt k i)):=by rw[a.at' k i];simp[a.lt k i]
 rw[ltAt'_eq];refine bG (xg ?_);show Ġ Æ I τ Ì (do let x<-elem' (Y2 g) b;let y<-elem' (Y2 g) k;lt' x y) Q g;rw[elem'_eq,elem'_eq,r,q];refine bG (cK (bG (cK ?_)));rw[lt'_eq];refine bG (xg ?_);rw[a.kind];refine bG (zI λs n=>XR (U5 (C (Ο b) (Ο k) _ _ s _ (by simp[a.lt b j]) (by simp[a.lt k i]) n) (λd u p=>?_) λ_ _ e=>e));obtain⟨o,rfl⟩:=p;exact⟨o,cK h⟩
theorem CV{a:Wr}{Q:Unit->Wr->Prop}(h:Q () (setArr a (mirror (Y2 a) b k ((k-b)/2)))):Ġ Æ I τ Ì (reverseSlice' b k) Q a:=by rw[reverseSlice'_eq];exact l8 h
structure Up(blt:Nat->Nat->Bool)(p:Nat->Nat)(n N:Nat):Prop where
 so:∀a b,a<b->b<n->ı blt (p a) (p b)lo:∀a,a<n->p a<n
 re:∀a,n<=a->a<N->p a=a
theorem Up.next(O:Od Η){n N:Nat}(d:Up Η Ο n N)(q:1<=n)(m:n<N)(h:Η (Ο n) (Ο (n-1))=D):Up Η Ο (n+1) N where
 so:=λa b k p=>by
  by_cases g:b<n;·exact d.so a b k g
  · have i:b=n:=by omega
    subst i;have e:ı Η (Ο (b-1)) (Ο b):=.of_le h (by rw[d.re b (on _) m];exact d.lo _ (by omega));by_cases f:a=b-1;·subst f;exact e
    ·exact(d.so a (b-1) (by omega) (by omega)).tr O e
 lo:=λa f=>by
  by_cases j:a<n;·have:=d.lo a j;omega
  · have:a=n:=by omega
    subst this;rw[d.re a (on _) m];omega
 re:=λa f o=>d.re a (by omega) o
theorem MG{e:Array YQ}{o:WW}{i:Wr}{Q:AscSt->Wr->Prop}(O:Od Η)(C:Cm Æ I Ì e o Η)(d:SB e o Ο i)(s:1<=b)(m:b<=k)(r:k<=e.size)(a:Up Η Ο b e.size)(h:∀n,b<=n->n<=k->Up Η Ο n e.size->(n=k\/Η (Ο n) (Ο (n-1))=L)->Q (U,n) i):Ġ Æ I τ Ì (ascLoop b k) Q i:=by
 unfold ascLoop;refine ll (a:=λx c f=>f=i/\c=(U,x)/\b<=x/\Up Η Ο x e.size) m ?_ ?_ ⟨rfl,rfl,on _,a⟩;·rintro x c f q⟨rfl,rfl,g,j⟩;dsimp only;refine bG (MF C d (by omega) (by omega) ?_);cases p:Η (Ο x) (Ο (x-1))with|true=>simp only[if_true];exact cK (h x g (by omega) j (.inr p))|false=>simp only[x_,if_false];exact cK ⟨rfl,rfl,by omega,j.next O (by omega) (by omega) p⟩
 ·rintro c f⟨rfl,rfl,g,j⟩;exact h k g (on _) j (.inl rfl)
structure Dn(blt:Nat->Nat->Bool)(p:Nat->Nat)(n N:Nat):Prop where
 so:∀a b,a<b->b<n->ı blt (p b) (p a)lo:∀a,a<n->p a<n
 re:∀a,n<=a->a<N->p a=a
structure Dq(blt:Nat->Nat->Bool)(p:Nat->Nat)(c n N:Nat):Prop where
 cn:c<n
 d1:∀a b,a<b->b<c->ı blt (p b) (p a)d2:∀a b,a<c->c<=b->b<n->blt (p b) (p a)=L
 d3:∀a b,c<=a->a<b->b<n->blt (p a) (p b)=D/\blt (p b) (p a)=D/\p a<p b
 lo:∀a,a<n->p a<n
 re:∀a,n<=a->a<N->p a=a
theorem Dq.turn(d:Dq Η Ο b k υ):Dn Η (ģ Ο b k) k υ where
 so:=λa e i j=>by
  unfold ģ;by_cases g:b<=e
  · rw[if_pos ⟨g,j⟩];by_cases h:b<=a;·rw[if_pos ⟨h,by omega⟩];have:=d.d3 (b+k-1-e) (b+k-1-a) (by omega) (by omega) (by omega);exact .inr ⟨this.2.1,this.2.2⟩
    ·rw[if_neg (by omega)];exact .inl (d.d2 a _ (by omega) (by omega) (by omega))
  ·rw[if_neg (by omega),if_neg (by omega)];exact d.d1 a e i (by omega)
 lo:=λa f=>by
  unfold ģ;split;·exact d.lo _ (by omega)
  ·exact d.lo _ f
 re:=λa f m=>by unfold ģ;rw[if_neg (by omega)];exact d.re a f m
theorem Dq.one(d:Dq Η Ο (b-1) b k):Dn Η Ο b k where
 so:=λa e g h=>by
  by_cases f:e<b-1;·exact d.d1 a e g f
  ·exact .inl (d.d2 a e (by omega) (by omega) h)
 lo:=d.lo;re:=d.re
theorem Dn.turn(d:Dn Η Ο b k):Up Η (ģ Ο 0 b) b k where
 so:=λa e i g=>by unfold ģ;rw[if_pos ⟨UQ _,by omega⟩,if_pos ⟨UQ _,g⟩];exact d.so _ _ (by omega) (by omega)
 lo:=λa f=>by unfold ģ;rw[if_pos ⟨UQ _,f⟩];exact d.lo _ (by omega)
 re:=λa f h=>by unfold ģ;rw[if_neg (by omega)];exact d.re a f h
theorem Dn.next(O:Od Η){n N:Nat}(d:Dn Η Ο n N)(p:1<=n)(i:n<N)(h:Η (Ο n) (Ο (n-1))=L):Dq Η Ο n (n+1) N where
 cn:=by omega
 d1:=d.so;d2:=λa b f j m=>by
  have:b=n:=by omega
  subst this;by_cases e:a=b-1;·subst e;exact h
  · rcases d.so a (b-1) (by omega) (by omega)with q|⟨q,_⟩;·exact O.tr _ _ _ h q
    ·exact O.lt_le h q
 d3:=λa b f o j=>by omega
 lo:=λa f=>by
  by_cases g:a<n;·have:=d.lo a g;omega
  · have:a=n:=by omega
    subst this;rw[d.re a (on _) i];omega
 re:=λa f k=>d.re a (by omega) k
theorem Dq.next(O:Od Η){c n N:Nat}(d:Dq Η Ο c n N)(m:n<N)(p:Η (Ο n) (Ο (n-1))=D)(i:Η (Ο (n-1)) (Ο n)=D):Dq Η Ο c (n+1) N where
 cn:=by have:=d.cn;omega
 d1:=d.d1;d2:=λa b f o u=>by
  by_cases g:b<n;·exact d.d2 a b f o g
  · have:b=n:=by omega
    subst this;exact O.le_lt i (d.d2 a (b-1) f (by have:=d.cn;omega) (by omega))
 d3:=λa b f k o=>by
  by_cases g:b<n;·exact d.d3 a b f k g
  · have:b=n:=by omega
    subst this;have h:Ο a<Ο b:=by have:=d.lo a (by omega);rw[d.re b (on _) m];exact this
    by_cases e:a=b-1;·subst e;exact⟨i,p,h⟩
    ·obtain⟨r,q,_⟩:=d.d3 a (b-1) f (by omega) (by omega);exact⟨O.le i r,O.le q p,h⟩
 lo:=λa f=>by
  by_cases j:a<n;·have:=d.lo a j;omega
  · have:a=n:=by omega
    subst this;rw[d.re a (on _) m];omega
 re:=λa f s=>d.re a (by omega) s
theorem zJ{f:Array YQ}{i:WW}{o:Wr}{Q:Option Nat->Wr->Prop}(O:Od Η)(C:Cm Æ I Ì f i Η)(e:SB f i Ο o)(s:1<=b)(j:b<=k)(r:k<=f.size)(d:Dn Η Ο b f.size)(h:∀m p g,SB f i p g->1<=m->m<=k->Up Η p m f.size->Q (Z m) g):Ġ Æ I τ Ì (tail3 b k) Q o:=by unfold tail3;refine bG (CV ?_);have q:=e.mirror (i:=0) (j:=b) (by omega);exact bG (MG O C q s j r d.turn λm u n a _=>cK (h m _ _ q (by omega) n a))
theorem MH{g:Array YQ}{r:WW}{w:Wr}{Q:DescSt->Wr->Prop}(O:Od Η)(C:Cm Æ I Ì g r Η)(d:SB g r Ο w)(h1:2<=b)(v:b<=k)(hn:k<=g.size)(a:Dq Η Ο (b-1) b g.size)(h:∀m f i j,SB g r i j->b<=m->m<=k->f+1<=m->Dq Η i (m-(f+1)) m g.size->Q (U,m,f) j):Ġ Æ I τ Ì (descLoop b k) Q w:=by
 unfold descLoop;refine ll (a:=λx c j=>∃f i,c=(U,x,f)/\SB g r i j/\b<=x/\f+1<=x/\Dq Η i (x-(f+1)) x g.size) v ?_ ?_ ⟨0,Ο,rfl,d,on _,by omega,a⟩;·rintro x c j N⟨f,i,rfl,o,q,u,n⟩;dsimp only;refine bG (MF C o (by omega) (by omega) ?_);cases s:Η (i x) (i (x-1))with
 |true=>
 simp only[if_true];by_cases p:f>0
 · rw[if_pos p];refine bG (CV (cK ?_));have H:=o.mirror (i:=x-(f+1)) (j:=x) (by omega);refine⟨0,_,rfl,H,by omega,by omega,?_⟩;have E:=n.turn;have hc:=n.cn;refine E.next O (by omega) (by omega) ?_;have A:ģ i (x-(f+1)) x x=i x:=by unfold ģ;rw[if_neg (by omega)]
   have z:ģ i (x-(f+1)) x (x-1)=i (x-(f+1)):=by unfold ģ;rw[if_pos (by omega)];congr 1;omega
   rw[A,z];by_cases e:x-(f+1)=x-1;·rw[e];exact s
   ·exact O.lt_le s (n.d3 (x-(f+1)) (x-1) (on _) (by omega) (by omega)).1
 · rw[if_neg p];have e:f=0:=by omega
   subst e;exact cK ⟨0,i,rfl,o,by omega,by omega,n.one.next O (by omega) (by omega) s⟩|false=>simp only[x_,if_false];refine bG (MF C o (by omega) (by omega) ?_);cases y:Η (i (x-1)) (i x)with|true=>simp only[if_true];exact cK (h x f i j o q (by omega) u n)|false=>simp only[x_,if_false];refine cK ⟨f+1,i,rfl,o,by omega,by omega,?_⟩;have:=n.next O (by omega) s y;rwa[show x+1-(f+1+1)=x-(f+1)by omega]
 ·rintro c j⟨f,i,rfl,o,q,u,n⟩;exact h k f i j o q (on _) u n
theorem oN{f:Array YQ}{p:WW}{u:Wr}{Q:Option Nat->Wr->Prop}(O:Od Η)(C:Cm Æ I Ì f p Η)(d:SB f p Ο u)(E:1<=b)(r:b+1<=k)(q:k<=f.size)(a:Dq Η Ο b (b+1) f.size)(h:∀m o i,SB f p o i->1<=m->m<=k->Up Η o m f.size->Q (Z m) i):Ġ Æ I τ Ì (descPart b k) Q u:=by
 unfold descPart;refine bG (zI λs y=>W5 ⟨y,?_⟩);refine bG (MH O C d (by omega) r q a λm j o i w z n A v=>?_);dsimp only;by_cases g:j>0;·rw[if_pos g];exact bG (CV (zJ O C (w.mirror (by omega)) (by omega) n q v.turn h))
 · rw[if_neg g];have e:j=0:=by omega
   subst e;exact zJ O C w (by omega) n q v.one h
theorem HP{j:Array YQ}{N:WW}{H:Wr}{Q:Option Nat->Wr->Prop}(O:Od Η)(C:Cm Æ I Ì j N Η)(g:SB j N Ο H)(h1:1<=b)(hn:b<=j.size)(r:∀k,k<j.size->Ο k=k)(h:∀m p' u,SB j N p' u->1<=m->m<=b->Up Η p' m j.size->Q (Z m) u):Ġ Æ I τ Ì (countRun' 0 b) Q H:=by
 rw[countRun0_eq];refine bG (MG O C g (on 1) h1 hn ⟨λa d A s=>by omega,λa o=>by rw[r a (by omega)];exact o,λa _ hN=>r a hN⟩ λn w v f c'=>?_);dsimp only;by_cases p:n=b;·rw[if_pos (by simpa using p)];exact cK (h n Ο H g w v f)
 · rw[if_neg (by simpa using p)];have y:Η (Ο n) (Ο (n-1))=L:=c'.resolve_left p;by_cases z:n>1;·rw[if_pos z];refine bG (MF C g (by omega) (by omega) ?_);cases hr:Η (Ο 0) (Ο (n-1))with|true=>simp only[if_true];exact cK (h n Ο H g w v f)|false=>
     simp only[x_,if_false];have B':=g.mirror (i:=0) (j:=n) (by omega);have b':∀a,a<n->Η (Ο a) (Ο 0)=D:=λa o=>by
      by_cases e:a=0;·subst e;exact O.ir _
      · rcases f.so 0 a (by omega) o with q|q;·exact O.as q
        ·exact q.1
     have a':∀a,a<n->Η (Ο (n-1)) (Ο a)=D:=λa o=>by
      by_cases e:a=n-1;·subst e;exact O.ir _
      · rcases f.so a (n-1) (by omega) (by omega)with q|q;·exact O.as q
        ·exact q.1
     have eq:∀a d,a<n->d<n->Η (Ο a) (Ο d)=D:=λa d o s=>O.le (a' d s) (O.le hr (b' a o));have i:Dq Η (ģ Ο 0 n) n (n+1) j.size:=by
      have Dm:Dn Η (ģ Ο 0 n) n j.size:=⟨λa d A s=>by unfold ģ;rw[if_pos ⟨UQ _,s⟩,if_pos ⟨UQ _,by omega⟩];refine .of_le (eq _ _ (by omega) (by omega)) ?_;rw[r _ (by omega),r _ (by omega)];omega,λa o=>by unfold ģ;rw[if_pos ⟨UQ _,o⟩,r _ (by omega)];omega,λa o hN=>by unfold ģ;rw[if_neg (by omega),r _ hN]⟩;refine Dm.next O (by omega) (by omega) ?_;have e1:ģ Ο 0 n n=Ο n:=by unfold ģ;rw[if_neg (by omega)]
      have e2:ģ Ο 0 n (n-1)=Ο 0:=by unfold ģ;rw[if_pos (by omega)];congr 1;omega
      rw[e1,e2];exact O.lt_le y (eq 0 (n-1) (by omega) (by omega))
     exact bG (CV (oN O C B' (by omega) (by omega) hn i h))
   · rw[if_neg z];have E:n=1:=by omega
     subst E;refine oN O C g (by omega) (by omega) hn ?_ h;have Dm:Dn Η Ο 1 j.size:=⟨λa d A s=>by omega,f.lo,f.re⟩;exact Dm.next O (by omega) (by omega) y
theorem QN{m:Array YQ}{A:WW}{st:Wr}{Q:Bool->Wr->Prop}(O:Od Η)(C:Cm Æ I Ì m A Η)(j:SB m A Ο st)(i':1<=k)(a':k<=b)(hn:b<=m.size)(g:Up Η Ο k m.size)(h:∀n p,SB m A n p->Up Η n b m.size->Q L p):Ġ Æ I τ Ì (binarySort' 0 b k) Q st:=by
 rw[binarySort'_eq];simp only[Xd];rw[show max k 1=k by omega];refine bG (sf (ll (a:=λd c p=>∃n,c=(U,())/\k<=d/\SB m A n p/\Up Η n d m.size) (Q:=λc p=>∃n,c=(U,())/\SB m A n p/\Up Η n b m.size) a' ?_ ?_ ⟨Ο,rfl,on _,j,g⟩) ?_)
 · rintro d c p hk⟨n,rfl,h',z,u⟩;have E:n d=d:=u.re d (on _) (by omega);refine bG (sf (ll (a:=λx c s=>s=p/\∃l r,c=(U,l,r)/\l<=r/\r<=d/\r-l<=d-x/\(∀i,i<l->Η (n d) (n i)=D)/\(∀i,r<=i->i<d->Η (n d) (n i)=L)) (Q:=λc s=>s=p/\∃l r,c=(U,l,r)/\l<=d/\(∀i,i<l->Η (n d) (n i)=D)/\(∀i,l<=i->i<d->Η (n d) (n i)=L)) (UQ d) ?_ ?_ ⟨rfl,0,d,rfl,by omega,by omega,by omega,λi hi=>by omega,λi h1 h2=>by omega⟩) ?_)
   · rintro x c s hx⟨rfl,l,r,rfl,b',y,hm,v,w⟩;dsimp only;by_cases H:l>=r
     · rw[if_pos H];have:l=r:=by omega
       subst this;exact cK ⟨rfl,l,l,rfl,y,v,w⟩
     ·rw[if_neg H];refine bG (MF C z (by omega) (by omega) ?_);cases o:Η (n d) (n ((l+r)/2))with
       |true=>
        simp only[if_true];refine cK ⟨rfl,l,(l+r)/2,rfl,by omega,by omega,by omega,v,λi i1 i2=>?_⟩;by_cases e:i=(l+r)/2;·subst e;exact o
        · rcases u.so ((l+r)/2) i (by omega) i2 with q|q;·exact O.tr _ _ _ o q
          ·exact O.lt_le o q.1|false=>
        simp only[x_,if_false];refine cK ⟨rfl,(l+r)/2+1,r,rfl,by omega,by omega,by omega,λi i1=>?_,w⟩;by_cases e:i=(l+r)/2;·subst e;exact o
        · rcases u.so i ((l+r)/2) (by omega) (by omega)with q|q;·exact O.le (O.as q) o
          ·exact O.le q.1 o
   · rintro c s⟨rfl,l,r,rfl,b',y,hm,v,w⟩;have:l=r:=by omega
     subst this;exact⟨rfl,l,l,rfl,y,v,w⟩
   · rintro c s⟨rfl,l,r,rfl,c',v,w⟩;show Ġ Æ I τ Ì (do moveDown' d l;pure (YZ (U,()))) _ _;rw[moveDown'_eq];refine bG (l8 (cK ⟨Ŕ n d l,rfl,by omega,z.bubble (by omega) c',?_⟩));refine⟨λa f N hb=>?_,λa ha=>?_,λa ha hN=>?_⟩
     · have c1:Ŕ n d l l=n d:=by unfold Ŕ;rw[if_pos rfl]
       have c2:∀x,l<x->x<=d->Ŕ n d l x=n (x-1):=λx h1 h2=>by unfold Ŕ;rw[if_neg (by omega),if_pos ⟨h1,h2⟩]
       have c3:∀x,x<l->Ŕ n d l x=n x:=λx h1=>by unfold Ŕ;rw[if_neg (by omega),if_neg (by omega)]
       by_cases d':f=l;·subst d';rw[c1,c3 a N];exact .of_le (v a (by omega)) (by rw[E];exact u.lo a (by omega))
       · by_cases e':l<f
         · rw[c2 f e' (by omega)];by_cases f':a=l;·subst f';rw[c1];exact .inl (w (f-1) (by omega) (by omega))
           · by_cases g':l<a;·rw[c2 a g' (by omega)];exact u.so (a-1) (f-1) (by omega) (by omega)
             ·rw[c3 a (by omega)];exact u.so a (f-1) (by omega) (by omega)
         ·rw[c3 a (by omega),c3 f (by omega)];exact u.so a f N (by omega)
     · unfold Ŕ;split;·rw[E];omega
       · split;·have:=u.lo (a-1) (by omega);omega
         ·have:=u.lo a (by omega);omega
     ·unfold Ŕ;rw[if_neg (by omega),if_neg (by omega)];exact u.re a (by omega) hN
 ·rintro c p⟨n,rfl,_,z,u⟩;exact⟨n,rfl,z,u⟩
 ·rintro c p⟨n,rfl,z,u⟩;exact cK (h n p z u)
structure QO(a₀:Array YQ)(blt:Nat->Nat->Bool)(p:Nat->Nat)(xs:Array YQ):Prop where
 sz:xs.size=a₀.size
 at':∀k,k<a₀.size->xs[k]?=a₀[p k]?lt:∀k,k<a₀.size->p k<a₀.size
 inj:∀a b,a<a₀.size->b<a₀.size->p a=p b->a=b
 so:∀a b,a<b->b<a₀.size->ı blt (p a) (p b)
def Dne(a:Array YQ)(d:Nat->Nat->Bool)(b:Wr):Prop:=∃p,QO a d p (Y2 b)/\abC b=U/\ZX b=#[(0,a.size,0)]
theorem SB.done{b:Array YQ}{e:WW}{d:Wr}(B:SB b e Ο d)(a:Up Η Ο b.size b.size):Dne b Η (setPending d ((ZX d).push (0,b.size,0))):=⟨Ο,⟨B.sz,B.at',B.lt,B.inj,a.so⟩,B.failed,by show(ZX d).push _=_;rw[B.pend];rfl⟩
theorem MI{d:Array YQ}{j:WW}{y:Wr}{Q:Unit->Wr->Prop}(O:Od Η)(C:Cm Æ I Ì d j Η)(b:SB d j Ο y)(hp:∀k,k<d.size->Ο k=k)(h2:2<=d.size)(w:d.size<64)(h:∀H e,QO d Η H (Y2 e)->abC e=U->Q () e):Ġ Æ I τ Ì sortRuns' Q y:=by
 rw[sortRuns'_eq];refine bG (xg ?_);dsimp only;have r:minRun' d.size d.size 0=d.size:=by
  obtain⟨f,hf⟩:∃f,d.size=f+1:=⟨d.size-1,by omega⟩;have:minRun' (f+1) d.size 0=d.size:=by rw[minRun'_succ,if_pos w];rfl
  rwa[<-hf]at this
 simp only[b.sz,r];refine bG (sf (ll (a:=λx c e=>(x=0/\c=(U,0)/\SB d j Ο e)\/(1<=x/\c=(U,d.size)/\Dne d Η e)) (Q:=λc e=>c=(U,d.size)/\Dne d Η e) (UQ _) ?_ ?_ (.inl ⟨rfl,rfl,b⟩)) ?_)
 · rintro x c e N(⟨rfl,rfl,B'⟩|⟨a',rfl,a⟩)
   · dsimp only;rw[if_neg (by omega)];simp only[Nat.sub_zero,Nat.min_self,Xd];refine bG (HP O C B' (by omega) (on _) hp λm p2 q o v u z=>?_);dsimp only;by_cases i:m<d.size
     · rw[if_pos i];refine bG (zI λs hs=>W5 ⟨hs,?_⟩);refine bG (QN O C o v u (on _) z λp3 p A U3=>?_);simp only[XV,x_,if_false];refine bG (xg ?_);have n:(ZX p).back?=U:=by rw[A.pend];rfl
       rw[n];dsimp only;exact bG (l8 (cK (.inr ⟨by omega,rfl,A.done U3⟩)))
     · rw[if_neg i];have hm:m=d.size:=by omega
       subst hm;refine bG (xg ?_);have n:(ZX q).back?=U:=by rw[o.pend];rfl
       rw[n];dsimp only;exact bG (l8 (cK (.inr ⟨by omega,rfl,o.done z⟩)))
   ·dsimp only;rw[if_pos (on _)];exact cK ⟨rfl,a⟩
 · rintro c e(⟨N,_,_⟩|⟨_,hc,a⟩);·omega
   ·exact⟨hc,a⟩
 · rintro c e⟨rfl,E,D1,D2,D3⟩;dsimp only;refine bG (sf (ll (a:=λ_ c g=>g=e/\c=(U,())) (Q:=λc g=>g=e/\c=(U,())) (UQ _) ?_ (λ_ _ hh=>hh) ⟨rfl,rfl⟩) ?_);·rintro x c g _⟨rfl,rfl⟩;refine bG (xg ?_);rw[if_pos (by rw[D3];exact on 1)];exact cK ⟨rfl,rfl⟩
   ·rintro c g⟨rfl,rfl⟩;exact cK (h E _ D1 D2)
def JT(s:ge)(H:N_):ge->Prop:=λb=>∃a,s.toks<=a/\b={s with heap:=H,toks:=a}
open L2
theorem xh(b:Bool)(x y:B):keyLt' (tuples' b) x y=(do
 let d<-Yp x;let a<-Yp y
 for((p,q),i)in(d.toList.zip a.toList).zipIdx do if !(<-eqBool p q)then return<-oneLt' (b&&i==0) p q
 return s_ (d.size<a.size)):=rfl
theorem xi(v:B):firstOfTuple' v=(do
 if(<-acg v)!=.type "tuple"then return U
 return(<-Yp v)[0]?):=rfl
def oO(h:N_)(A:D_)(z:Bool)(p q:B)(e l:Bool):Prop:=∀(a:n_)(w:xy)(E:B->ge->Prop)(s:ge),s.heap=h->(∀Q:Bool->ge->Prop,Q e s->v_ (E_ a w) A (eqBool p q) Q E s)/\(∀(b:Bool)(Q:Bool->ge->Prop),(b=L->z=L)->Q l s->v_ (E_ a w) A (oneLt' b p q) Q E s)
theorem sg(x:Bool){M:Xq}{A:D_}{E:B->ge->Prop}{s:ge}{Q:Bool->ge->Prop}(h:Q x s):v_ M A (truthOfDropped (.bool x)) Q E s:=VX h
theorem vP(e:N_)(A:D_)(z:Bool)(a b:Str)(t u:Tok):oO e A z (.str a t) (.str b u) (s_ (a=b)) (s_ (a.cps.toList<b.cps.toList)):=λd w E s _=>⟨λQ h=>wpAny_eqBool_str h,λf Q _ h=>by cases f with|true=>exact oneLt_str h|false=>rw[aaV];simp only[x_,if_false];exact e_ (aaZ (sg _ h):v_ (E_ d w) A (UN .Lt (.str a t) (.str b u)) _ E s)⟩
theorem vQ(e:N_)(A:D_)(z:Bool)(a b:Int)(t u:Tok):oO e A z (.int a t) (.int b u) (a==b) (s_ (a<b)):=λd w E s _=>⟨λQ h=>wpAny_eqBool_int h,λf Q _ h=>by cases f with|true=>exact oneLt_int h|false=>rw[aaV];simp only[x_,if_false];exact e_ (PyProof.Rows.lt_int (sg _ h):v_ (E_ d w) A (UN .Lt (.int a t) (.int b u)) _ E s)⟩
theorem HQ(e:N_)(A:D_)(z:Bool)(a b:Bool):oO e A z (.bool a) (.bool b) (a==b) (s_ (b2i a<b2i b)):=λd w E s _=>⟨λQ h=>aaH a b d w E Q h,λf Q _ h=>by cases f with|true=>rw[aaV];simp only[if_true];refine e_ (wpAny_cRoomFor_byValue rfl ?_);refine e_ (wpAny_callSpecialIfBound?_slot (abB s a) F.slot_bool_lt (call_gives F.slot_bool_lt (abB s a) F.entry_int_lt (F.args_int_lt_2 _ _) (gives_int_lt_bools a b) ?_));exact sg _ h|false=>rw[aaV];simp only[x_,if_false];exact e_ (PyProof.Rows.lt_bool (sg _ h):v_ (E_ d w) A (UN .Lt (.bool a) (.bool b)) _ E s)⟩
noncomputable def dI:List (Bool×Bool)->Option Bool|[]=>U|(L,_)::r=>dI r|(D,l)::_=>Z l
theorem gq(k l:Bool)(a:List (Bool×Bool)):(dI ((k,l)::a)).getD D=if k=L then(dI a).getD D else l:=by cases k<;>rfl
inductive sh(h:N_)(A:D_):Bool->List (B×B)->List (Bool×Bool)->Prop|nil{z:Bool}:sh h A z [] []|cons{z:Bool}{p q:B}{e l:Bool}{ps:List (B×B)}{rs:List (Bool×Bool)}:oO h A z p q e l->sh h A D ps rs->sh h A z ((p,q)::ps) ((e,l)::rs)
theorem zK{a:n_}{w:xy}{A:D_}{E:B->ge->Prop}{s:ge}(b:Bool){R:Option Bool×Unit->ge->Prop}:∀{z:Bool}{l:List (B×B)}{d:List (Bool×Bool)}(k:Nat),sh s.heap A z l d->(k=0->z=L)->R (dI d,()) s->v_ (E_ a w) A (acG (l.zipIdx k) ((U,()):Option Bool×Unit) λx __s=>match x with|((p,q),i)=>do
 let __do_lift<-eqBool p q if(!__do_lift)=L then do
 let __do_lift<-oneLt' (b&&i==0) p q
 pure (ForInStep.done (Z __do_lift,()))else pure (YZ (U,()))) R E s
 |_,_,_,k,.nil,_,h=>by rw[aaq,Yy];exact j_ h|_,_,_,k,.cons (p:=p) (q:=q) (e:=e) (l:=l) i r,g,h=>by rw[Z0,YY];refine e_ ?_;dsimp only;refine e_ ((i a w E s rfl).1 _ ?_);cases e with|true=>simp only[XV,x_,if_false];exact j_ (zK b (k+1) r (λz=>absurd z (Nat.succ_ne_zero k)) h)|false=>simp only[YA,if_true];exact e_ ((i a w E s rfl).2 _ _ (λf=>g (by simp at f;exact f.2)) (j_ (j_ h)))
theorem zL(b:Bool){a c:O}{g e:Array B}{i:List (Bool×Bool)}{Q:Bool->ge->Prop}(n:f.heap.IsTuple a g)(m:f.heap.IsTuple c e)(k:sh f.heap I L (g.toList.zip e.toList) i)(h:Q ((dI i).getD (s_ (g.size<e.size))) f):v_ (E_ r q) I (keyLt' (tuples' b) (.ref a) (.ref c)) Q τ f:=by rw[xh];obtain⟨w,p,_,z,u⟩:=n;obtain⟨v,o,_,y,s⟩:=m;refine e_ (Y9 p u (e_ (Y9 o s ?_)));refine e_ (zK b 0 k (λ_=>rfl) ?_);dsimp only;cases j:dI i with|none=>rw[j]at h;exact j_ h|some d=>rw[j]at h;exact j_ h
inductive mQ(h:N_):List B->List B->Prop|nil:mQ h [] []|cons{a:O}{xs:Array B}{f:B}{vs fs:List B}:h.IsTuple a xs->xs[0]?=Z f->mQ h vs fs->mQ h (.ref a::vs) (f::fs)
theorem si{a:n_}{w:xy}{A:D_}{E:B->ge->Prop}{s:ge}{R:List (Option B)->ge->Prop}:∀{b:List B}{fs:List B},mQ s.heap b fs->R (fs.map Z) s->v_ (E_ a w) A (b.mapM firstOfTuple') R E s|_,_,.nil,h=>by rw[List.mapM_nil];exact j_ h|_,_,.cons f e r,h=>by rw[List.mapM_cons,xi];obtain⟨o,g,c,n,d⟩:=f;refine e_ (e_ (Yc (T:="tuple") ⟨o,g,c⟩ ?_));rw[if_neg (by decide)];refine e_ (Y9 g d (j_ ?_));rw[e];refine e_ (si r ?_);exact j_ h
def MJ(p q:B)(e l:Bool):Prop:=∀(a:n_)(w:xy)(A:D_)(E:B->ge->Prop)(s:ge),(∀Q:Bool->ge->Prop,Q e s->v_ (E_ a w) A (eqBool p q) Q E s)/\(∀Q:B->ge->Prop,Q (.bool l) s->v_ (E_ a w) A (richCompare .Lt p q) Q E s)
inductive oP:List (B×B)->List (Bool×Bool)->Prop|nil:oP [] []|cons{p q:B}{e l:Bool}{ps:List (B×B)}{rs:List (Bool×Bool)}:MJ p q e l->oP ps rs->oP ((p,q)::ps) ((e,l)::rs)
section
open PySem.SeqAt
open PySem.AutoSeq1(wpAny_loadPart')
open PySem.MeetsSeq PySem.MeetsSeq2 PySem.MeetsSeq3
theorem zM(l b:O)(j f:Array B)(n n2:Nat)(dd N:Option O)(sl H:Array (Option B))(v:List (Bool×Bool))(hi:oP (j.toList.zip f.toList) v)(hz:j.size=f.size):Meets (WR.«tuple.__lt__» ⟨[.ref l,.ref b],[]⟩) (λ_ a s=>s.heap.get? l=Z {cls:=.type "tuple",dict:=dd,data:=.seq j n,slots:=sl}/\s.heap.get? b=Z {cls:=.type "tuple",dict:=N,data:=.seq f n2,slots:=H}/\a (.ok (.ret (.bool ((dI v).getD D)))) s):=.of_wp λm w A a s h=>by
 obtain⟨z,g,d,u,os⟩:=s;obtain⟨hl,hb,h⟩:=h;have R:=ZK;wp_walk using YS hl,YS hb,Xz _ (λrest b p=>b.1=U/\p=⟨z,g,d,u,os⟩/\∃k,oP rest k/\a (.ok (.ret (.bool ((dI k).getD D)))) ⟨z,g,d,u,os⟩) _;case turn=>rintro⟨y,x⟩rest b p⟨o,rfl,k,E,q⟩;cases E with|cons i r=>rename_i e lw a';rw[gq]at q;refine e_ ((i m w _ _ _).1 _ ?_);cases e with|true=>wp_walk;exact⟨rfl,rfl,_,r,by simpa using q⟩|false=>have I:=λQ h=>(i m w A.in1 (λe p=>a (.error e) p) ⟨z,g,d,u,os⟩).2 Q h;wp_walk using I;exact⟨_,rfl,by simpa using q⟩
 case fin=>rintro⟨b1,b2⟩p⟨o,rfl,k,E,q⟩;simp only at o;subst o;cases E;wp_walk;exact⟨_,rfl,by simpa[YC,hz,dI]using q⟩
 case h=>exact⟨rfl,rfl,v,hi,h⟩
end
noncomputable def nQ:List Str->List Str->Bool|x::b,y::a=>if x=y then nQ b a else s_ (x.cps.toList<y.cps.toList)|_,_=>D
theorem oQ:∀{f g:List Str}{d b:List B},f.length=g.length->Ï (f.map V.str) d->Ï (g.map V.str) b->∃e,oP (d.zip b) e/\(dI e).getD D=nQ f g
 |[],[],d,b,_,v,n=>by cases v;exact⟨[],.nil,rfl⟩|k::f,j::g,d,b,r,v,n=>by cases v with|cons p v2=>cases n with|cons m i=>obtain⟨e,q,i2⟩:=oQ (by simpa using r) v2 i;obtain⟨t,rfl⟩:=p;obtain⟨o,rfl⟩:=m;refine⟨(s_ (k=j),s_ (k.cps.toList<j.cps.toList))::e,.cons (λa w A E s=>⟨(vP s.heap A D k j t o a w E s rfl).1,λQ h=>(aaZ h:v_ (E_ a w) A (UN .Lt (.str k t) (.str j o)) Q E s)⟩) q,?_⟩;rw[gq,i2];simp[nQ]
 |[],_::_,_,_,h,_,_=>by simp at h|_::_,[],_,_,h,_,_=>by simp at h
theorem ux{a:n_}{w:xy}:∀{d:List Str}{b:List B},Ï (d.map V.str) b->acv (U6 a w) d b|[],b,v=>by cases v;exact .nil|k::d,b,v=>by cases v with|cons e v2=>obtain⟨t,rfl⟩:=e;exact .cons (by show WM k (.str k t)=L;simp[WM]) (ux v2)
theorem CW{j:List Str}{i:List B}(hu:I.units+8<cLine)(h1:N.IsTuple e μ.toArray)(h2:N.IsTuple A i.toArray)(hl:y.length=j.length)(m:Ï (y.map V.str) μ)(k:Ï (j.map V.str) i):oO N I D (.ref e) (.ref A) (s_ (y=j)) (nQ y j):=λg w E s hs=>by subst hs;obtain⟨⟨a',dd,z,sl⟩,o,v,n,u⟩:=id h1;obtain⟨⟨H,q,data2,p⟩,a,f,n2,d⟩:=id h2;simp only at v u f d;subst v u f d;refine⟨λQ h=>PySem.wpAny_eqBool_tuple (knd:=U6 g w) (by omega) ⟨_,_,_,o,rfl,rfl,by simpa using ux m⟩ ⟨_,_,_,a,rfl,rfl,by simpa using ux k⟩ h,λb Q hb h=>?_⟩;cases b with|true=>exact absurd (hb rfl) (by decide)|false=>
 rw[aaV];simp only[x_,if_false];obtain⟨r,i1,i2⟩:=oQ hl m k;rw[<-i2]at h;have hz:μ.toArray.size=i.toArray.size:=by have e1:=m.length;have e2:=k.length;simp at e1 e2⊢;omega
 refine e_ ?_;exact Z5 (op:=.Lt) ⟨_,o,rfl⟩ ⟨_,a,rfl⟩ PySem.F.slot_tuple_lt PySem.F.entry_tuple_lt (PySem.F.args_tuple_lt_2 _ _) (zM e A μ.toArray i.toArray n n2 dd q sl p r i1 hz) ⟨o,a,show Q_ ((dI r).getD D)≠aaG/\_ from⟨(λx=>nomatch x),sg _ h⟩⟩ (by omega)
open FD
def Ě:Q->Nat|.str _=>1|.int _=>2|.bl _=>3|.tup b=>(match df b with|some a=>4+a.length|none=>0)|_=>0
def ĸ:Q->Q->Bool|.str a,.str b=>s_ (a=b)|.int a,.int b=>a==b|.bl a,.bl b=>a==b|.tup a,.tup b=>(match df a,df b with|some x,Z y=>s_ (x=y)|_,_=>D)|_,_=>D
def Ĥ:Q->Q->Bool|.str a,.str b=>s_ (a.cps.toList<b.cps.toList)|.int a,.int b=>s_ (a<b)|.bl a,.bl b=>s_ (b2i a<b2i b)|.tup a,.tup b=>(match df a,df b with|some x,Z y=>nQ x y|_,_=>D)|_,_=>D
def Ė:List Q->List Q->Bool|x::b,y::a=>if ĸ x y then Ė b a else Ĥ x y|_,_=>D
def Ĉ(a:List Q):List Nat:=a.map Ě
noncomputable def lr(a:List Nat):Bool:=a.all λk=>k !=0
theorem jz:∀{b:List Q}{a:List Str},df b=Z a->b=a.map Q.str|[],a,h=>by cases h;rfl|.str x::r,a,h=>by obtain⟨e,d,rfl⟩:=Wn.mp (show(df r).map (x::·)=Z a from h);rw[jz d];rfl|.non::_,_,h=>by cases h|.bl _::_,_,h=>by cases h|.int _::_,_,h=>by cases h|.tup _::_,_,h=>by cases h|.lst _::_,_,h=>by cases h|.scr _::_,_,h=>by cases h|.exn _::_,_,h=>by cases h|.obj _ _::_,_,h=>by cases h
theorem jN(h:Ě (.tup H)≠0):∃a,df H=Z a/\Ě (.tup H)=4+a.length:=by
 simp only[Ě]at h⊢;split at h;·rename_i a e;exact⟨a,e,rfl⟩
 ·exact absurd rfl h
theorem oR(h:ĸ j θ=L):j=θ:=by
 cases j<;>cases θ<;>simp only[ĸ,x_,decide_eq_true_eq,beq_iff_eq]at h<;>try(rw[h];done)
 split at h;·rename_i b a;rw[jz b,jz a,of_decide_eq_true h]
 ·cases h
theorem vR(h:Ě j≠0):ĸ j j=L:=by
 cases j<;>try(simp[Ě]at h;done)
 all_goals try(simp[ĸ];done)
 obtain⟨a,e,_⟩:=jN h;simp[ĸ,e]
theorem zN:∀a:List Str,nQ a a=D|[]=>rfl|x::a=>by rw[nQ,if_pos rfl];exact zN a
theorem Fk:∀{h g f:List Str},nQ h g=L->nQ g f=L->nQ h f=L
 |x::h,y::g,z::f,a,b=>by
  unfold nQ at a b⊢;by_cases i:x=y
  · subst i;rw[if_pos rfl]at a;by_cases d:x=z;·rw[if_pos d]at b⊢;exact Fk a b
    ·rw[if_neg d]at b⊢;exact b
  · rw[if_neg i]at a;by_cases d:y=z;·subst d;rw[if_neg i];exact a
    ·rw[if_neg d]at b;have:=List.lt_trans (of_decide_eq_true a) (of_decide_eq_true b);rw[if_neg λe=>by subst e;exact List.lt_irrefl _ this];exact decide_eq_true this|[],_,_,a,_=>by simp[nQ]at a|_::_,[],_,a,_=>by simp[nQ]at a|_::_,_::_,[],_,b=>by simp[nQ]at b
theorem zO(a b:Str)(h:¬a.cps.toList<b.cps.toList)(d:¬b.cps.toList<a.cps.toList):a=b:=by have e:a.cps.toList=b.cps.toList:=List.le_antisymm (List.not_lt.mp d) (List.not_lt.mp h);obtain⟨⟨a⟩⟩:=a;obtain⟨⟨b⟩⟩:=b;simp at e;rw[e]
theorem uy:∀{xs ys:List Str},xs.length=ys.length->nQ xs ys=D->nQ ys xs=D->xs=ys
 |[],[],_,_,_=>rfl|x::xs,y::ys,d,b,a=>by
  unfold nQ at b a;by_cases e:x=y;·subst e;rw[if_pos rfl]at b a;rw[uy (by simpa using d) b a]
  ·rw[if_neg e]at b;rw[if_neg (UK e)]at a;exact absurd (zO _ _ (of_decide_eq_false b) (of_decide_eq_false a)) e|[],_::_,h,_,_=>by simp at h|_::_,[],h,_,_=>by simp at h
theorem vS(x:Q):Ĥ x x=D:=by cases x with
 |str a=>simp only[Ĥ,decide_eq_false_iff_not];exact List.lt_irrefl _|int a=>simp[Ĥ]|bl a=>cases a<;>rfl|tup e=>
 simp only[Ĥ];split;·rename_i x y d b;rw[d]at b;cases b;exact zN x
 ·rfl|_=>rfl
variable{Δ:Q}
theorem vT(b:Ĥ j θ=L)(a:Ĥ θ Δ=L):Ĥ j Δ=L:=by
 cases j<;>cases θ<;>simp only[Ĥ,x_,decide_eq_true_eq]at b<;>cases Δ<;>simp only[Ĥ,x_,decide_eq_true_eq]at a⊢;·omega
 ·omega
 ·exact List.lt_trans b a
 · split at b
   · rename_i m k g f;split at a;·rename_i i h d e;rw[f]at d;cases d;rw[g,e];exact Fk b a
     ·cases a
   ·cases b
theorem zP(d:Ě j=Ě θ)(h:Ě j≠0)(g:Ĥ j θ=D)(f:Ĥ θ j=D):j=θ:=by cases j with
 |str a=>cases θ with|str b=>simp only[Ĥ,decide_eq_false_iff_not]at g f;rw[zO _ _ g f]|tup b=>obtain⟨_,_,e⟩:=jN (show Ě (.tup b)≠0 by rw[<-d];exact h);simp only[Ě]at d e;rw[e]at d;omega|_=>simp[Ě]at d
 |int a=>cases θ with|int b=>simp[Ĥ]at g f;rw[show a=b by omega]|tup b=>obtain⟨_,_,e⟩:=jN (show Ě (.tup b)≠0 by rw[<-d];exact h);simp only[Ě]at d e;rw[e]at d;omega|_=>simp[Ě]at d
 |bl a=>cases θ with|bl b=>cases a<;>cases b<;>simp[Ĥ,b2i]at g f⊢|tup b=>obtain⟨_,_,e⟩:=jN (show Ě (.tup b)≠0 by rw[<-d];exact h);simp only[Ě]at d e;rw[e]at d;omega|_=>simp[Ě]at d
 |tup a=>obtain⟨n,m,k⟩:=jN h;cases θ with|tup b=>obtain⟨o,i,p⟩:=jN (show Ě (.tup b)≠0 by rw[<-d];exact h);simp only[Ĥ,m,i]at g f;rw[jz m,jz i,uy (by omega) g f]|_=>simp only[Ě]at d k;rw[k]at d;omega
 |_=>exact absurd rfl h
theorem Fm:∀a:List Q,Ė a a=D
 |[]=>rfl|x::a=>by
  unfold Ė;split;·exact Fm a
  ·exact vS x
theorem zQ:∀{i h g:List Q},Ė i h=L->Ė h g=L->Ė i g=L
 |x::i,y::h,z::g,a,b=>by
  unfold Ė at a b⊢;by_cases f:ĸ x y=L
  · have:=oR f;subst this;rw[if_pos f]at a;by_cases d:ĸ x z=L;·rw[if_pos d]at b⊢;exact zQ a b
    ·rw[if_neg d]at b⊢;exact b
  · rw[if_neg f]at a;by_cases d:ĸ y z=L;·have:=oR d;subst this;rw[if_neg f];exact a
    ·rw[if_neg d]at b;have:=vT a b;rw[if_neg λe=>by have:=oR e;subst this;have:=vT a b;rw[vS]at this;cases this];exact this|[],_,_,a,_=>by simp[Ė]at a|_::_,[],_,a,_=>by simp[Ė]at a|_::_,_::_,[],_,b=>by simp[Ė]at b
theorem Fp:∀{e d i:List Q},Ĉ e=Ĉ d->Ĉ d=Ĉ i->lr (Ĉ e)=L->Ė e i=L->Ė e d=L\/Ė d i=L
 |x::e,y::d,z::i,a,f,k,h=>by
  simp only[Ĉ,G_,aau]at a f;simp only[Ĉ,lr,G_,Wa,m_,bne_iff_ne,ne_eq]at k;have j:=k.1;unfold Ė at h⊢;by_cases g:ĸ x y=L
  · have:=oR g;subst this;rw[if_pos g];by_cases b:ĸ x z=L;·rw[if_pos b]at h⊢;exact Fp a.2 f.2 (by simpa[lr,Ĉ]using k.2) h
    ·rw[if_neg b]at h⊢;exact .inr h
  · rw[if_neg g];by_cases b:ĸ y z=L;·have:=oR b;subst this;rw[if_neg g]at h;exact .inl h
    ·rw[if_neg b];cases p:Ĥ x y with|true=>exact .inl rfl|false=>cases o:Ĥ y z with|true=>exact .inr rfl|false=>
    exfalso;have s:Ĥ y x=L:=by cases q:Ĥ y x with|true=>rfl|false=>have:=zP a.1 j p q;subst this;exact absurd (vR j) g
    have r:Ĥ z y=L:=by cases q:Ĥ z y with|true=>rfl|false=>have:=zP f.1 (by rw[<-a.1];exact j) o q;subst this;exact absurd (vR (by rw[<-a.1];exact j)) b
    have m:=vT r s;by_cases n:ĸ x z=L;·have:=oR n;subst this;rw[vS]at m;cases m
    ·rw[if_neg n]at h;have:=vT h m;rw[vS]at this;cases this
 |[],_,_,_,_,_,h=>by simp[Ė]at h|_::_,[],_,a,_,_,_=>by simp[Ĉ]at a|_::_,_::_,[],_,f,_,_=>by simp[Ĉ]at f
theorem zR{R:Nat->Nat->Prop}(h:∀a b,R a b->R b a->False):∀{l m:List Nat},l.Perm m->l.Pairwise R->m.Pairwise R->l=m
 |[],m,d,_,_=>d.nil_eq|x::l,[],d,_,_=>by simpa using d.length_eq|x::l,y::m,d,g,f=>by
  rw[Vf]at g f;have e:x=y:=by
   rcases uk.mp (d.mem_iff.mp (pi (a:=x)))with e|j;·exact e
   · rcases uk.mp (d.mem_iff.mpr (pi (a:=y)))with e|i;·exact e.symm
     ·exact(h _ _ (g.1 y i) (f.1 x j)).elim
  subst e;rw[zR h d.cons_inv g.2 f.2]
variable{Η:Nat->Nat->Bool}
theorem ı.as(O:Od Η){a b:Nat}(h:ı Η a b)(d:ı Η b a):False:=by
 have:=h.tr O d;rcases this with q|q;·rw[O.ir]at q;cases q
 ·omega
theorem zS{a:Nat->Nat->Bool}(O:Od a)(x:Nat):∀l:List Nat,(∀y∈l,x<y)->l.Pairwise (ı a)->(xf (λi j=>!a j i) x l).Pairwise (ı a)
 |[],_,_=>by simp[xf]|y::l,f,h=>by
  unfold xf;rw[Vf]at h;split
  · rename_i e;have d:ı a x y:=.of_le (by simpa using e) (f y pi);rw[Vf,Vf];refine⟨λz b=>?_,h⟩;rcases uk.mp b with rfl|b;·exact d
    ·exact d.tr O (h.1 z b)
  · rename_i e;rw[Vf];refine⟨λz b=>?_,zS O x l (λz b=>f z (rl _ b)) h.2⟩;rcases uk.mp ((kq _ x l).mem_iff.mp b)with rfl|b;·exact .inl (by simpa using e)
    ·exact h.1 z b
theorem vU{a:Nat->Nat->Bool}(O:Od a):∀l:List Nat,l.Pairwise (·<·)->(gR (λi j=>!a j i) l).Pairwise (ı a)|[],_=>.nil|x::l,h=>by rw[Vf]at h;exact zS O x _ (λy b=>h.1 y ((cR _ l).mem_iff.mp b)) (vU O l h.2)
theorem zT{a d:Type}{g:a->a->Bool}{b:d->d->Bool}(f:a->d)(x:a):∀l:List a,(∀y∈l,g x y=b (f x) (f y))->(xf g x l).map f=xf b (f x) (l.map f)
 |[],_=>rfl|y::l,h=>by
  have e:=h y pi;simp only[xf,G_];rw[<-e];split;·rfl
  ·rw[G_,zT f x l λz i=>h z (rl _ i)]
theorem sort_map{e g:Type}{i:e->e->Bool}{d:g->g->Bool}(f:e->g):∀l:List e,(∀x∈l,∀y∈l,i x y=d (f x) (f y))->(gR i l).map f=gR d (l.map f)|[],_=>rfl|x::l,h=>by simp only[gR,G_];rw[zT (b:=d) f x _ λy j=>h x pi y (rl _ ((cR _ l).mem_iff.mp j)),sort_map f l λa m b k=>h a (rl _ m) b (rl _ k)]
theorem mR:∀(l m:List Nat),l.Nodup->(∀x∈l,x∈m)->m.length<=l.length->l.Perm m
 |[],m,_,_,h=>by have:m=[]:=WZ.mp (by simpa using h);subst this;exact .refl _|x::l,m,a,d,h=>by
  rw[Vw]at a;obtain⟨f,e,rfl⟩:=List.append_of_mem (d x pi);refine((mR l (f++e) a.2 (λy b=>?_) (by simp at h⊢;omega)).cons x).trans List.perm_middle.symm;have:=d y (rl _ b);simp only[R_,uk]at this⊢;rcases this with q|rfl|q;·exact .inl q
  ·exact(a.1 b).elim
  ·exact .inr q
variable{Ο:Nat->Nat}
theorem uz(g:∀k,k<b->Ο k<b)(f:∀a d,a<b->d<b->Ο a=Ο d->a=d):((t_ b).map Ο).Perm (t_ b):=by
 have i:((t_ b).map Ο).Nodup:=by rw[List.nodup_iff_pairwise_ne,Yv];refine(List.nodup_range (n:=b)).imp_of_mem λ{a d}o n h e=>h (f a d (by simpa using o) (by simpa using n) e)
 have sub:∀x∈(t_ b).map Ο,x∈t_ b:=λx j=>by obtain⟨k,m,rfl⟩:=Ux.mp j;simpa using g k (by simpa using m)
 exact mR _ _ i sub (by simp)
theorem sj(O:Od Η){n:Nat}{p:Nat->Nat}(e:∀k,k<n->p k<n)(d:∀a b,a<n->b<n->p a=p b->a=b)(g:∀a b,a<b->b<n->ı Η (p a) (p b)):(t_ n).map p=gR (λi j=>!Η j i) (t_ n):=by refine zR (λa b h o=>h.as O o) ((uz e d).trans (cR _ _).symm) ?_ (vU O _ aai);rw[Yv];exact(aai (n:=n)).imp_of_mem λ{a b}q m f=>g a b f (by simpa using m)
theorem vV{a:n_}{w:xy}{A:D_}{E:B->ge->Prop}{s:ge}{R:List B->ge->Prop}:∀{fs:List B},(∀f∈fs,∃T,∀e:ge,e.TypeIs f T)->(∀b,R b s)->v_ (E_ a w) A (fs.mapM acg) R E s|[],_,h=>by rw[List.mapM_nil];exact j_ (h _)|f::fs,d,h=>by obtain⟨T,hT⟩:=d f pi;rw[List.mapM_cons];refine e_ (Yc (hT s) ?_);exact e_ (vV (λg i=>d g (rl _ i)) λb=>j_ (h _))
theorem QP{d:List B}(j:mQ f.heap μ d)(i:∀a∈d,∃T,∀g:ge,g.TypeIs a T){R:WW->ge->Prop}(h:∀b,R (tuples' b) f):v_ (E_ r q) I (keyKind' μ.toArray) R τ f:=by
 rw[keyKind'_eq,abF];refine e_ ?_;rw[<-bind_pure_comp];refine e_ (si j (j_ ?_));rw[if_pos (by simp)];refine e_ (W5 ?_);have e:(d.map Z).toArray.filterMap id=d.toArray:=by simp
 rw[e,oneTypeOnly'_eq,abF];refine e_ (e_ ?_);rw[<-bind_pure_comp];refine e_ (vV i λk=>j_ ?_);split;·exact j_ (j_ (h _))
 ·exact j_ (j_ (h _))
end TS
variable{Ì:ge->Prop}{Η:Nat->Nat->Bool}{Ο:Nat->Nat}{Δ:FD.Q}
namespace FD
open L2 TS
def HR:List Q->Bool|[]=>D|d::_=>s_ (Ě d<4)
def ku(a:List (List Q)):Bool:=s_ (a.length<64)&&a.all λr=>s_ (Ĉ r=Ĉ (a.headD []))&&HR r&&lr (Ĉ r)
theorem sk:∀{e:List Q}{b:List Str}{a:List V},df e=Z b->S s g e a->a=b.map V.str:=by intro e b a h r;have:=jz h;subst this;clear h;induction b generalizing a with|nil=>exact(show a=[]from r)|cons k b j=>obtain⟨v,d,rfl,i,f⟩:∃v d,a=v::d/\Ô s g (.str k) v/\S s g (b.map Q.str) d:=r;cases(show v=.str k from i);rw[j f];rfl
theorem vW{X:C}{f':List (O×Obj)}{σ:L2.St}{H:Hp}{s:ge}{N:N_}{A:D_}(I:Í X f' σ H s)(hu:A.units+8<cLine)(up:∀b o,s.heap.get? b=Z o->N.get? b=Z o):∀{z:Bool}{j d:List Q}{us i:List V}{m f:List B},(z=L->HR j=L)->Ĉ j=Ĉ d->lr (Ĉ j)=L->S X.K H j us->S X.K H d i->Ï us m->Ï i f->∃E,sh N A z (m.zip f) E/\(dI E).getD D=Ė j d
 |z,[],[],us,i,m,f,_,_,_,r,r',v,v'=>by cases(show us=[]from r);cases v;exact⟨[],.nil,rfl⟩|z,x::j,y::d,us,i,m,f,hz,s,hk,r,r',v,v'=>by obtain⟨u,g,rfl,r1,r2⟩:∃v g,us=v::g/\Ô X.K H x v/\S X.K H j g:=r;obtain⟨u',i',rfl,w,b'⟩:∃v g,i=v::g/\Ô X.K H y v/\S X.K H d g:=r';simp only[Ĉ,G_,aau]at s;simp only[Ĉ,lr,G_,Wa,m_,bne_iff_ne,ne_eq]at hk;cases v with|cons v1 v2=>cases v' with|cons k a'=>
  obtain⟨E,i1,i2⟩:=vW I hu up (z:=D) (λz=>by cases z) s.2 (by simpa[lr,Ĉ]using hk.2) r2 b' v2 a';rename_i b1 l1 b2 l2;have one:∀(p q:B)(e l:Bool),oO N A z p q e l->(if e=L then Ė j d else l)=Ė (x::j) (y::d)->∃E,sh N A z ((p,q)::l1.zip l2) E/\(dI E).getD D=Ė (x::j) (y::d):=λp q e l h zz=>⟨(e,l)::E,.cons h i1,by rw[gq,i2];exact zz⟩;have kt:∀ds n,Ě (.tup ds)=n->n≠0->n<4->False:=λds n e h0 h4=>by obtain⟨_,_,e'⟩:=jN (H:=ds) (by omega);omega
  cases x with
  |str a=>cases y with|str b=>cases(show u=.str a from r1);cases(show u'=.str b from w);obtain⟨t,rfl⟩:=v1;obtain⟨t',rfl⟩:=k;exact one _ _ _ _ (vP N A z a b t t') rfl|tup b=>exact(kt b 1 s.1.symm (by decide) (by decide)).elim|_=>exact absurd s.1 (by simp[Ě])
  |int a=>cases y with|int b=>cases(show u=.int a from r1);cases(show u'=.int b from w);obtain⟨t,rfl⟩:=v1;obtain⟨t',rfl⟩:=k;exact one _ _ _ _ (vQ N A z a b t t') rfl|tup b=>exact(kt b 2 s.1.symm (by decide) (by decide)).elim|_=>exact absurd s.1 (by simp[Ě])
  |bl a=>cases y with|bl b=>cases(show u=.bl a from r1);cases(show u'=.bl b from w);cases v1;cases k;exact one _ _ _ _ (HQ N A z a b) rfl|tup b=>exact(kt b 3 s.1.symm (by decide) (by decide)).elim|_=>exact absurd s.1 (by simp[Ě])
  |tup ds=>obtain⟨ks,e1,e2⟩:=jN hk.1;cases y with|tup g'=>
  obtain⟨js,e3,e4⟩:=jN (H:=g') (by rw[<-s.1];exact hk.1);obtain⟨a,xs,rfl,ha,rx⟩:=r1.tupE;obtain⟨c,ys,rfl,hc,ry⟩:=w.tupE;cases v1;cases k;obtain⟨l',q1,q2,_⟩:=I.tuple (ô.of ha);obtain⟨k',p1,p2,_⟩:=I.tuple (ô.of hc);have zf:z=D:=by cases z with|false=>rfl|true=>have:=hz rfl;simp only[HR,decide_eq_true_eq]at this;omega
  subst zf;obtain⟨o1,g1,d'⟩:=q2;obtain⟨o2,g2,c'⟩:=p2;rw[sk e1 rx]at q1;rw[sk e3 ry]at p1;refine one _ _ _ _ (CW hu ⟨o1,up _ _ g1,d'⟩ ⟨o2,up _ _ g2,c'⟩ (by have:=s.1;omega) q1 p1) ?_;simp only[Ė,ĸ,Ĥ,e1,e3]|_=>have:=s.1;simp only[Ě]at this e2;rw[e2]at this;omega
  |_=>exact absurd rfl hk.1
 |_,[],_::_,_,_,_,_,_,s,_,_,_,_,_=>by simp[Ĉ]at s|_,_::_,[],_,_,_,_,_,s,_,_,_,_,_=>by simp[Ĉ]at s
theorem CY(f:Ě j≠0)(i:Ě j<4)(r:Ô s g j ψ)(d:Ú ψ Β):∃T,∀h:ge,h.TypeIs Β T:=by cases j with|str a=>cases(show ψ=.str a from r);obtain⟨t,rfl⟩:=d;exact⟨"str",λb=>X0 b _ _⟩|int a=>cases(show ψ=.int a from r);obtain⟨t,rfl⟩:=d;exact⟨"int",λb=>abe b _ _⟩|bl a=>cases(show ψ=.bl a from r);cases d;exact⟨"bool",λb=>abB b _⟩|tup k=>obtain⟨_,_,e⟩:=jN f;omega|_=>exact absurd rfl f
theorem sr{X:C}{f':List (O×Obj)}{o:L2.St}{H:Hp}{s:ge}(I:Í X f' o H s):∀{b:List (List Q)}{g:List V}{d:List B},(∀r∈b,HR r=L/\lr (Ĉ r)=L)->S X.K H (b.map Q.tup) g->Ï g d->∃fs,mQ s.heap d fs/\∀f∈fs,∃T,∀y:ge,y.TypeIs f T
 |[],g,d,_,r,v=>by cases(show g=[]from r);cases v;exact⟨[],.nil,by simp⟩|i::b,g,d,h,r,v=>by obtain⟨u,e,rfl,N,E⟩:∃v e,g=v::e/\Ô X.K H (.tup i) v/\S X.K H (b.map Q.tup) e:=r;obtain⟨a,p,rfl,ha,z⟩:=N.tupE;cases v with|cons w v2=>cases w;obtain⟨fs,f1,R⟩:=sr I (λr hr=>h r (rl _ hr)) E v2;obtain⟨a',A,pt,hz⟩:=I.tuple (ô.of ha);obtain⟨n,m⟩:=h i pi;cases i with|nil=>cases n|cons x i=>obtain⟨u,j,rfl,q1,q2⟩:∃v j,p=v::j/\Ô X.K H x v/\S X.K H i j:=z;cases A with|cons q w2=>
 rename_i t ts;refine⟨t::fs,.cons pt (by simp) f1,λf k=>?_⟩;rcases uk.mp k with rfl|k;·simp only[Ĉ,lr,G_,Wa,m_,bne_iff_ne,ne_eq]at m;exact CY m.1 (of_decide_eq_true n) q1 q
 ·exact R f k
theorem zU{X:C}{f':List (O×Obj)}{o:L2.St}{H:Hp}{s:ge}(I:Í X f' o H s):∀{b:List (List Q)}{f:List V}{e:List B}(i:Nat)(x:B),S X.K H (b.map Q.tup) f->Ï f e->e[i]?=Z x->∃a j d k,b[i]?=Z k/\f[i]?=Z (.ref a)/\x=.ref a/\S X.K H k j/\Ï j d/\H a=Z (.tup j)/\s.heap.IsTuple a d.toArray|[],f,e,i,x,r,v,h=>by cases(show f=[]from r);cases v;simp at h|k::b,f,e,i,x,r,v,h=>by obtain⟨u,g,rfl,E,A⟩:∃v g,f=v::g/\Ô X.K H (.tup k) v/\S X.K H (b.map Q.tup) g:=r;obtain⟨a,p,rfl,n,y⟩:=E.tupE;cases v with|cons w v2=>cases w;cases i with|zero=>simp at h;subst h;obtain⟨d,z,pt,hz⟩:=I.tuple (ô.of n);exact⟨a,p,d,k,rfl,rfl,rfl,y,z,n,pt⟩|succ i=>obtain⟨a',j,d,m,q1,N,q⟩:=zU I i x A v2 (by simpa using h);exact⟨a',j,d,m,by simpa using q1,by simpa using N,q⟩
theorem gS{H:Hp}{K:d_}:∀{e:List Q}{b:List V},S K H e b->e.length=b.length|[],b,r=>by cases(show b=[]from r);rfl|d::e,b,r=>by obtain⟨u,a,rfl,g,f⟩:∃v a,b=v::a/\Ô K H d v/\S K H e a:=r;simp[gS f]
theorem xj(a:H.length=ι.length)(h:∀(i:Nat)(d:Q)(v:V),H[i]?=Z d->ι[i]?=Z v->Ô s g d v):S s g H ι:=by induction H generalizing ι with
 |nil=>cases ι with|nil=>exact rfl|cons _ _=>simp at a
 |cons d H b=>cases ι with|nil=>simp at a|cons w ι=>exact⟨w,ι,rfl,h 0 d w rfl rfl,b (by simpa using a) λi j v f e=>h (i+1) j v (by simpa using f) (by simpa using e)⟩
theorem reps_at{H:Hp}{K:d_}:∀{e:List Q}{b:List V},S K H e b->∀(i:Nat)(d:Q)(v:V),e[i]?=Z d->b[i]?=Z v->Ô K H d v|[],_,_,i,d,v,h,_=>by simp at h|k::e,b,r,i,d,v,h,f=>by obtain⟨u,a,rfl,j,g⟩:∃v a,b=v::a/\Ô K H k v/\S K H e a:=r;cases i with|zero=>simp at h f;subst h;subst f;exact j|succ i=>exact reps_at g i d v (by simpa using h) (by simpa using f)
theorem xl(a:ι.length=μ.length)(h:∀(i:Nat)(v:V)(u:B),ι[i]?=Z v->μ[i]?=Z u->Ú v u):Ï ι μ:=by induction ι generalizing μ with
 |nil=>cases μ with|nil=>exact .nil|cons _ _=>simp at a
 |cons d j b=>cases μ with|nil=>simp at a|cons w ι=>exact .cons (h 0 d w rfl rfl) (b (by simpa using a) λi g v f e=>h (i+1) g v (by simpa using f) (by simpa using e))
noncomputable def iI(a:List (List Q))(i:Nat):List Q:=a.getD i (a.headD [])
theorem mS{a:List (List Q)}(h:∀r∈a,Ĉ r=Ĉ (a.headD [])/\HR r=L/\lr (Ĉ r)=L)(i:Nat):Ĉ (iI a i)=Ĉ (a.headD [])/\lr (Ĉ (iI a i))=L:=by unfold iI;cases a with|nil=>exact⟨rfl,rfl⟩|cons r a=>
 by_cases b:i<(r::a).length
 · have e:(r::a).getD i ((r::a).headD [])=(r::a)[i]:=by unfold Xm;rw[I_ b];rfl
   rw[e];have:=h _ (XH b);exact⟨this.1,this.2.2⟩
 · have e:(r::a).getD i ((r::a).headD [])=r:=by unfold Xm;rw[Va (by omega)];rfl
   rw[e];exact⟨rfl,(h r pi).2.2⟩
theorem HS{d:List (List Q)}(h:∀r∈d,Ĉ r=Ĉ (d.headD [])/\HR r=L/\lr (Ĉ r)=L):Od λi j=>Ė (iI d i) (iI d j)where ir:=λa=>Fm _;tr:=λa b c e f=>zQ e f;nt:=λa b c e=>Fp ((mS h a).1.trans (mS h b).1.symm) ((mS h b).1.trans (mS h c).1.symm) (mS h a).2 e
theorem uA{a:List (List Q)}(h:a[b]?=Z H):iI a b=H:=by unfold iI Xm;rw[h];rfl
open PySem.W
noncomputable def CZ(m i N:Nat)(f:Ù)(g:Ò):Ù:=λa=>match f a with|some (.rt d)=>Z (.rt d)|some (.exc c)=>if c<m then(match g ((u_ N U).set i (Z (.exn c)))with|some (.ok d)=>Z (.rt d)|_=>U)else U|_=>U
theorem MK(G:í a.prog a.w a.K a.mg a.base Į b e Ä y (ŋ a.K Ψ y.length))(w:Ü b I)(p:I.frames=a.A.frames)(z:ð a.K Ä y [])(h:Í a ζ Λ g f){v:V}{u:B}{d o:Q}(s:Ú v u)(r:Ô a.K g d v)(q:y.length=1)(A:Ψ [d]=Z (.ok o)):v_ (E_ a.prog a.w) I (call (.ref e) [u]) (EP a ζ Λ λn k=>Ñ g k/\Ô a.K k o n) τ f:=by have j:=h.env0;refine abd (XB (G.run I a.stack f g ⟨[u],[]⟩ [u] [v] (λn k=>Ñ g k/\Ô a.K k o n) E0 w ⟨p.trans j.frames,j.mod,j.bs,j.bsz,j.funs,j.frf,j.hok,j.bare⟩ (by simpa using z f [u] h.kIn (by simp[q])) (.cons s .nil) ⟨[d],⟨v,[],rfl,r,rfl⟩,q.symm,by rw[A];exactλv k i r=>⟨i,r⟩⟩) λr H m=>?_);cases r with|error i=>exact m.elim|ok E=>cases E with|ret u=>exact h.after m|next=>exact U4 m|brk=>exact U4 m|cont=>exact U4 m
end FD
namespace TS
open FD
theorem Fq{a:Array B}{g:Wr}{P:abT->ge->Prop}(m:f.heap.get? A=Z (VP "list" a k))(o:f.heap.get? e=Z (VP "list" #[] b))(i:A≠e)(j:a.size<=sizeLine)(p:(Y2 g).size<=sizeLine)(n:abC g=U)(h:P (.done (.ret .none)) {f with heap:=(f.heap.update A (U1 λ_=>#[])).update e (U1 λ_=>(Y2 g).map (·.2))}):v_ (E_ r q) I (ksk_tail e D b (.ref A) g) P τ f:=by
 unfold ksk_tail;refine e_ (ZL m rfl ?_ j (UQ _));refine e_ (ab1 ?_);have d:(f.heap.update A (U1 λ_=>#[])).get? e=Z (VP "list" #[] b):=by rw[Wj _ _ _ _ i.symm];exact o
 refine e_ (seqEpoch_at (s:={f with heap:=f.heap.update A (U1 λ_=>#[])}) d rfl ?_);refine e_ (ZL (s:={f with heap:=f.heap.update A (U1 λ_=>#[])}) d rfl ?_ (UQ _) (by simp only[x_,if_false,YB];omega));rw[n];simp only[bne_self_eq_false,x_,if_false];exact j_ h
theorem QQ{o fs:List B}{P:abT->ge->Prop}(s:f.heap.get? A=Z (VP "list" μ.toArray k))(ha:f.heap.get? e=Z (VP "list" #[] b))(b':A≠e)(d':μ.length=o.length)(N:o.length<64)(g:Od Η)(hF:mQ f.heap μ fs)(hf:∀n∈fs,∃T,∀s':ge,s'.TypeIs n T)(hC:∀(A':D_)(i j:Nat)(x y:B),A'.units<=I.units+8->μ[i]?=Z x->μ[j]?=Z y->∃e k xs ys rs,x=.ref e/\y=.ref k/\f.heap.IsTuple e xs/\f.heap.IsTuple k ys/\sh f.heap A' L (xs.toList.zip ys.toList) rs/\(dI rs).getD (s_ (xs.size<ys.size))=Η i j)(h:∀(p:Nat->Nat)(H:Array B)(w:Nat),H.size=o.length->(∀a,a<o.length->H[a]?=o[p a]?)->(t_ o.length).map p=gR (λi j=>!Η j i) (t_ o.length)->(∀a,a<o.length->p a<o.length)->P (.done (.ret .none)) {f with heap:=(f.heap.update A (U1 λ_=>#[])).update e (U1 λ_=>H),toks:=w}):v_ (E_ r q) I (ksk_end e D o.toArray b (.ref A) μ.toArray) P τ f:=by
 unfold ksk_end;simp only[x_,if_false];have hz:μ.toArray.size<=sizeLine:=kr (by simp;omega);have v:(μ.toArray.zip o.toArray).size=o.length:=by simp[d']
 have E:∀a,a<o.length->(μ.toArray.zip o.toArray)[a]?=Z (μ.getD a .none,o.getD a .none):=λa s=>by
  have:a<μ.length:=by omega
  have e':a<(μ.zip o).length:=by simp;omega
  have d:(μ.zip o)[a]?=Z (μ[a],o[a]):=by rw[I_ e',abX]
  simp[s,this,Xm,d]
 have a':o.toArray.size=o.length:=by simp
 by_cases h2:o.toArray.size<2
 ·rw[if_pos h2,if_pos h2];refine e_ (j_ ?_);rw[ab8];refine e_ (j_ ?_);dsimp only;refine Fq (g:=SortSt.mk' general' (μ.toArray.zip o.toArray) #[] 7 U) s ha b' hz (kr (by rw[v];exact N)) rfl ?_;have:=h id ((μ.toArray.zip o.toArray).map (·.2)) f.toks (by rw[YB,v]) (λa s=>by rw[abl,E a s];simp[s,Xm]) (sj g (λa s=>s) (λ_ _ _ _ d=>d) (λx y k' hy=>by rw[a']at h2;omega)) (λa s=>s);exact this
 · rw[if_neg h2,if_neg h2];rw[a']at h2;refine e_ (QP hF hf λm=>?_);refine e_ (U5 (MI (Ì:=JT f f.heap) (τ:=τ) (Q:=λ_ u=>∃p',QO (μ.toArray.zip o.toArray) Η p' (Y2 u)/\abC u=U) (Ο:=id) g (λi j x y s1 E' ex ey J1=>?_) (y:=SortSt.mk' (tuples' m) (μ.toArray.zip o.toArray) #[] 7 U) ⟨rfl,λ_ _=>rfl,λ_ h=>h,λ_ _ _ _ d=>d,rfl,rfl,rfl⟩ (λ_ _=>rfl) (by rw[v];omega) (by rw[v];exact N) (λp' u a1 a2=>⟨p',a1,a2⟩) f ⟨f.toks,on _,rfl⟩) ?_ λ_ _ d=>d)
   · obtain⟨w,f',rfl⟩:=J1;have c':∀(a:Nat)(z:YQ),(μ.toArray.zip o.toArray)[a]?=Z z->μ[a]?=Z z.1:=λa z hz=>by
      have s:a<o.length:=by have:=(VZ.mp hz).1;rwa[v]at this
      rw[E a s]at hz;cases hz;have:a<μ.length:=by omega
      simp[this,Xm]
     obtain⟨a1,c1,xs,ys,rs,i',h',t1,t2,it,eb⟩:=hC I i j x.1 y.1 (by omega) (c' i x ex) (c' j y ey);rw[i',h'];exact zL (f:={f with heap:=f.heap,toks:=w}) m t1 t2 it ⟨⟨w,f',rfl⟩,eb⟩
   ·rintro⟨⟨⟩,u⟩s'⟨⟨w,_,rfl⟩,p',F,g'⟩;dsimp only;have Fl:=F.lt;have Fi:=F.inj;have Fs:=F.so;rw[v]at Fl Fi Fs;refine Fq (f:={f with heap:=f.heap,toks:=w}) s ha b' hz (by rw[F.sz,v];exact kr N) g' ?_;refine h p' ((Y2 u).map (·.2)) w (by rw[YB,F.sz,v]) (λa s=>?_) (sj g Fl Fi Fs) Fl;rw[abl,F.at' a (by rw[v];exact s),E _ (Fl a s)];simp[Fl a s,Xm]
end TS
namespace FD
open L2 TS
theorem ss:∀{a:List Q}(n:Nat),à a=L->à (a.take n)=L|[],n,_=>by simp[à]|d::a,0,_=>by simp[à]|d::a,n+1,h=>by simp only[à,m_]at h;simp only[List.take_succ_cons,à,m_];exact⟨h.1,ss n h.2⟩
theorem ML{N:O}{E:List (List Q)}{P:abT->ge->Prop}(G:í a.prog a.w a.K a.mg a.base Į b e Ä y (ŋ a.K Ψ y.length))(hr:Ü b I)(S':I.frames=a.A.frames)(hb:ð a.K Ä y [])(h1:y.length=1)(w:Í a (ζ++[(A,VP "list" #[] k)]) Λ g f)(hk:g N=Z (.lst []))(m':N≠A)(rv:Ï ι μ)(p':S a.K g H ι)(im:à H=L)(C':∀(i:Nat)(d:Q),H[i]?=Z d->∃es,E[i]?=Z es/\Ψ [d]=Z (.ok (.tup es)))(a3:E.length=H.length)(Q':ku E=L)(q':à (E.map Q.tup)=L)(a0:∀H',H' A=U->ua a ζ H' A)(h:∀(s':ge)(H':Hp)(p:Nat->Nat)(b':Array B)(c:Nat),Í a ζ Λ H' s'->H' A=U->(∀m u,m≠N->g m=Z u->H' m=Z u)->s'.heap.get? A=Z (VP "list" b' c)->b'.size=μ.length->(∀b,b<μ.length->b'[b]?=μ[p b]?)->(t_ μ.length).map p=gR (λi j=>!(λi j=>Ė (iI E i) (iI E j)) j i) (t_ μ.length)->(∀b,b<μ.length->p b<μ.length)->P (.done (.ret .none)) s'):v_ (E_ a.prog a.w) I (ksk_rest A (.ref e) D μ.toArray k (.ref N)) P τ f:=by
 have c':=Q';simp only[ku,m_,decide_eq_true_eq,UY]at c';have hR:∀r∈E,Ĉ r=Ĉ (E.headD [])/\HR r=L/\lr (Ĉ r)=L:=λr hr=>⟨(c'.2 r hr).1.1,(c'.2 r hr).1.2,(c'.2 r hr).2⟩;have a7:H.length=μ.length:=by have g1:=gS p';have g2:=rv.length;omega
 have U':μ.length<64:=by omega
 unfold ksk_rest;refine e_ (W5 ?_);first|rw[List.forIn_toArray]|(rw[<-X4];simp only[aa1])|rw[<-X4]
 refine e_ (ksk_fold (λi s'=>∃H' zs,Í a (ζ++[(A,VP "list" #[] k)]) Λ H' s'/\H' N=Z (.lst zs)/\(∀m u,m≠N->g m=Z u->H' m=Z u)/\S a.K H' ((E.map Q.tup).take i) zs) μ 0 f ⟨g,[],w,hk,λ_ _ _ s=>s,rfl⟩ ?step ?done);case step=>
  rintro j x s' hx⟨H',zs,I',h',sm,rz⟩;simp only[Xd]at rz⊢;have hj:j<μ.length:=(H_.mp hx).1;have o':H[j]?=Z (H[j]'(by omega)):=I_ (by omega);obtain⟨es,er,eF⟩:=C' j _ o';have t':ι[j]?=Z (ι[j]'(by have:=rv.length;omega)):=I_ (by have:=rv.length;omega);have a8:j<ι.length:=by have:=rv.length;omega
  have a4:j<H.length:=by omega
  obtain⟨u,eu,ru⟩:=rv.get t';rw[hx]at eu;cases eu;have z':∀m ys,g m=Z (.tup ys)->H' m=Z (.tup ys):=λm ys q=>sm m _ (λz=>by rw[z,hk]at q;cases q) q;have rd:Ô a.K H' H[j] ι[j]:=Ô.tups z' _ _ (l7 im o') (reps_at p' j _ _ o' t');refine e_ (XR (U5 (MK G hr S' hb I' ru rd h1 eF (τ:=λ_ _=>False)) (λu' s2 he=>?_) λ_ _ z=>z.elim));obtain⟨v',H2,I2,D',k',E'⟩:=he;dsimp only;have n':H2 N=Z (.lst zs):=k' _ _ h';obtain⟨z,d',n,a',R',ek⟩:=I2.lstM n';have J':zs.length<=62:=by have:=gS rz;simp at this;omega
  have w':d'.length<=62:=by have:=a'.length;omega
  refine e_ (ZL ek rfl ?_ (by simp;exact kr (by omega)) (by simp;omega));have i':∀m ys,H2 m=Z (.tup ys)->(ß H2 N (.lst (zs++[v']))) m=Z (.tup ys):=λm ys q=>by rw[aA (λz=>by rw[z,n']at q;cases q)];exact q
  obtain⟨n2,e'⟩:∃n2,(s2.heap.update N (U1 (·.push u'))).get? N=Z (VP "list" (d'.toArray.push u') n2):=⟨_,YX (c:="list") ek (·.push u')⟩;refine j_ ⟨rfl,ß H2 N (.lst (zs++[v'])),zs++[v'],?_,aw,λm u hb q=>?_,?_⟩
  · refine I2.write (t':=s2.toks) (x:=N) (e:=N) (o:=.lst (zs++[v'])) (by rw[n'];trivial) (.inl rfl) (λm u hb q=>?_) ⟨_,e'⟩ ?_;·rw[Wj _ _ _ _ hb];exact q
    ·refine⟨by simp;exact kr (by omega),d'++[u'],n2,a'.append (.cons D' .nil),?_⟩;simpa[VP]using e'
  ·rw[aA hb];exact k' _ _ (sm m u hb q)
  · have B':(E.map Q.tup).take (j+1)=(E.map Q.tup).take j++[.tup es]:=by rw[List.take_add_one,P_,er];rfl
    rw[B'];have g1:S a.K (ß H2 N (.lst (zs++[v']))) ((E.map Q.tup).take j) zs:=S.tups i' _ _ (ss j q') (S.mono k' _ _ rz);have F':ğ (.tup es)=L:=l7 q' (n:=j) (by rw[P_,er];rfl);exact g1.append ⟨v',[],rfl,Ô.tups i' _ _ F' E',rfl⟩
 case done=>
  rintro s'⟨H',zs,I',h',sm,rz⟩;have g':S a.K H' (E.map Q.tup) zs:=by rw[Yu (by simp;omega)]at rz;exact rz
  obtain⟨z,d',n,a',R',ek⟩:=I'.lstM h';have J':zs.length=μ.length:=by have:=gS g';simp at this;omega
  have w':d'.length=μ.length:=by have:=a'.length;omega
  refine e_ (Y9 ek rfl ?_);obtain⟨fs,f1,R⟩:=sr I' (λr O'=>(hR r O').2) g' a';have l':=I'.pin (A,VP "list" #[] k) (by simp);refine QQ (Η:=λi j=>Ė (iI E i) (iI E j)) (k:=n) ek l'.1 m' w' U' (HS hR) f1 R (λA2 i j x v hA ex ey=>?_) λp b' tk o1 o2 o3 o4=>?_
  · obtain⟨a1,a6,t1,y',q1,q2,q3,q4,q5,q6,q7⟩:=zU I' i x g' a' ex;obtain⟨a2,a5,t2,x',p1,p2,p3,p4,p5,p6,p7⟩:=zU I' j v g' a' ey;have m1:=hR y' (UG q1);have m2:=hR x' (UG p1);obtain⟨rs,i1,i2⟩:=vW (A:=A2) (z:=L) I' (by have:=hr.un;omega) (λ_ _ s=>s) (λ_=>m1.2.1) (m1.1.trans m2.1.symm) m1.2.2 q4 p4 q5 p5;refine⟨a1,a2,t1.toArray,t2.toArray,rs,q3,p3,q7,p7,by simpa using i1,?_⟩;have N':t1.toArray.size=t2.toArray.size:=by
     have k1:=q5.length;have k2:=p5.length;have k3:=gS q4;have k4:=gS p4;have k5:(Ĉ y').length=(Ĉ x').length:=by rw[m1.1,m2.1]
     simp[Ĉ]at k5;simp;omega
    rw[N',decide_eq_false (VM _),i2,uA q1,uA p1]
  · obtain⟨n2,e'⟩:∃n2,(s'.heap.update N (U1 λ_=>#[])).get? N=Z (VP "list" #[] n2):=⟨_,YX (c:="list") ek (λ_=>(#[]:Array B))⟩;have W:=I'.write (t':=tk) (h':=s'.heap.update N (U1 λ_=>#[])) (x:=N) (e:=N) (o:=.lst []) (by rw[h'];trivial) (.inl rfl) (λm u hb q=>by rw[Wj _ _ _ _ hb];exact q) ⟨_,e'⟩ ⟨UQ _,[],n2,.nil,by simpa[VP]using e'⟩;have W2:=W.unpinned;have r':ß H' N (.lst []) A=U:=by rw[aA m'.symm];exact l'.2.1
    have T':(s'.heap.update N (U1 λ_=>#[])).get? A=Z (VP "list" #[] k):=by rw[Wj _ _ _ _ m'.symm];exact l'.1
    obtain⟨g0,g1,g2,g3⟩:=a0 _ r';have T:=W2.turned (t':=tk) (h':=(s'.heap.update N (U1 λ_=>#[])).update A (U1 λ_=>b')) (it:=A) (λm o hb q=>by rw[Wj _ _ _ _ hb];exact q) g0 g1 g3.1 g3.2.1 g3.2.2;exact h _ _ p b' _ T r' (λm u hb q=>by rw[aA hb];exact sm m u hb q) (YX T' λ_=>b') o1 o2 o3 o4
noncomputable def jV(F:Ö):List Q->Option (List (List Q))|[]=>Z []|d::r=>match F [d],jV F r with|some (.ok (.tup b)),Z a=>Z (b::a)|_,_=>U
def mT(d:List (List Q))(e:List Q):List Q:=(gR (λa b=>!Ė b.1 a.1) (d.zip e)).map Prod.snd
def vX(F:Ö)(b:List Q):Option (Rs Q):=match jV F b with|some a=>if ku a=L/\à b=L/\à (a.map Q.tup)=L then Z (.ok (.lst (mT a b)))else U|none=>U
theorem oU{F:Ö}:∀{f:List Q}{a:List (List Q)},jV F f=Z a->a.length=f.length/\∀(i:Nat)(d:Q),f[i]?=Z d->∃b,a[i]?=Z b/\F [d]=Z (.ok (.tup b))
 |[],a,h=>by cases h;exact⟨rfl,λi d e=>by simp at e⟩|d::f,a,h=>by
  unfold jV at h;split at h;·rename_i b o j g;cases h;obtain⟨m,k⟩:=oU g;refine⟨by simp[m],λi n e=>?_⟩;cases i with|zero=>simp at e;subst e;exact⟨b,rfl,j⟩|succ i=>exact k i n (by simpa using e)
  ·cases h
theorem zV{a:List (List Q)}(f:a.length=H.length):(gR (λi j=>!(λi j=>Ė (iI a i) (iI a j)) j i) (t_ H.length)).map (λi=>H.getD i .non)=mT a H:=by
 have e:(t_ H.length).map (λi=>(iI a i,H.getD i .non))=a.zip H:=by
  apply abZ;·simp[f]
  · intro i d g;simp only[S_,Yx]at d;have b:i<a.length:=by omega
    simp only[XJ,List.getElem_range,abX];rw[uA (I_ b)];simp[Xm,d]
 unfold mT;rw[<-e,<-sort_map (i:=λi j=>!(λi j=>Ė (iI a i) (iI a j)) j i) (λi=>(iI a i,H.getD i .non)) _ λx _ y _=>rfl,VE];rfl
theorem zW{o:Obj}(a:N.get? e=Z o):eY [e] N=[(e,o)]:=by simp[eY,a]
theorem MM{s:List (List Q)}{P:abT->ge->Prop}(G:í a.prog a.w a.K a.mg a.base Į b e Ä y (ŋ a.K Ψ y.length))(hr:Ü b I)(o':I.frames=a.A.frames)(N:ð a.K Ä y [])(h1:y.length=1)(r:Í a ζ Λ g f)(ho:f.heap.get? A=Z (VP "list" μ.toArray k))(h':g A=U)(a':∀E,E A=U->ua a ζ E A)(rv:Ï ι μ)(b':S a.K g H ι)(im:à H=L)(l':∀(i:Nat)(d:Q),H[i]?=Z d->∃es,s[i]?=Z es/\Ψ [d]=Z (.ok (.tup es)))(k':s.length=H.length)(c':ku s=L)(n':à (s.map Q.tup)=L)(h:∀(s':ge)(E:Hp)(p:Nat->Nat)(w:Array B)(c:Nat),Í a ζ Λ E s'->E A=U->Ñ g E->s'.heap.get? A=Z (VP "list" w c)->w.size=μ.length->(∀b,b<μ.length->w[b]?=μ[p b]?)->(t_ μ.length).map p=gR (λi j=>!(λi j=>Ė (iI s i) (iI s j)) j i) (t_ μ.length)->(∀b,b<μ.length->p b<μ.length)->P (.done (.ret .none)) s'):v_ (E_ a.prog a.w) I (ksk_tree A (.ref e) D) P τ f:=by
 have i':μ.length<64:=by simp only[ku,m_,decide_eq_true_eq]at c';have g1:=gS b';have g2:=rv.length;omega
 have ha:A<f.heap.objs.size:=z_ ho;obtain⟨g0,g1,g2,g3⟩:=a' _ h';unfold ksk_tree;refine e_ (Y9 ho rfl ?_);refine e_ (ZL ho rfl ?_ (kr (by simpa using i')));obtain⟨e1,e'⟩:∃e1,(f.heap.update A (U1 λ_=>(#[]:Array B))).get? A=Z (VP "list" #[] e1):=⟨_,YX ho λ_=>#[]⟩;have I1:=r.turned (t':=f.toks) (h':=f.heap.update A (U1 λ_=>(#[]:Array B))) (it:=A) (λm o N q=>by rw[Wj _ _ _ _ N];exact q) g0 g1 g3.1 g3.2.1 g3.2.2;refine e_ (seqEpoch_at e' rfl ?_);refine e_ (wpAny_newTuple ?_ (kr (by simpa using i')));refine e_ (wpAny_newList ?_);refine Vm ?_;have I2:=I1.kept (t':=f.toks) (h':=(f.heap.update A (U1 λ_=>(#[]:Array B))).push (VP "tuple" μ.toArray 0)) λm u q=>l_ _ q;have m':((f.heap.update A (U1 λ_=>(#[]:Array B))).push (VP "tuple" μ.toArray 0)).objs.size=f.heap.objs.size+1:=by rw[size_push',Heap.size_update]
 have fr:g ((f.heap.update A (U1 λ_=>(#[]:Array B))).push (VP "tuple" μ.toArray 0)).objs.size=U:=I2.hok.fresh (on _);have I3:=I2.laid (t':=f.toks) (h':=((f.heap.update A (U1 λ_=>(#[]:Array B))).push (VP "tuple" μ.toArray 0)).push (VP "list" #[] 0)) (o:=.lst []) (λm u q=>l_ _ q) (on _) ⟨UQ _,[],0,.nil,w_ _ rfl⟩;have d':(((f.heap.update A (U1 λ_=>(#[]:Array B))).push (VP "tuple" μ.toArray 0)).push (VP "list" #[] 0)).get? A=Z (VP "list" #[] e1):=l_ _ (l_ _ e');have g':((f.heap.update A (U1 λ_=>(#[]:Array B))).push (VP "tuple" μ.toArray 0)).objs.size≠A:=by rw[m'];exact XG (ZA ha)
 have I4:=I3.pinned (fp:=[A]) (λm N=>by
 have:m=A:=by simpa using N
 subst this;exact a' _ (by rw[aA g'.symm];exact h')) (λm N=>by
 have:m=A:=by simpa using N
 subst this;exact⟨_,d',λv z=>by cases z⟩);rw[zW d']at I4;refine ML G hr o' N h1 I4 aw g' rv (S.mono (aJ fr _) _ _ b') im l' k' c' n' a' λs' E p w c J ja sm n o1 o2 o3 o4=>h s' E p w c J ja (λm u q=>sm m u (λz=>?_) ?_) n o1 o2 o3 o4;·rw[z,fr]at q;cases q
 ·rw[aA (λz=>by rw[z,fr]at q;cases q)];exact q
theorem Da{n:List (List Q)}(G:í a.prog a.w a.K a.mg a.base Į b e Ä y (ŋ a.K Ψ y.length))(hr:Ü (b+2) a.A)(hb:ð a.K Ä y [])(h1:y.length=1)(I:Í a ζ Λ g f)(p':∀Q':List B->ge->Prop,(∀h' tk,(∀h o,f.heap.get? h=Z o->h'.get? h=Z o)->f.heap.objs.size<=h'.objs.size->Q' μ {f with heap:=h',toks:=tk})->v_ (E_ a.prog a.w) a.A.in1 (collect (.ref A)) Q' τ f)(rv:Ï ι μ)(N:S a.K g H ι)(r':jV Ψ H=Z n)(l':ku n=L)(im:à H=L)(q':à (n.map Q.tup)=L)(q:∀(k:O)(d':List V)(r:Hp),Ñ g r->r k=Z (.lst d')->S a.K r (mT n H) d'->È (.ref k) r):v_ (E_ a.prog a.w) a.A (call (.builtin "sorted") [.ref A] [(b_ "key",.ref e)]) (EP a ζ Λ È) τ f:=by
 obtain⟨w,n'⟩:=oU r';have w':H.length=ι.length:=gS N;have i':ι.length=μ.length:=rv.length;have v':μ.length<64:=by simp only[ku,m_,decide_eq_true_eq]at l';omega
 refine call_function_entry_kw kind_sorted plain_sorted entry_sorted (ksk_s1 _ _) ?_;unfold WR.«sorted»;refine e_ (m:=checkCount "sorted" 1 1 _) (j_ ?_);refine e_ (p' _ λm g' up gr=>?_);refine e_ (wpAny_newList ?_ (kr v'));have I1:=I.kept (t':=g') (h':=m.push (VP "list" μ.toArray 0)) λh u z=>l_ _ (up h u z);have m':(m.push (VP "list" μ.toArray 0)).get? m.objs.size=Z (VP "list" μ.toArray 0):=w_ _ rfl;have t':g m.objs.size=U:=I.hok.fresh (gr);have b':∀r,r m.objs.size=U->ua a ζ r m.objs.size:=λr hn=>I.fpOk (gr) hn;refine e_ (Vm (wpAny_call_entry_kw slot_list_sort ⟨_,m',rfl⟩ entry_list_sort ?body (ksk_l1 _ _)));case body=>
 show v_ (E_ a.prog a.w) a.A.in1.in1 (WR.«list.sort» ⟨[.ref m.objs.size],[(b_ "key",.ref e)]⟩) _ _ _;rw[ksk_t1];refine MM (f:={f with heap:=m.push (VP "list" μ.toArray 0),toks:=g'}) G (hr.in1.in1) rfl hb h1 I1 m' t' b' rv N im n' w l' q' λs' r p s cc J ja sm j o1 o2 o3 o4=>⟨_,rfl,?_⟩;refine j_ ⟨_,rfl,?_⟩;obtain⟨g0,g1,g2,g3,g4,g5⟩:=b' _ ja;have J2:=J.pinned (fp:=[m.objs.size]) (λh a'=>by
  have:h=m.objs.size:=by simpa using a'
  subst this;exact b' _ ja) (λh a'=>by
  have:h=m.objs.size:=by simpa using a'
  subst this;exact⟨_,j,λv z=>by cases z⟩);rw[zW j]at J2;have hV:Ï ((t_ μ.length).map λb=>ι.getD (p b) .non) s.toList:=by
  refine xl (by simp[o1]) λi v u E eu=>?_;have hi:i<μ.length:=by have:=(H_.mp eu).1;simp[o1]at this;omega
  have c':s[i]?=Z u:=by simpa using eu
  rw[o2 i hi]at c';rw[P_,Y3 hi]at E;simp only[Xi,Yq]at E;have hp:p i<ι.length:=by rw[i'];exact o4 i hi
  have e1:ι[p i]?=Z v:=by rw[I_ hp,<-E];simp[Xm,hp]
  obtain⟨u',e2,r2⟩:=rv.get e1;rw[e2]at c';cases c';exact r2
 have hR:S a.K r (mT n H) ((t_ μ.length).map λb=>ι.getD (p b) .non):=by
  have hn:μ.length=H.length:=by omega
  rw[<-zV w,<-hn,<-o3,VE];refine xj (by simp) λi d v ed E=>?_;have hi:i<μ.length:=by have:=(H_.mp ed).1;simpa using this
  rw[P_,Y3 hi]at ed E;simp only[Xi,Yq,YL]at ed E;have hp:p i<ι.length:=by rw[i'];exact o4 i hi
  have k':p i<H.length:=by omega
  refine reps_at (S.mono sm _ _ N) (p i) d v ?_ ?_;·rw[I_ k',<-ed];simp[Xm,k']
  ·rw[I_ hp,<-E];simp[Xm,hp]
 have e':(m.objs.size,VP "list" s cc)=(m.objs.size,Hn s.toList cc):=by simp[VP,Hn]
 rw[e']at J2;obtain⟨x',J3⟩:=Í.retrack J2 hV (kr (by simp;omega)) (λo' z=>by
  exfalso;rcases g3 with g3|g3;·exact absurd (I.ok) (λ_=>by have:=YM (h:=a.s₀.heap) (a:=m.objs.size) (UD I.sz (gr));rw[this]at z;cases z)
  ·have:=YM (h:=a.s₀.heap) (a:=m.objs.size) g3;rw[this]at z;cases z) g5;refine⟨.ref m.objs.size,_,J3,rfl,q _ _ _ (λh u z=>?_) aw (S.mono (aJ ja _) _ _ hR)⟩;exact aJ ja _ h u (sm h u z)
end FD
namespace TS
open L2 FD
noncomputable def okF(a:List Nat):Bool:=a.all λk=>k !=0&&s_ (k<4)
end TS
namespace FD
open L2 TS
def ao(X:C)(N:List Str)(b:VU)(a:O)(s:ge)(H:Hp)(d:List O):C:={X with N:=N,s₀:=s,H₀:=H,env:=abq b (Vc (a+1) b.names (lS b.names X.env [])) a X.env,outer:=X.stack,stack:=X.stack,ex:=d,fn:=λy=>b.names.lookup y==Z .cell,pn:=[],xe:=λ_ _=>False}
structure jW(osc scope:VU)(cs:List (Str×Nat))(N:List Str):Prop where
 kind:scope.kind=.function
 one:∀y∈scope.names,y.2=.cell->scope.names.lookup y.1=Z .cell
 names:∀y∈scope.names,y.2=.local->scope.names.lookup y.1=Z .local
 free:∀y∈scope.names,y.2=.free->osc.names.lookup y.1=Z .cell\/osc.names.lookup y.1=Z .free
 caps:∀c∈cs,N[c.2]?=Z c.1/\scope.names.lookup c.1=Z .free
theorem kx:∀(b:List (Str×WU))(lo:Nat)(a:List (Str×O)),Vc lo b a=Vc lo b []++a
 |[],_,_=>rfl|(n,k)::r,lo,a=>by
  unfold Vc;split;·rw[kx r (lo+1) ((n,lo)::a),kx r (lo+1) [(n,lo)],Vn];rfl
  ·exact kx r lo a
theorem zX:∀{a:List (Str×WU)}{lo:Nat}{n:Str}{c:O},(n,c)∈Vc lo a []->(n,V9)∈a
 |[],_,_,_,h=>(nomatch h)|(m,k)::r,lo,n,c,h=>by
  unfold Vc at h;split at h
  · rename_i b;rw[kx]at h;rcases R_.mp h with q|q;·exact rl _ (zX q)
    · have e:n=m:=by simp at q;exact q.1
      have ek:k=.cell:=by simpa using b
      subst e ek;exact pi
  ·exact rl _ (zX h)
theorem vY:∀{a:List (Str×WU)}{lo:Nat}{n:Str},(n,V9)∈a->((Vc lo a []).lookup n).isSome=L
 |[],_,_,h=>(nomatch h)|(m,k)::r,lo,n,h=>by
  unfold Vc;rcases uk.mp h with e|q;·cases e;rw[if_pos (by decide),kx,Xf];cases b:(Vc (lo+1) r []).lookup m with|some _=>rfl|none=>simp
  · split;·rw[kx,Xf];have:=vY (lo:=lo+1) q;cases b:(Vc (lo+1) r []).lookup n with|some _=>rfl|none=>rw[b]at this;cases this
    ·exact vY q
theorem HU{i:List (Str×O)}{a:Env}{Q:Env->ge->Prop}(m:χ.kind=.function)(k:Q (newEnv χ f.heap.objs.size e (Vc (f.heap.objs.size+1) χ.names i) d U .none (Z a) Zh) {f with heap:=pushCells (f.heap.push {cls:=.type "dict",data:=.dict #[]}) χ.names}):v_ Æ I (Zf χ e i [] d U .none (Z a)) Q τ f:=by simp only[Zf,abj,if_true];refine e_ (wpAny_alloc ?_);refine e_ (wpAny_layCells _ (λj b h=>by cases g:b==V9<;>simp[g]) _ _ _ _ ?_);rw[show({f with heap:=f.heap.push {cls:=.type "dict",data:=.dict #[]}}:ge).heap.objs.size=f.heap.objs.size+1 from U7 ..];refine e_ ?_;rw[Yy];exact j_ (j_ k)
theorem zY{E:List (Str×Nat)}(ok:jW a.env.scope χ E a.N)(I:Í a ζ Λ g f)(b':∀j∈ο,ua a ζ g j)(m':∀j∈ο,j<f.heap.objs.size)(hC:f.heap.objs.size<=e)(p':N.Ns e λ_=>U)(H:∀j o,f.heap.get? j=Z o->N.get? j=Z o)(g':CellsOk N (e+1) (Vc (e+1) χ.names [])):Í (ao a (y++E.map (·.1)) χ e f g ο) [] (rO y.length E Λ) g {f with heap:=N,toks:=b}:=by
 have w:∀n c,(lS χ.names a.env []).lookup n=Z c->a.env.cells.lookup n=Z c:=λn c h=>by
  rcases oA _ _ h with q|⟨q1,q2⟩;·simp at q
  ·obtain⟨c',e'⟩:=I.ok.has n (ok.free _ q1 rfl);rw[e']at q2;rw[e',q2]<;>rfl
 have lk:∀n c,(ao a (y++E.map (·.1)) χ e f g ο).env.cells.lookup n=Z c->(n,c)∈Vc (e+1) χ.names []\/((n,V9)∉χ.names/\(lS χ.names a.env []).lookup n=Z c):=λn c h=>by have e':(Vc (e+1) χ.names (lS χ.names a.env [])).lookup n=Z c:=h;rw[kx,Xf]at e';cases hl:(Vc (e+1) χ.names []).lookup n with|some c'=>rw[hl]at e';cases e';exact .inl (mem_of_lookup hl)|none=>rw[hl]at e';refine .inr ⟨λA=>?_,e'⟩;have:=vY (lo:=e+1) A;rw[hl]at this;cases this
 have k':∀n c,(n,V9)∉χ.names->(lS χ.names a.env []).lookup n=Z c->(ao a (y++E.map (·.1)) χ e f g ο).env.cells.lookup n=Z c:=λn c A h=>by show(Vc (e+1) χ.names (lS χ.names a.env [])).lookup n=Z c;rw[kx,Xf];cases hl:(Vc (e+1) χ.names []).lookup n with|some c'=>exact absurd (zX (mem_of_lookup hl)) A|none=>exact h
 have big:∀n c,(n,c)∈Vc (e+1) χ.names []->f.heap.objs.size<c:=λn c A=>Uz (Nat.lt_succ_of_le hC) (g'.empty n c A).2;have i':∀n c,(lS χ.names a.env []).lookup n=Z c->c<f.heap.objs.size:=λn c h=>by obtain⟨v,o,ho,_⟩:=I.cell n c (w n c h);exact z_ ho
 have inj:∀d z c,(ao a (y++E.map (·.1)) χ e f g ο).env.cells.lookup d=Z c->(ao a (y++E.map (·.1)) χ e f g ο).env.cells.lookup z=Z c->d=z:=λd z c e1 e2=>by
  rcases lk d c e1 with p|⟨_,p⟩<;>rcases lk z c e2 with q|⟨_,q⟩;·exact name_of_addr g'.apart p q
  ·exact absurd (aag (big d c p) (i' z c q)) (VM _)
  ·exact absurd (aag (big z c q) (i' d c p)) (VM _)
  ·exact I.ok.inj d z c (w d c p) (w z c q)
 refine⟨⟨I.ok.mod,ok.kind,I.ok.glob,I.ok.blt,hC,inj,λd hy=>?_,λd c q' h=>?_,I.ok.hd,I.ok.frames,.inl rfl,λj hb=>⟨λz=>?_,λd c h=>?_⟩,I.bs,UD I.ok.bsz I.sz,λj o h hb=>?_,λj hb z=>?_,I.stack,I.stkFree⟩,rfl,I.bare,Un.kept H,⟨_,p',λi d v h1 h2 h3=>?_⟩,λd c h=>?_,I.hok.fresh hC,λd c h=>?_,λp hp=>absurd (show p∈([]:List (O×Obj))from hp) (by simp),I.hok.kept H,by simp[rO,ao]⟩
 · have A:(d,V9)∈χ.names\/(d,VW)∈χ.names:=by
    rcases hy with hy|hy
    · rcases lK hy with q|⟨_,q⟩;·exact .inl q
      ·exact .inr q
    · rcases lK hy with q|⟨q,_⟩;·exact .inr q
      ·cases q
   by_cases d':(d,V9)∈χ.names;·obtain⟨c,h'⟩:=WP.mp (vY (lo:=e+1) d');refine⟨c,?_⟩;show(Vc (e+1) χ.names (lS χ.names a.env [])).lookup d=Z c;rw[kx,Xf,h'];rfl
   ·obtain⟨c,h'⟩:=WP.mp (pI (d:=a.env) χ.names [] (A.resolve_left d'));exact⟨c,k' d c d' h'⟩
 · have o':χ.names.lookup d=Z .cell:=by simpa[ao]using q'
   rcases lk d c h with p|⟨p,_⟩;·exact Za (big d c p)
   ·exact absurd (ig o') p
 ·have:=m' j hb;rw[z]at this;exact absurd (Uz this hC) (VM _)
 · rcases lk d c h with p|⟨_,p⟩;·exactλz=>absurd (aag (big d c p) (z▸m' j hb)) (VM _)
   ·exact(b' j hb).2.2.2.2.1 d c (w d c p)
 · rcases(b' j hb).2.2.2.1 with z|z;·exact I.ok.noex j o h z
   ·exact absurd (Uz (z_ h) (UD I.ok.bsz z)) (VM _)
 · rcases uk.mp (I.stkSub j z)with q|q;·exact(b' j hb).2.1 q
   ·exact(b' j hb).2.2.1 q
 ·obtain⟨k,rfl,h4⟩:=rP h2;have s:(y++E.map (·.1))[y.length+k]?=Z d:=h1;rw[L_ (by simp)]at s;simp only[ZZ]at s;rw[P_]at s;cases hc:E[k]? with|none=>rw[hc]at s;simp at s|some c=>
    rw[hc]at s;have ey:c.1=d:=by simpa using s
    subst ey;rw[P_,hc]at h4;simp only[Xi,Yq]at h4;have r':Λ[c.2]?=Z (Z v):=by cases q:Λ[c.2]? with|none=>rw[q]at h4;simp at h4|some o=>rw[q]at h4;simp at h4;rw[h4]
    obtain⟨hN,hf⟩:=ok.caps c (UG hc);have hv:=ok.free _ (ig hf) rfl;obtain⟨mm,_,hl⟩:=I.loc;obtain⟨u,r,l⟩:=hl c.2 c.1 v hN r' (.inr hv);refine⟨u,r,.inr ⟨lL hf,?_⟩⟩;rcases l with⟨l,_⟩|⟨_,m,ha,o,ho,hd⟩
    · have l':a.env.scope.names.lookup c.1=Z .local:=l;rcases hv with z|z;·rw[l']at z;cases z
      ·rw[l']at z;cases z
    ·obtain⟨a',n'⟩:=WP.mp (pI (d:=a.env) χ.names [] (ig hf));have e2:=w _ _ n';rw[ha]at e2;cases e2;exact⟨m,k' _ _ (λA=>by have z:=ok.one _ A rfl;rw[hf]at z;cases z) n',o,H _ _ ho,hd⟩
 · rcases lk d c h with p|⟨_,p⟩;·exact⟨U,(g'.empty d c p).1⟩
   ·obtain⟨v,o,ho,hd⟩:=I.cell d c (w d c p);exact⟨v,o,H _ _ ho,hd⟩
 · rcases lk d c h with p|⟨_,p⟩;·exact I.hok.fresh (Za (big d c p))
   ·exact I.freeC d c (w d c p)
def MN(X:C)(k:List Str)(p:List (Str×Nat))(d:VU)(a:O)(A:ge)(u:Hp)(s:List O)(z:Nat->N_->Prop)(o y:List Q)(b:Q->Ev->Option Ev)(q:Option è)(E:Ò)(r:Ev)(H:V->Prop)(m:Nat)(j:ge):Prop:=∃i f e n h g,(∀v∈h,H v)/\m=o.length-i/\i<=o.length/\Í (ao X (k++p.map (·.1)) d (a+1) A u s) [] f e j/\Û X.K e f (i5 k.length p r)/\z i j.heap/\(∀b∈s,e b=U)/\e a=U/\LAt j.heap a g/\Ï h g/\S X.K e n h/\n.length<=i/\Ñ u e/\(match lN b q E (i5 k.length p r) (o.drop i)with|some w=>n++w=y|none=>False)
theorem xm{X:C}{f':List (O×Obj)}{σ:L2.St}{tg u' x':r_}{r':List r_}{scope:VU}{O':Pos}{A:List Str}{g':Option è}{fe:Ò}{b:Q->Ev->Option Ev}{js:List Nat}(m:List (Str×Nat))(ok:jW X.env.scope scope m X.N)(hc:X.calm=L)(c1:∀f s H j,FG (ao X (A++m.map (·.1)) scope f s H j) tg b)(P0:Hp->V->Prop)(b1:∀f s H j,(∃f' σ,Í X f' σ H s)->∀(f':List (O×Obj))(s9:ge)(a':L2.St)(H9:Hp)(ρ:Ev)(y:Q),Í (ao X (A++m.map (·.1)) scope f s H j) f' a' H9 s9->Û X.K H9 a' ρ->Ñ H H9->fe ρ=Z (.ok y)->v_ (E_ X.prog X.w) X.A (eval u' (ao X (A++m.map (·.1)) scope f s H j).env) (EP (ao X (A++m.map (·.1)) scope f s H j) f' a' λv k'=>Ñ H9 k'/\Ô X.K k' y v/\P0 H v) (λ_ _=>False) s9)(b0:∀f s H j,(∃f' σ,Í X f' σ H s)->yN (ao X (A++m.map (·.1)) scope f s H j) r' g')(J':∀ρ d N',b d (i5 A.length m ρ)=Z N'->fgt js N'=i5 A.length m ρ){ρ:Ev}{N:ge}{it:O}{j:List O}{tn:Nat->N_->Prop}{J:It}{I:Hp}(E:Û X.K I σ ρ)(I2:Í X f' σ I N)(T:BE X.prog X.w X.K tg J j it tn)(B':tn 0 N.heap)(R:∀b∈j,ua X f' I b){ds ys:List Q}(wk:P' X.K J ds I)(f0:ds.length<=100000)(c0:ys.length<=100000)(hm:lN b g' fe (i5 A.length m ρ) ds=Z ys){RR:B->O->abh->ge->Prop}(d2:∀(a f:O)(s6:ge)(H5:Hp)(vs:List V)(m6:Str->Option B),Í X f' σ (ß H5 a (.lst vs)) s6->H5 a=U->Ñ I H5->S X.K H5 ys vs->(∀v∈vs,P0 I v)->s6.heap.Ns f m6->H5 f=U->f≠a->N.heap.objs.size<=f->RR (.ref a) f (.ok .next) s6):v_ (E_ X.prog X.w) X.A (newList []) (λa2 a6=>v_ (E_ X.prog X.w) X.A (Zf scope X.env.globals (lS scope.names X.env []) [] X.env.qual U .none (Z X.env)) (λz' m'=>Xp (E_ X.prog X.w) X.A (.compStart (.ListComp u' [⟨tg,x',r',0⟩] scope O') 0 (.ref it) a2 {z' with scope:=relabel scope X.env}) (RR a2 z'.locals) m') X.xe a6) X.xe N:=by
 have n':∀b∈j,b<N.heap.objs.size:=λb g=>by obtain⟨o,ho,_⟩:=T.obj _ _ B' b g;exact z_ ho
 refine Vl (HU ok.kind ?_);dsimp only;generalize E':N.heap.push {cls:=.type "list",dict:=U,data:=.seq ([]:List B).toArray}=P2;obtain⟨a,hD⟩:∃a,N.heap.objs.size=a:=⟨_,rfl⟩;have hC:P2.objs.size=a+1:=by rw[<-E',U7,hD]
 rw[hC,hD];obtain⟨c',d'⟩:∃h,h=pushCells (P2.push {cls:=.type "dict",data:=.dict #[]}) scope.names:=⟨_,rfl⟩;rw[<-d'];have kp:∀b o,P2.get? b=Z o->c'.get? b=Z o:=λb o e=>by rw[d'];exact pushCells_keeps _ _ b o (l_ _ e)
 have D':∀b o,N.heap.get? b=Z o->c'.get? b=Z o:=λb o e=>kp b o (E'▸l_ _ e);have b2:LAt c' a []:=⟨0,kp _ _ (by rw[<-E',<-hD];exact w_ _ rfl)⟩;have c3:c'.Ns (a+1) λ_=>U:=by rw[d',<-hC];exact(Heap.Ns.new P2 (.type "dict")).keeps (pushCells_keeps _ _)
 have d1:CellsOk c' (a+1+1) (Vc (a+1+1) scope.names []):=by have q:=cellsFrom_ok scope.names (P2.push {cls:=.type "dict",data:=.dict #[]}) (a+1+1) [] ⟨λ_ _ hm=>(nomatch hm),ZC⟩ (by rw[U7,hC];exact on _);rw[U7,hC,<-d']at q;exact q
 have I4:Í (ao X (A++m.map (·.1)) scope (a+1) N I j) [] (rO A.length m σ) I {N with heap:=c'}:=zY (b:=N.toks) ok I2 R n' (by rw[hD];exact ZB a) c3 D' d1;have E4:Û X.K I (rO A.length m σ) (i5 A.length m ρ):=yS A.length m E;have HD:I a=U:=I2.hok.fresh (Yt hD);have F':∀b∈j,b≠a:=λb g=>GL (hD▸n' b g);have w':∀s4:ge,s4={N with heap:=c'}->Xp (E_ X.prog X.w) X.A (.compLoop (.ListComp u' [⟨tg,x',r',0⟩] scope O') 0 (.ref it) (.ref a) (abq scope (Vc (a+1+1) scope.names (lS scope.names X.env [])) (a+1) X.env)) (RR (.ref a) (a+1)) s4:=by
  rintro s4 rfl;refine rQ (λk s'=>MN X A m scope a N I j tn ds ys b g' fe ρ (P0 I) k s') ?_ ds.length ⟨0,rO A.length m σ,I,[],[],[],(λv hv=>by cases hv),by simp,UQ _,I4,E4,T.keep _ _ _ B' λb g o e=>D' b o e,λb g=>(R b g).1,HD,b2,.nil,rfl,on _,.refl I,by rw[aaP,hm];rfl⟩;rintro k0 s5⟨i,p',H5,es,vs,h',hP,rfl,e7,I5,E5,t5,d7,D5,l5,v5,r5,e8,e5,hz⟩;have nC:∀b∈j,b≠a+1:=λb g=>Lx (hD▸n' b g);have DL:a≠(ao X (A++m.map (·.1)) scope (a+1) N I j).env.locals:=Sn;have o':∀y c,(ao X (A++m.map (·.1)) scope (a+1) N I j).env.cells.lookup y=Z c->c≠a:=λy c e z=>by obtain⟨v,o,ho,hd⟩:=I5.cell y c e;obtain⟨n,q⟩:=l5;subst z;rw[q]at ho;cases ho;cases hd
  have e3:a∉(ao X (A++m.map (·.1)) scope (a+1) N I j).fs:=λz=>by
   rcases uk.mp (I2.stkSub a z)with q|q;·have z2:=I2.lt;rw[hD]at z2;exact GL z2 q.symm
   ·exact I2.nofs (Yt hD) q
  have Dp:ua (ao X (A++m.map (·.1)) scope (a+1) N I j) [] H5 a:=⟨D5,DL,e3,.inr (Yt hD),o',λp hp=>absurd (show p∈([]:List (O×Obj))from hp) (by simp)⟩;have e2:∀b∈[a],∃o,s5.heap.get? b=Z o/\∀v,o.data≠.cell v:=λb g=>by
   have e:b=a:=by simpa using g
   subst e;obtain⟨n,q⟩:=l5;exact⟨_,q,λv z=>by cases z⟩
  have a3:Í (ao X (A++m.map (·.1)) scope (a+1) N I j) (eY [a] s5.heap) p' H5 s5:=by
   have q:=I5.pinned (fp:=[a]) (λb g=>by
    have e:b=a:=by simpa using g
    subst e;exact Dp) e2;rw[aat]at q;exact q
  have Q':∀b∈j,∀p∈eY [a] s5.heap,p.1≠b:=λb g p hp z=>by
   have e:p.1=a:=by simpa using(mz hp).1
   exact F' b g (z.symm.trans e)
  have y':∀b∈j,ua (ao X (A++m.map (·.1)) scope (a+1) N I j) (eY [a] s5.heap) H5 b:=λb g=>⟨d7 b g,nC b g,I4.ok.exfs b g,.inl g,(I4.ok.exf b g).2,λp hp=>Q' b g p (by simpa[ao]using hp)⟩;have a9:vs.length=es.length:=r5.length;have e4:vs.length=h'.length:=v5.length;by_cases t':i<ds.length
  · refine å (T.item (ao X (A++m.map (·.1)) scope (a+1) N I j) rfl rfl rfl hc i (eY [a] s5.heap) s5 p' H5 _ a3 y' t5 (wk.go i H5 e5 t')) λr s6⟨u,hr,h6⟩=>?_;subst hr;refine å h6 λ_ s7⟨xv,H7,I7,r7,y7,t7,d6⟩=>?_;obtain⟨a1,d,hd,rd⟩:=wk.yld i H5 xv H7 e5 t' y7;rw[i7 hd]at hz;have e0:=I7.pinned (fp:=j) (λb g=>⟨d6 b g,nC b g,I4.ok.exfs b g,.inl g,(I4.ok.exf b g).2,λp hp=>Q' b g p (by simpa[ao]using hp)⟩) (T.obj _ _ t7);have a0:∀{a':L2.St}{H8:Hp}{s8:ge},Í (ao X (A++m.map (·.1)) scope (a+1) N I j) (eY [a] s5.heap++eY j s7.heap) a' H8 s8->tn (i+1) s8.heap/\(∀b∈j,H8 b=U)/\H8 a=U/\LAt s8.heap a h':=λ{a' H8 s8}I8=>by
     refine⟨T.keep _ _ _ t7 λb g o e=>(I8.pin (b,o) (o_ _ (o_ _ (dG g e)))).1,λb g=>?_,?_,?_⟩;·obtain⟨o,e,_⟩:=T.obj _ _ t7 b g;exact(I8.pin (b,o) (o_ _ (o_ _ (dG g e)))).2.1
     ·obtain⟨n,q⟩:=l5;exact(I8.pin (a,_) (o_ _ (K_ _ (dG (by simp) q)))).2.1
     ·obtain⟨n,q⟩:=l5;exact⟨n,(I8.pin (a,_) (o_ _ (K_ _ (dG (by simp) q)))).1⟩
    unfold lN at hz;match g:b d (i5 A.length m ρ)with
    |none=>rw[g]at hz;exact hz.elim|some e'=>
     rw[g]at hz;dsimp only at hz;refine U5 ((c1 (a+1) N I j).h _ s7 p' H7 xv u d (i5 A.length m ρ) e' e0 r7 rd (E5.mono a1) g) (λ_ s8⟨a',H8,I8,d8,E8⟩=>?_) λ_ _ z=>U4 z;have l':=a1.trans d8;have back:∀{A':L2.St}{H9:Hp},Û X.K H9 A' e'->Û X.K H9 A' (i5 A.length m ρ):=λ{A' H9}E9=>by have q:=Û.fgt js E9;rw[J' ρ d e' g]at q;exact q
     have v':∀{H9:Hp}{s9:ge},Í (ao X (A++m.map (·.1)) scope (a+1) N I j) (eY [a] s5.heap++eY j s7.heap) a' H9 s9->Ñ H8 H9->(match(match fe e' with|some (.ok y)=>(match lN b g' fe (i5 A.length m ρ) (ds.drop (i+1))with|some ys=>Z (y::ys)|none=>U)|_=>U)with|some zs=>es++zs=ys|none=>False)->v_ (E_ X.prog X.w) X.A (eval u' (abq scope (Vc (a+1+1) scope.names (lS scope.names X.env [])) (a+1) X.env)) (λxw m'=>v_ (E_ X.prog X.w) X.A (call (.builtin "list.append") [.ref a,xw]) (λ_ a5=>∃k,k<ds.length-i/\MN X A m scope a N I j tn ds ys b g' fe ρ (P0 I) k a5) (Z6 (E_ X.prog X.w) X.A (abq scope (Vc (a+1+1) scope.names (lS scope.names X.env [])) (a+1) X.env) λe s'=>RR (.ref a) (a+1) (.error e) s') m') (Z6 (E_ X.prog X.w) X.A (abq scope (Vc (a+1+1) scope.names (lS scope.names X.env [])) (a+1) X.env) λe s'=>RR (.ref a) (a+1) (.error e) s') s9:=λ{H9 s9}I9 e9 b'=>by match d0:fe e',b' with
     |none,b'=>exact b'.elim|some (.exc c),b'=>exact b'.elim|some (.ok y),b'=>
      refine U5 (b1 (a+1) N I j ⟨_,_,I2⟩ _ s9 a' H9 e' y I9 (E8.mono e9) (e5.trans (l'.trans e9)) d0) (λw C'⟨yv,k',I',a7,d9,b6,b7⟩=>?_) λ_ _ z=>U4 z;obtain⟨b5,b3,a4,b9⟩:=a0 I';refine wW b9 (by omega) λd3 b8 R'=>?_;have b4:Í (ao X (A++m.map (·.1)) scope (a+1) N I j) (eY j s7.heap) a' k' C':=I'.pins_of λp hp=>I'.pin p (o_ _ (o_ _ hp));have e1:Í (ao X (A++m.map (·.1)) scope (a+1) N I j) (eY j s7.heap) a' k' {C' with heap:=d3}:=b4.turned (t':=C'.toks) R' a4 DL (.inr (Yt hD)) o' λp hp z=>by
       have c2:p∈eY j s7.heap:=by simpa[ao]using hp
       exact F' p.1 (mz c2).1 z
      have H':=e9.trans d9;refine⟨ds.length-(i+1),by omega,i+1,a',k',es++[y],vs++[yv],h'++[w],(λv hv=>(R_.mp hv).elim (hP v) λz=>by rw[Uy.mp z];exact b7),rfl,t',e1.pins_of λp hp=>absurd hp (by simp),back (E8.mono H'),T.keep _ _ _ b5 λb g o e=>R' b o (F' b g) e,b3,a4,b8,v5.append (.cons a7 .nil),(S.mono (l'.trans H') _ _ r5).append ⟨yv,[],rfl,b6,rfl⟩,by rw[UX,aaB];omega,e5.trans (l'.trans H'),?_⟩;match e6:lN b g' fe (i5 A.length m ρ) (ds.drop (i+1)),b' with|none,b'=>exact b'.elim|some zs,b'=>dsimp only at b'⊢;rw[Vn];exact b'
     have T':=b0 (a+1) N I j ⟨_,_,I2⟩;cases g' with|none=>cases(show r'=[]from T');exact wpAny_tests_nil (by rw[if_pos rfl];exact v' I8 (.refl H8) hz)|some t=>obtain⟨c,rfl,U'⟩:=T';match i':t e',hz with|none,hz=>simp only[i']at hz|some (.exc c),hz=>simp only[i']at hz|some (.ok L),hz=>simp only[i']at hz;refine wpAny_tests_one (U5 (U'.h _ s8 a' H8 (λb H9=>b=L/\Ñ H8 H9) I8 ⟨_,E8,by rw[i'];exactλH9 e9=>⟨rfl,e9⟩⟩) (λb s9⟨H9,I9,g,e9⟩=>?_) λ_ _ z=>U4 z);subst g;rw[if_pos rfl];exact v' I9 e9 hz|some (.ok D),hz=>simp only[i']at hz;refine wpAny_tests_one (U5 (U'.h _ s8 a' H8 (λb H9=>b=D/\Ñ H8 H9) I8 ⟨_,E8,by rw[i'];exactλH9 e9=>⟨rfl,e9⟩⟩) (λb s9⟨H9,I9,g,e9⟩=>?_) λ_ _ z=>U4 z);subst g;rw[if_neg y_];obtain⟨t9,d4,D9,l9⟩:=a0 I9;exact⟨ds.length-(i+1),by omega,i+1,a',H9,es,vs,h',hP,rfl,t',I9.pins_of λp hp=>absurd hp (by simp),back (E8.mono e9),t9,d4,D9,l9,v5,S.mono (l'.trans e9) _ _ r5,by omega,e5.trans (l'.trans e9),hz⟩
  · have c4:i=ds.length:=by omega
    subst c4;rw[XM]at hz;have S':es++[]=ys:=hz;rw[WA]at S';subst S';refine å (T.done (ao X (A++m.map (·.1)) scope (a+1) N I j) rfl rfl rfl hc ds.length (eY [a] s5.heap) s5 p' H5 _ a3 y' t5 (wk.stop H5 e5)) λr s6⟨hr,I6⟩=>?_;subst hr;have l6:LAt s6.heap a h':=by obtain⟨n,q⟩:=l5;exact⟨n,(I6.pin (a,_) (o_ _ (dG (by simp) q))).1⟩
    obtain⟨m6,n6,_⟩:=I6.loc;have C6:H5 (a+1)=U:=I6.free;have new:ã X.prog X.w (ß H5 a (.lst vs)) s6.heap a (.lst vs):=by obtain⟨n,q⟩:=l6;exact⟨by rw[a9];exact ce c0,h',n,v5,q⟩
    have u6:Un (L2.frs X.stack) j I H5 N.heap s6.heap:=I6.base;have nD:∀b o,N.heap.get? b=Z o->b≠a:=λb o e=>by
     have g:b<a:=by rw[<-hD];exact z_ e
     exact GL g
    have u7:Un (L2.frs X.stack) j I (ß H5 a (.lst vs)) N.heap s6.heap:=⟨u6.keep,u6.slot,λb o e n hx=>by rw[aA (nD b o e)];exact u6.free b o e n hx,u6.there,λb xs q=>by have q':=u6.tups b xs q;rw[aA (aF q' D5)];exact q',λb o u q=>by have q':=u6.frzs b o u q;rw[aA (aF q' D5)];exact q',λb ps q=>by obtain⟨a8,q'⟩:=u6.tbls b ps q;exact⟨a8,by rw[aA (aF q' D5)];exact q'⟩⟩;have I7:Í X f' σ (ß H5 a (.lst vs)) s6:=I2.call' (s':=s6) (ch:=j) I6.os u7 (ĉ.add I6.hok D5 C6 (λb u _ q=>q) new) I6.bare λb g=>⟨(R b g).2.2.2.1,(R b g).2.1,(R b g).2.2.2.2.1,(R b g).2.2.2.2.2⟩;exact d2 a (a+1) s6 H5 vs m6 I7 D5 e5 r5 hP n6 C6 (UK Sn) (by rw[hD];exact ZB a)
 exact codeAny_compStart_list (w' _ rfl) (T.self _ 0 _ _ _ (T.keep _ _ _ B' λb g o e=>D' b o e) (w' _ rfl))
theorem oV{l':r_}{scope:VU}{e':Option è}{b:Q->Ev->Option Ev}{js:List Nat}(I:List (Str×Nat))(ok:jW a.env.scope scope I a.N)(hc:a.calm=L)(r':∀i s H A,FG (ao a (y++I.map (·.1)) scope i s H A) h b)(n':∀i s H A,(∃ζ Λ,Í a ζ Λ H s)->FE (ao a (y++I.map (·.1)) scope i s H A) w z)(m':∀i s H A,(∃ζ Λ,Í a ζ Λ H s)->yN (ao a (y++I.map (·.1)) scope i s H A) v e')(c':∀ρ d d',b d (i5 y.length I ρ)=Z d'->fgt js d'=i5 y.length I ρ){ρ:Ev}{s2:ge}{it:O}{A:List O}{tn:Nat->N_->Prop}{J:It}{H2:Hp}(E:Û a.K H2 Λ ρ)(I2:Í a ζ Λ H2 s2)(T:BE a.prog a.w a.K h J A it tn)(p':tn 0 s2.heap)(R:∀b∈A,ua a ζ H2 b){ds ys:List Q}(wk:P' a.K J ds H2)(t':ds.length<=100000)(q':ys.length<=100000)(hm:lN b e' z (i5 y.length I ρ) ds=Z ys){RR:B->O->abh->ge->Prop}(u':∀(j i:O)(s6:ge)(H5:Hp)(vs:List V)(m6:Str->Option B),Í a ζ Λ (ß H5 j (.lst vs)) s6->H5 j=U->Ñ H2 H5->S a.K H5 ys vs->s6.heap.Ns i m6->H5 i=U->i≠j->s2.heap.objs.size<=i->RR (.ref j) i (.ok .next) s6):v_ (E_ a.prog a.w) a.A (newList []) (λg' i'=>v_ (E_ a.prog a.w) a.A (Zf scope a.env.globals (lS scope.names a.env []) [] a.env.qual U .none (Z a.env)) (λN h'=>Xp (E_ a.prog a.w) a.A (.compStart (.ListComp w [⟨h,l',v,0⟩] scope m) 0 (.ref it) g' {N with scope:=relabel scope a.env}) (RR g' N.locals) h') a.xe i') a.xe s2:=xm I ok hc r' (λ_ _=>True) (λi s H A hI ζ s9 o' H9 ρ o I9 E9 _ s'=>U5 ((n' i s H A hI).h ζ s9 o' H9 (λk u=>Ñ H9 u/\Ô a.K u o k) I9 ⟨ρ,E9,by rw[s'];exactλk u b' a'=>⟨b',a'⟩⟩) (λr w'⟨yv,u,v',k',b',a'⟩=>⟨yv,u,v',k',b',a',trivial⟩) λ_ _ n=>n) m' c' E I2 T p' R wk t' q' hm (λj i s6 H5 vs m6 q b c d _ e f g p=>u' j i s6 H5 vs m6 q b c d e f g p)
theorem Db{p:r_}{u:Option è}{b:Q->Ev->Option Ev}(c':VU)(N y:List Str)(js:List Nat)(q:List (Str×Nat))(d':a.env.scope=c')(hN:a.N=N)(ok:jW c' χ q N)(n':YF χ a.env=pure (lS χ.names a.env []))(hc:a.calm=L)(a':∀ρ d b',b d (i5 y.length q ρ)=Z b'->fgt js b'=i5 y.length q ρ)(hi:ř a h p ν)(l':∀f s H fp,FG (ao a (y++q.map (·.1)) χ f s H fp) h b)(g':∀f s H fp,(∃f' A,Í a f' A H s)->FE (ao a (y++q.map (·.1)) χ f s H fp) w z)(e':∀f s H fp,(∃f' A,Í a f' A H s)->yN (ao a (y++q.map (·.1)) χ f s H fp) v u)(hs:∀x,UF p a.env x=pure x:=by intro _;lk):FE a (.ListComp w [⟨h,p,v,0⟩] χ m) (dc y.length q ν b u z):=by subst d' hN;constructor;intro f' s A H j I k;obtain⟨ρ,E,o⟩:=k;match ho:dc y.length q ν b u z ρ with
 |none=>rw[ho]at o;exact o.elim|some r=>
 rw[ho]at o;rw[eval_ListComp];have key:ī a H (ν ρ) λJ H'=>∃ds ys,Ñ H H'/\P' a.K J ds H'/\ds.length<=100000/\ys.length<=100000/\lN b u z (i5 y.length q ρ) ds=Z ys/\(∀g n,Ñ H' n->Ô a.K n (.lst ys) g->j g n):=by
  rcases Qo ho with⟨c,e1,e2⟩|⟨ds,ys,e1,e2,l1,l2,e3⟩;·subst e2;rw[e1];exact o
  ·subst e3;rw[e1];exactλJ H' e wk=>⟨ds,ys,e,wk,l1,l2,e2,λg n e2 r=>o g n (e.trans e2) r⟩
 refine ZF (use:=U) rfl hs n' ok.kind ok.names (å (hi.h f' s A H _ I ⟨ρ,E,key⟩) λg s1 h1=>å h1 λq' s2 h2=>?_);obtain⟨it,fp,tn,J,H2,e,I2,T,h',R,ds,ys,o',wk,m',k',hm,hQ⟩:=h2;subst e;refine oV q ok hc l' g' e' a' (E.mono o') I2 T h' R wk m' k' hm (RR:=λp' f=>compPost (E_ a.prog a.w) a.A a.xe U (EP a f' A j) p' f) λi f s6 H5 vs m6 I6 D5 e5 r5 n6 C6 CD hC=>?_;refine⟨m6,n6,λh7 i'=>?_⟩;have Cn:(ß H5 i (.lst vs)) f=U:=by rw[aA CD];exact C6
 obtain⟨q0,q1,q2,q3,q4,q5⟩:=I2.fpOk hC Cn;have I7:Í a f' A (ß H5 i (.lst vs)) {s6 with heap:=h7}:=I6.turned (t':=s6.toks) (λb o hb e=>i'.extBut b o hb e) q0 q1 q3 q4 q5;exact⟨.ref i,_,I7,rfl,hQ _ _ (e5.trans (aJ D5 _)) ⟨i,vs,rfl,aw,S.mono (aJ D5 _) _ _ r5⟩⟩
theorem vZ{f:r_}{p:Option è}{b:Q->Ev->Option Ev}(k:VU)(N j:List Str)(I:List Nat)(i:List (Str×Nat))(q:a.env.scope=k)(hN:a.N=N)(ok:jW k χ i N)(A:YF χ a.env=pure (lS χ.names a.env []))(hc:a.calm=L)(n:∀E d o,b d (i5 j.length i E)=Z o->fgt I o=i5 j.length i E)(hi:ř a h f ν)(y:∀e s H g,FG (ao a (j++i.map (·.1)) χ e s H g) h b)(u:∀e s H g,FE (ao a (j++i.map (·.1)) χ e s H g) w z)(r:∀e s H g,yN (ao a (j++i.map (·.1)) χ e s H g) v p)(hs:∀x,UF f a.env x=pure x:=by intro _;lk):FE a (.ListComp w [⟨h,f,v,0⟩] χ m) (dc j.length i ν b p z):=Db k N j I i q hN ok A hc n hi y (λe s H g _=>u e s H g) (λe s H g _=>r e s H g) hs
theorem Dc{y:r_}{a':Option è}{b:Q->Ev->Option Ev}(i:Nat)(t':a.N.Nodup)(u':a.N[i]?=Z d)(p':ł a.env.scope d)(v':a.fn d=L\/a.env.scope.names.lookup d=Z .local)(d':VU)(N ns:List Str)(js:List Nat)(cs:List (Str×Nat))(h':a.env.scope=d')(hN:a.N=N)(ok:jW d' χ cs N)(x':YF χ a.env=pure (lS χ.names a.env []))(hc:a.calm=L)(b':∀ρ q c',b q (i5 ns.length cs ρ)=Z c'->fgt js c'=i5 ns.length cs ρ)(hi:ř a h y ν)(q':∀f s H fp,FG (ao a (ns++cs.map (·.1)) χ f s H fp) h b)(k':∀f s H fp,FE (ao a (ns++cs.map (·.1)) χ f s H fp) w z)(i':∀f s H fp,yN (ao a (ns++cs.map (·.1)) χ f s H fp) v a')(r':Vb (.ListComp w [⟨h,y,v,0⟩] χ m) (Z (.Name d u)) Ρ.line a.env=pure L:=by lk)(hs:∀x,UF y a.env x=pure x:=by intro _;lk):PS a (.Assign [.Name d u] (.ListComp w [⟨h,y,v,0⟩] χ m) Ρ) (tC a i (dc ns.length cs ν b a' z)):=by subst h' hN;intro f' s σ H D0 I n;obtain⟨ρ,E,o⟩:=n;match ho:dc ns.length cs ν b a' z ρ with
 |none=>rw[ho]at o;exact o.elim|some r=>
 rw[ho]at o;have key:ī a H (ν ρ) λJ H'=>∃ds ys,Ñ H H'/\P' a.K J ds H'/\ds.length<=100000/\ys.length<=100000/\lN b a' z (i5 ns.length cs ρ) ds=Z ys/\(∀A p vs,Ñ H' A->A p=U->S a.K A ys vs->D0.nx (σ.set i (Z (.ref p))) (ß A p (.lst vs))):=by
  rcases Qo ho with⟨c,e1,e2⟩|⟨ds,ys,e1,e2,l1,l2,e3⟩;·subst e2;rw[e1];exact o
  ·subst e3;rw[e1];obtain⟨E',ey,o⟩:=o;cases ey;exactλJ H' e wk=>⟨ds,ys,e,wk,l1,l2,e2,λA p vs e3 hp r=>o A p vs (e.trans e3) hp r⟩
 rw[exec_Assign_Name_used _ _ _ _ r'];refine e_ (aa4 (e_ ?_));show v_ _ a.A (do let _<-comprehension (.ListComp w [⟨h,y,v,0⟩] χ m) χ a.env _ (newList []) D (eval y a.env) (Z (W7 (.Name d u) a.env))) _ _ s;refine e_ (U5 (ZF (use:=Z (W7 (.Name d u) a.env)) (Q:=λ_ s'=>SP a f' D0 .next s') rfl hs x' ok.kind ok.names (å (hi.h f' s σ H _ I ⟨ρ,E,key⟩) λk s1 h1=>å h1 λF' s2 h2=>?_)) (λ_ s' hq=>j_ (j_ hq)) λ_ _ e=>e);obtain⟨it,fp,tn,J,H2,e,I2,T,m',R,ds,ys,z',wk,w',o',hm,hQ⟩:=h2;subst e;refine oV cs ok hc q' (λf s H fp _=>k' f s H fp) (λf s H fp _=>i' f s H fp) b' (E.mono z') I2 T m' R wk w' o' hm (RR:=λA' f=>compPost (E_ a.prog a.w) a.A a.xe (Z (W7 (.Name d u) a.env)) (λ_ s'=>SP a f' D0 .next s') A' f) λg f s6 A vs m6 I6 D5 e5 r5 n6 C6 CD hC=>?_;have Cn:(ß A g (.lst vs)) f=U:=by rw[aA CD];exact C6
 have FC:=I2.fpOk hC Cn;obtain⟨oC,es,ep,e',g',rC⟩:=id n6;have C':=I6.pinned (fp:=[f]) (λb hb=>by
  have e:b=f:=by simpa using hb
  subst e;exact FC) (λb hb=>by
  have e:b=f:=by simpa using hb
  subst e;exact⟨oC,e',λk j=>by rw[g']at j;cases j⟩);refine å (iD t' u' p' v' _ s6 σ _ (.ref g) (.ref g) (λl' H'=>l'=σ.set i (Z (.ref g))/\H'=ß A g (.lst vs)) C' rfl ⟨rfl,rfl⟩) λ_ s8⟨D',H8,I8,e1,e2⟩=>?_;subst e1 e2;have y':=(I8.pin (f,oC) (o_ _ (o_ _ (dG (by simp) e')))).1;refine⟨m6,⟨oC,es,ep,y',g',rC⟩,λh9 n'=>?_⟩;have B':Í a f' (σ.set i (Z (.ref g))) (ß A g (.lst vs)) s8:=I8.unpinned;obtain⟨q0,q1,q2,q3,q4,q5⟩:=FC;have I9:Í a f' (σ.set i (Z (.ref g))) (ß A g (.lst vs)) {s8 with heap:=h9}:=B'.turned (t':=s8.toks) (λb o hb e=>n'.extBut b o hb e) q0 q1 q3 q4 q5;exact⟨_,_,I9,hQ A g vs e5 D5 r5⟩
abbrev cq:=List (Str×Nat×List Str×(Ö))
theorem ij{a:δ}{T:List (Str×δ)}(h:((p,Ë)::T).lookup d=Z a):(d=p/\a=Ë)\/T.lookup d=Z a:=by
 rw[UP]at h;split at h;·rename_i b;exact .inl ⟨YI b,by cases h;rfl⟩
 ·exact .inr h
structure HA(P:n_)(w:xy)(K:d_)(mg:Str->Option B)(base:N_)(T:cq):Prop where h:∀x e,T.lookup x=Z e->Has P w K mg base x e.1 e.2.1 e.2.2
structure ý(P:n_)(w:xy)(K:d_)(mg:Str->Option B)(base:N_)(T:cq):Prop where h:∀x e,T.lookup x=Z e->Pg P w K mg base x e.1 e.2.1 e.2.2
theorem MO:HA r q s Ι N []:=⟨λ_ _ h=>by cases h⟩
theorem HV:ý r q s Ι N []:=⟨λ_ _ h=>by cases h⟩
theorem aB{T:cq}(h:Has r q s Ι N d b y Ψ)(t:HA r q s Ι N T):HA r q s Ι N ((d,b,y,Ψ)::T):=⟨λx e a=>by
 rcases ij a with⟨rfl,rfl⟩|a;·exact h
 ·exact t.h x e a⟩
theorem bt{T:cq}(h:Pg r q s Ι N d b y Ψ)(t:ý r q s Ι N T):ý r q s Ι N ((d,b,y,Ψ)::T):=⟨λx e a=>by
 rcases ij a with⟨rfl,rfl⟩|a;·exact h
 ·exact t.h x e a⟩
abbrev HW:=List (Str×Option Q)
noncomputable def cN(s:String):Str×Option Q:=(b_ s,U)
noncomputable def cI(s:String)(i:Int):Str×Option Q:=(b_ s,Z (.int i))
noncomputable def cS(s z:String):Str×Option Q:=(b_ s,Z (.str (b_ z)))
def TF(a:Str->Option B)(x:Str):Option Q->Prop|none=>a x=U|some (.int i)=>∃t,a x=Z (.int i t)|some (.str z)=>∃t,a x=Z (.str z t)|_=>False
structure MA(mg:Str->Option B)(C:HW):Prop where h:∀x o,C.lookup x=Z o->TF mg x o
theorem MA.no{C:HW}(h:MA Ι C)(e:C.lookup d=Z U):Ι d=U:=h.h d U e
noncomputable def QR(K:d_)(q:Str×Option Q):Bool:=match q.2,U0 K C_ q.1 with|none,Z U=>L|some (.int i),Z (Z (.int j _))=>i==j|some (.str z),Z (Z (.str y _))=>z==y|_,_=>D
theorem MP{K:d_}{f:Str->Option B}{h:N_}(X:K.In h)(G:h.Ns C_ f):∀(C:HW),C.all (QR K)=L->MA f C|[],_=>⟨λx o q=>by cases q⟩|(y,o)::C,e=>⟨λx g q=>by
 rw[Wa,m_]at e;rcases ij q with⟨rfl,rfl⟩|q
 · have b:=e.1;unfold QR at b;dsimp only at b;split at b;·rename_i d;exact PySem.W.mg_none_of X G d
   ·rename_i i j t d;have a:i=j:=YI b;subst a;exact⟨t,Xk X G d⟩
   ·rename_i z y t d;have a:z=y:=YI b;subst a;exact⟨t,Xk X G d⟩
   ·cases b
 ·exact(MP X G C e.2).h x g q⟩
theorem Dd{T:cq}(s:HA a.prog a.w a.K a.mg a.base T)(n:Ü b a.A)(f:(T.lookup d).map (λq=>q.2.2)=Z Ψ)(r:FA a (h::v) ν)(e:((T.lookup d).all λq=>Zb q.1 b&&Xe k q.2.1.length)=L:=by lk)(o:a.env.kindOf d=Z .globalImplicit:=by lk)(j:(d==("__debug__":Str))=D:=by lk)(p:k_ (h::v) a.env=(D,eval h a.env)::k_ v a.env:=by lk)(i:(UH u (k_ v a.env)).any (·.1)=D:=by lk):FE a (.Call (.Name d m) (h::v) [] u) (ag Ψ k ν):=by cases g:T.lookup d with|none=>rw[g]at f;cases f|some q=>rw[g]at f e;cases f;rw[V1,m_]at e;exact B6 q.1 q.2.1 q.2.2 (s.h d q g) n (U9 e.1) o r (U_ e.2) j p i
theorem zZ{T:cq}(w:ý a.prog a.w a.K a.mg a.base T)(o:Ü b a.A)(f:(T.lookup d).map (λq=>q.2.2)=Z Ψ)(j:a.ex=[])(s:FA a (h::v) ν)(e:((T.lookup d).all λq=>Zb q.1 b&&Xe k q.2.1.length)=L:=by lk)(p:a.env.kindOf d=Z .globalImplicit:=by lk)(n:(d==("__debug__":Str))=D:=by lk)(r:k_ (h::v) a.env=(D,eval h a.env)::k_ v a.env:=by lk)(i:(UH u (k_ v a.env)).any (·.1)=D:=by lk):FE a (.Call (.Name d m) (h::v) [] u) (aG Ψ k ν):=by cases g:T.lookup d with|none=>rw[g]at f;cases f|some q=>rw[g]at f e;cases f;rw[V1,m_]at e;exact Cq q.1 q.2.1 q.2.2 (w.h d q g) o (U9 e.1) j p s (U_ e.2) n r i
theorem QS{b:HW}(i:MA a.mg b)(e:b.lookup d=Z (Z (.int n)))(f:a.env.kindOf d=Z .globalImplicit:=by lk)(g:(d==("__debug__":Str))=D:=by lk):FE a (.Name d m) (fC (.int n)):=let⟨_,h⟩:=i.h d _ e;GE f h g
theorem QT{b:HW}(i:MA a.mg b)(e:b.lookup d=Z (Z (.str p)))(f:a.env.kindOf d=Z .globalImplicit:=by lk)(g:(d==("__debug__":Str))=D:=by lk):FE a (.Name d m) (fC (.str p)):=let⟨_,h⟩:=i.h d _ e;GF f h g
noncomputable def ĥ:List Str->Bool|[]=>L|x::r=>!(r.contains x)&&ĥ r
theorem je:∀{l:List Str},ĥ l=L->l.Nodup|[],_=>aaN|x::r,h=>by unfold ĥ at h;rw[m_]at h;refine Vw.2 ⟨λb=>?_,je h.2⟩;have a:=h.1;rw[List.contains_iff_mem.2 b]at a;cases a
noncomputable def jX(a:VU)(x:Str):Bool:=match a.names.lookup x with|some .local=>L|some .cell=>L|_=>D
theorem fH(h:jX χ d=L):ł χ d:=by
 unfold jX at h;split at h;·exact .inl ‹_›
 ·exact .inr ‹_›
 ·cases h
noncomputable def Kj(b a:VU)(d:List (Str×Nat))(N:List Str):Bool:=s_ (a.kind=.function)&&s_ (∀y∈a.names,y.2=.cell->a.names.lookup y.1=Z .cell)&&s_ (∀y∈a.names,y.2=.local->a.names.lookup y.1=Z .local)&&s_ (∀y∈a.names,y.2=.free->b.names.lookup y.1=Z .cell\/b.names.lookup y.1=Z .free)&&s_ (∀c∈d,N[c.2]?=Z c.1/\a.names.lookup c.1=Z .free)
theorem z0{a:VU}{b:List (Str×Nat)}(h:Kj χ a b y=L):jW χ a b y:=by unfold Kj at h;simp only[m_,decide_eq_true_eq]at h;exact⟨h.1.1.1.1,h.1.1.1.2,h.1.1.2,h.1.2,h.2⟩
theorem lkc{b:Env}:∀{a:List (Str×WU)}{x:Str},a.lookup x=Z .cell->(a.map λ(n,k)=>if(k==VW&&b.scope.kind==.function&&b.kindOf n==Z .cell)then(n,V9)else(n,k)).lookup x=Z .cell|[],_,h=>by simp at h|(n,k)::r,x,h=>by rw[UP]at h;rw[G_];cases d:x==n with|true=>rw[d]at h;cases h;simp[UP,d]|false=>
 rw[d]at h;have e:=lkc (b:=b) h;dsimp only;split;·rw[UP,d];exact e
 ·rw[UP,d];exact e
theorem fgL(h:jX χ d=L):ł (ao a y χ e f g ο).env.scope d/\((ao a y χ e f g ο).fn d=L\/(ao a y χ e f g ο).env.scope.names.lookup d=Z .local):=by
 rcases fH h with h|h;·exact⟨.inl (aaF h),.inr (aaF h)⟩
 ·exact⟨.inr (lkc h),.inl (by show(χ.names.lookup d==Z .cell)=L;rw[h];rfl)⟩
theorem fgA(b:O)(s:ge)(H:Hp)(h:List O)(e:ĥ y=L)(g:y[0]?=Z d)(f:jX χ d=L):FG (ao a y χ b s H h) (.Name d m) (gN 0):=He 0 (je e) g (fgL f).1 (fgL f).2
theorem QU{f:Option è}{e:List (Str×Nat)}(r:ř a (.Name d u) w ν)(j:∀b s H g,FE (ao a (d::e.map (·.1)) χ b s H g) h z)(i:∀b s H g,yN (ao a (d::e.map (·.1)) χ b s H g) v f)(k:Kj a.env.scope χ e a.N=L:=by lk)(o:YF χ a.env=pure (lS χ.names a.env []):=by lk)(y:a.calm=L:=by lk)(n:ĥ (d::e.map (·.1))=L:=by lk)(q:jX χ d=L:=by lk)(p:∀d,UF w a.env d=pure d:=by intro _;lk):FE a (.ListComp h [⟨.Name d u,w,v,0⟩] χ m) (du e ν f z):=(HL (f:=e) (a:=ν) (b:=f) (e:=z))▸vZ a.env.scope a.N [d] [0] e rfl rfl (z0 k) o y (LW _) r (λb s H g=>fgA b s H g n rfl q) j i p
theorem QV{f:Pos}{j:Option è}{g:List (Str×Nat)}(hi:ř a (.Name d u) w ν)(n:∀e s H i,FE (ao a (d::g.map (·.1)) χ e s H i) h z)(k:∀e s H i,yN (ao a (d::g.map (·.1)) χ e s H i) v j)(hN:ĥ a.N=L)(A:a.N[b]?=Z p)(o:jX a.env.scope p=L)(E:a.fn p=L)(r:Kj a.env.scope χ g a.N=L)(I:YF χ a.env=pure (lS χ.names a.env []))(hc:a.calm=L)(y:ĥ (d::g.map (·.1))=L)(hl:jX χ d=L)(q:Vb (.ListComp h [⟨.Name d u,w,v,0⟩] χ m) (Z (.Name p Ρ)) f.line a.env=pure L)(N:∀d,UF w a.env d=pure d):PS a (.Assign [.Name p Ρ] (.ListComp h [⟨.Name d u,w,v,0⟩] χ m) f) (tC a b (dc 1 g ν (gN 0) j z)):=Dc b (je hN) A (fH o) (.inl E) a.env.scope a.N [d] [0] g rfl rfl (z0 r) I hc (LW _) hi (λe s H i=>fgA e s H i y rfl hl) n k q N
theorem QW{f:Pos}{i:Option è}{g:List (Str×Nat)}(hi:ř a (.Name d u) w ν)(k:∀e s H n,FE (ao a (d::g.map (·.1)) χ e s H n) h z)(j:∀e s H n,yN (ao a (d::g.map (·.1)) χ e s H n) v i)(q:Vb (.ListComp h [⟨.Name d u,w,v,0⟩] χ m) (Z (.Name p Ρ)) f.line a.env=pure L)(hN:ĥ a.N=L:=by lk)(A:a.N[b]?=Z p:=by lk)(o:jX a.env.scope p=L:=by lk)(E:a.fn p=L:=by lk)(r:Kj a.env.scope χ g a.N=L:=by lk)(I:YF χ a.env=pure (lS χ.names a.env []):=by lk)(hc:a.calm=L:=by lk)(y:ĥ (d::g.map (·.1))=L:=by lk)(hl:jX χ d=L:=by lk)(N:∀d,UF w a.env d=pure d:=by intro _;lk):FS a (.Assign [.Name p Ρ] (.ListComp h [⟨.Name d u,w,v,0⟩] χ m) f) (cG b (dc 1 g ν (gN 0) i z)):=HM (QV hi k j hN A o E r I hc y hl q N) zC
theorem TH(e:O)(s:ge)(H:Hp)(f:List O)(n:a.calm=L)(h:ĥ y=L)(k:y[0]?=Z d)(j:y[1]?=Z p)(i:jX χ d=L)(g:jX χ p=L)(v:(UJ [.Name d m,.Name p u] (ao a y χ e s H f).env).map (·.2)=W7 (.Name d m) (ao a y χ e s H f).env::(UJ [.Name p u] (ao a y χ e s H f).env).map (·.2))(r:(UJ [.Name p u] (ao a y χ e s H f).env).map (·.2)=W7 (.Name p u) (ao a y χ e s H f).env::(UJ [] (ao a y χ e s H f).env).map (·.2))(q:(UJ [.Name d m,.Name p u] (ao a y χ e s H f).env).length=2)(o:(UJ [.Name d m,.Name p u] (ao a y χ e s H f).env).findIdx? (·.1)=U):FG (ao a y χ e s H f) (.Tuple [.Name d m,.Name p u] b Ρ) (gP 0 1):=yR 0 1 n (je h) k (fgL i).1 (fgL i).2 j (fgL g).1 (fgL g).2 v r q o
theorem QX{y:Pos}{i:Option è}{f:List (Str×Nat)}(N:ř a (.Tuple [.Name d u,.Name p Ρ] b y) w ν)(k:∀e s H g,FE (ao a (d::p::f.map (·.1)) χ e s H g) h z)(j:∀e s H g,yN (ao a (d::p::f.map (·.1)) χ e s H g) v i)(n:Kj a.env.scope χ f a.N=L:=by lk)(r:YF χ a.env=pure (lS χ.names a.env []):=by lk)(A:a.calm=L:=by lk)(o:ĥ (d::p::f.map (·.1))=L:=by lk)(I:jX χ d=L:=by lk)(q:jX χ p=L:=by lk)(E:∀d,UF w a.env d=pure d:=by intro _;lk):FE a (.ListComp h [⟨.Tuple [.Name d u,.Name p Ρ] b y,w,v,0⟩] χ m) (dc 2 f ν (gP 0 1) i z):=vZ a.env.scope a.N [d,p] [0,1] f rfl rfl (z0 n) r A (Qp _) N (λe s H g=>TH e s H g A o rfl rfl I q rfl rfl rfl rfl) k j E
theorem De:∀b s H d,yN (ao a y χ b s H d) [] U:=λ_ _ _ _=>rfl
theorem Df(d:∀b s H e,FT (ao a y χ b s H e) h Ξ):∀b s H e,yN (ao a y χ b s H e) [h] (Z Ξ):=λb s H e=>⟨_,rfl,d b s H e⟩
theorem MQ(e:FE a h z)(d:FE a w É)(b:∀o i,ab3 w D o i=operate [o,i] (Z7 o i):=by intro _ _;lk):FE a (.Subscript h w m) (R Î z É):=Qi e d b
theorem HX(j:FE a h z)(k:ĥ a.N=L:=by lk)(g:a.N[b]?=Z d:=by lk)(e:jX a.env.scope d=L:=by lk)(i:a.fn d=L:=by lk)(f:Vb h (Z (.Name d u)) m.line a.env=pure D:=by lk):FS a (.Assign [.Name d u] h m) (cG b z):=Lp b (je k) g (fH e) j f (.inl i)
theorem HY(o:FE a h z)(f:a.ex=[]:=by lk)(e:Xe b k=D:=by lk)(p:ĥ a.N=L:=by lk)(j:a.N[k]?=Z d:=by lk)(g:jX a.env.scope d=L:=by lk)(n:a.fn d=L:=by lk)(i:Vb h (Z (.Name d u)) m.line a.env=pure D:=by lk):Š a b (.Assign [.Name d u] h m) (gQ k z):=Md f k (Ys e) (je p) j (fH g) o i (.inl n)
theorem Dg{e:kj}(j:FA a v ν)(h:ş a b À e)(n:ĥ a.N=L:=by lk)(i:a.N[b]?=Z d:=by lk)(f:jX a.env.scope d=L:=by lk)(k:a.fn d=L:=by lk)(g:Vb (.List v Ρ) (Z (.Name d u)) m.line a.env=pure D:=by lk):ġ a (.Assign [.Name d u] (.List v Ρ) m::À) (y9 b ν e):=Hv (je n) i (fH f) j h g (.inl k)
theorem HZ{e:List Nat}(i:Xl (E_ a.prog a.w) a.A a.env a.xe)(k:FI a (.Name d u) h ν)(p:ġ a À Φ)(o:a.calm=L:=by lk)(q:ĥ a.N=L:=by lk)(f:a.N[b]?=Z d:=by lk)(j:jX a.env.scope d=L:=by lk)(n:a.fn d=L:=by lk)(g:∀d,UF h a.env d=pure d:=by intro _;lk):FS a (.For (.Name d u) h À [] m) (Lu b e ν Φ):=Lv b e i o k (iD (je q) f (fH j) (.inl n)) p g
theorem Ia{g:List Nat}{i:kj}(o:Xl (E_ a.prog a.w) a.A a.env a.xe)(q:FI a (.Name d u) h ν)(v:ş a b À i)(f:a.ex=[]:=by lk)(e:Xe b k=D:=by lk)(s:a.calm=L:=by lk)(w:ĥ a.N=L:=by lk)(j:a.N[k]?=Z d:=by lk)(p:jX a.env.scope d=L:=by lk)(r:a.fn d=L:=by lk)(n:∀d,UF h a.env d=pure d:=by intro _;lk):Š a b (.For (.Name d u) h À [] m) (za k g ν i):=Mh f k g (Ys e) o s q (iD (je w) j (fH p) (.inl r)) v n
theorem Dh{g:Pos}{i:List Nat}(r:Xl (E_ a.prog a.w) a.A a.env a.xe)(v:ř a (.Tuple [.Name d Ρ,.Name p u] υ g) h ν)(y:ġ a À Φ)(j:a.calm=L:=by lk)(z:ĥ a.N=L:=by lk)(o:a.N[b]?=Z d:=by lk)(s:jX a.env.scope d=L:=by lk)(w:a.fn d=L:=by lk)(n:a.N[k]?=Z p:=by lk)(e:jX a.env.scope p=L:=by lk)(f:a.fn p=L:=by lk)(I:(UJ [.Name d Ρ,.Name p u] a.env).map (·.2)=W7 (.Name d Ρ) a.env::(UJ [.Name p u] a.env).map (·.2):=by lk)(H:(UJ [.Name p u] a.env).map (·.2)=W7 (.Name p u) a.env::(UJ [] a.env).map (·.2):=by lk)(E:(UJ [.Name d Ρ,.Name p u] a.env).length=2:=by lk)(A:(UJ [.Name d Ρ,.Name p u] a.env).findIdx? (·.1)=U:=by lk)(q:∀d,UF h a.env d=pure d:=by intro _;lk):FS a (.For (.Tuple [.Name d Ρ,.Name p u] υ g) h À [] m) (xb (gP b k) i ν Φ):=HI i r j v (yR b k j (je z) o (fH s) (.inl w) n (fH e) (.inl f) I H E A) y q
theorem Di{e:List Nat}(h:ŝ a v (Hi e))(k:ĥ a.N=L:=by lk)(i:a.N[b]?=Z d:=by lk)(f:jX a.env.scope d=L:=by lk)(j:a.fn d=L:=by lk)(g:(UJ (.Name d m::v) a.env).map (·.2)=W7 (.Name d m) a.env::(UJ v a.env).map (·.2):=by lk):ŝ a (.Name d m::v) (Hi (b::e)):=Hj b (je k) i (fH f) (.inl j) h g
theorem lu(i:a.N[b]?=Z d)(f:jX a.env.scope d=L)(g:(d==("__debug__":Str))=D)(e:(d==("__classdict__":Str))=D):PE a (.Name d m) (yd b):=ye i ((fH f).elim .inl λh=>.inr (.inl h)) g e
theorem Ib{j:Pos}(q:FE a h z)(o:PE a (.Name d u) (yd b))(n:a.ex=[]:=by lk)(g:Vd (.Name d u) "append" a.env (eval (.Name d u) a.env)=eval (.Name d u) a.env:=by lk)(i:((UH Ρ (k_ [h] a.env)).all (λd=>!d.1)&&(Wd Ρ (Vo [] a.env)).all (λd=>d.1.isSome)&&s_ ([h].length+([]:List Wl).length+(if([]:List Wl).isEmpty then 0 else 1)<30))=L:=by lk)(f:(j.endLine==Ρ.line)=L:=by lk)(p:k_ [h] a.env=(D,eval h a.env)::k_ [] a.env:=by lk)(e:(UH Ρ (k_ [] a.env)).any (·.1)=D:=by lk)(k:Vb (.Call (.Attribute (.Name d u) "append" j) [h] [] Ρ) U m.line a.env=pure D:=by lk):Š a b (.Expr (.Call (.Attribute (.Name d u) "append" j) [h] [] Ρ) m) (CB z):=Mg n o q g i f p e k
structure ű(X:C)(o:r_)(name:Str)(e:r_)(es:List r_)(apos cpos:Pos):Prop where
 base:Vd o name X.env (eval o X.env)=eval o X.env
 few:((UH cpos (k_ (e::es) X.env)).all (λx=>!x.1)&&(Wd cpos (Vo [] X.env)).all (λx=>x.1.isSome)&&s_ ((e::es).length+([]:List Wl).length+(if([]:List Wl).isEmpty then 0 else 1)<30))=L
 line:(apos.endLine==cpos.line)=L
 s:k_ (e::es) X.env=(D,eval e X.env)::k_ es X.env
 plain:(UH cpos (k_ es X.env)).any (·.1)=D
theorem su{f:String}{r:V->List V->Hp->VK->Prop}{g:Str->Ö}(e:Slot "str" d f)(j:acg (.builtin f)=pure (.type "method_descriptor"))(p:Ŗ a f r)(q:∀i n k H Q,S a.K H n k->ì a H (g i n) Q->r (.str i) k H Q)(o:FE a h z)(s:FA a (w::v) ν)(b:ű a h d w v m u):FE a (.Call (.Attribute h d m) (w::v) [] u) (fM g z ν):=GW e j p q o s b.base b.few b.line b.s b.plain
section
open PySem.W
structure CA(K:d_)(mg:Str->Option B)(cls:Nat->O)(CJ:O)(S:List Nat)(m:Nat):Prop where at_:∀c∈S,mg (Ĩ c)=Z (.ref (cls c))j:mg "JarError"=Z (.ref CJ)xk:∀c C,c<m->nsIn K C_ (Ĩ c)=Z (Z (.ref C))->excIn K C ū "ValueError.__new__"=L/\mroIn K C (.ref CJ)=Z L
theorem CA.c{K:d_}{b:Str->Option B}{a:Nat->O}{f:O}{S:List Nat}{m c:Nat}{x:Str}(h:CA K b a f S m)(e:c∈S)(d:Ĩ c=x):b x=Z (.ref (a c)):=by subst d;exact h.at_ c e
noncomputable def nsB(K:d_)(x:Str)(a:O):Bool:=match nsIn K C_ x with|some (Z (.ref b))=>Xe a b|_=>D
theorem Ft(h:nsB s d e=L):nsIn s C_ d=Z (Z (.ref e)):=by
 unfold nsB at h;split at h;·rename_i b a;rw[a,U_ h]
 ·cases h
def caB(K:d_)(S:List Nat)(a:List O)(b:O)(m:Nat):Bool:=S.all (λc=>nsB K (Ĩ c) (a.getD c 0))&&nsB K "JarError" b&&QG K S a b&&(t_ m).all λc=>S.contains c||(match nsIn K C_ (Ĩ c)with|some U=>L|_=>D)
theorem QY{S:List Nat}(X:s.In N)(G:N.Ns C_ Ι)(a:caB s S ο e b=L):č s S (λc=>ο.getD c 0) e/\CA s Ι (λc=>ο.getD c 0) e S b:=by
 unfold caB at a;rw[m_,m_,m_]at a;obtain⟨⟨⟨n,m⟩,k⟩,j⟩:=a;have i:∀c∈S,nsIn s C_ (Ĩ c)=Z (Z (.ref (ο.getD c 0))):=λc f=>Ft (UY.1 n c f);have g:=CH i k;refine⟨g,λc f=>mg_of X G (i c f),mg_of X G (Ft m),λc C f q=>?_⟩;have d:=UY.1 j c (UZ.2 f);rw[acd]at d;rcases d with d|d
 · have h:c∈S:=by simpa using d
   rw[g.same h q];exact⟨(g.at_ c h).2.1,(g.at_ c h).2.2.2.1⟩
 ·rw[q]at d;cases d
end
noncomputable abbrev nsM(K:d_)(x:Str):Option (Option B):=U0 K C_ x
structure Af(K:d_)(x:Str)(st:U8)(f:O):Prop where
 a:nsM K x=Z (Z (.ref f))F:∃fd,ļ K x x st f fd
 k:Vk K (.ref f)=L
def L'(N P:List Str)(a:VU):Bool:=s_ (a.kind=.function)&&!a.isCoroutine&&!a.isGenerator&&ĥ N&&s_ (N.take P.length=P)&&P.all (jX a)&&s_ (∀y∈a.names,y.2≠.free)
theorem Ic{P:List Str}(h:L' y P χ=L):iF y P χ:=by unfold L' at h;simp only[m_,decide_eq_true_eq,abJ]at h;exact⟨h.1.1.1.1.1.1,h.1.1.1.1.1.2,h.1.1.1.1.2,je h.1.1.1.2,h.1.1.2,λx a=>fH (UY.1 h.1.2 x a),h.2⟩
def Pi(x:Str)(b:U8)(f:List Str):Prop:=∀(kV d g:B)(i:Option O)(e h:B)(a:List B),a.length=f.length->abr (V8 x x (iG b) (bZ b) (av b) .none kV d g i e h) ⟨a,[]⟩=pure (f.zip a)
theorem aS{h:N_}(v:s.In h)(w:h.Ns C_ Ι)(a j:List Str)(k:Ù)(A:Af s d Ε e)(m:Pi d Ε j)(p:∀(i:B)(A:D_)(g:List Env)(f:ge)(H:Hp)(E:XK),Ü b (A.deeper (Xc d (av Ε) f.heap.objs.size e i))->ġ (pF Į r q s Ι N a d (av Ε) e i A g f H E).nox (bZ Ε) k)(u:Ψ=bR a.length k:=by lk)(o:L' a j (av Ε)=L:=by lk):Has r q s Ι N d (b+1) j Ψ:=let⟨_,n⟩:=A.F;⟨_,_,Lw a j k u rfl n (Ic o) p,Xk v w A.a,A.k,n.binds m⟩
theorem cg{h:N_}(v:s.In h)(w:h.Ns C_ Ι)(a j:List Str)(k:Ù)(A:Af s d Ε e)(m:Pi d Ε j)(p:∀(i:B)(A:D_)(g:List Env)(f:ge)(H:Hp)(E:XK),Ü b (A.deeper (Xc d (av Ε) f.heap.objs.size e i))->ġ (pF (ķ r q) r q s Ι N a d (av Ε) e i A g f H E) (bZ Ε) k)(u:Ψ=gJ a.length k:=by lk)(o:L' a j (av Ε)=L:=by lk):Pg r q s Ι N d (b+1) j Ψ:=let⟨_,n⟩:=A.F;⟨_,_,Fa a j k u rfl n (Ic o) p,Xk v w A.a,A.k,n.binds m⟩
def bdL(x:Str)(a:U8)(n:Nat)(f b e:B)(i:Option O)(d h:B)(g:Nat->B):Sem (List (Str×B)):=abr (V8 x x (iG a) (bZ a) (av a) .none f b e i d h) ⟨(t_ n).map g,[]⟩
noncomputable def bdR(a:List Str)(n:Nat)(_ _ _:B)(_:Option O)(_ _:B)(g:Nat->B):Sem (List (Str×B)):=pure (a.zip ((t_ n).map g))
theorem Ie(a:List B):a=(t_ a.length).map λi=>a.getD i .none:=by refine abZ (by simp) λi b d=>?_;simp[b]
theorem aK(h:bdL d Ε y.length=bdR y y.length:=by lk):Pi d Ε y:=λkV a f k b j e g=>by have q:=congrFun (congrFun (congrFun (congrFun (congrFun (congrFun (congrFun h kV) a) f) k) b) j) λi=>e.getD i .none;unfold bdL bdR at q;rw[<-g,<-Ie e]at q;exact q
end FD
namespace TS
open L2 FD
def QZ(p q:B)(e l:Bool):Prop:=∀(a:n_)(w:xy)(A:D_)(E:B->ge->Prop)(s:ge),(∀Q:Bool->ge->Prop,Q e s->v_ (E_ a w) A (eqBool p q) Q E s)/\(∀Q:B->ge->Prop,Q (.bool l) s->v_ (E_ a w) A (richCompare .Gt p q) Q E s)
inductive oW:List (B×B)->List (Bool×Bool)->Prop|nil:oW [] []|cons{p q:B}{e l:Bool}{ps:List (B×B)}{rs:List (Bool×Bool)}:QZ p q e l->oW ps rs->oW ((p,q)::ps) ((e,l)::rs)
noncomputable def Dj:List Int->List Int->Bool|x::b,y::a=>if x=y then Dj b a else s_ (y<x)|_,_=>D
theorem oX:∀{f g:List Int}{d b:List B},f.length=g.length->Ï (f.map V.int) d->Ï (g.map V.int) b->∃e,oW (d.zip b) e/\(dI e).getD D=Dj f g
 |[],[],d,b,_,v,n=>by cases v;exact⟨[],.nil,rfl⟩|k::f,j::g,d,b,r,v,n=>by cases v with|cons p v2=>cases n with|cons m i=>obtain⟨e,q,i2⟩:=oX (by simpa using r) v2 i;obtain⟨t,rfl⟩:=p;obtain⟨o,rfl⟩:=m;refine⟨(k==j,s_ (j<k))::e,.cons (λa w A E s=>⟨(vQ s.heap A D k j t o a w E s rfl).1,λQ h=>(PyProof.Rows.gt_int h:v_ (E_ a w) A (UN .Gt (.int k t) (.int j o)) Q E s)⟩) q,?_⟩;rw[gq,i2];simp[Dj]
 |[],_::_,_,_,h,_,_=>by simp at h|_::_,[],_,_,h,_,_=>by simp at h
section
open PySem.SeqAt
open PySem.AutoSeq1(wpAny_loadPart')
open PySem.MeetsSeq PySem.MeetsSeq2 PySem.MeetsSeq3
theorem z4(l b:O)(j f:Array B)(n n2:Nat)(dd N:Option O)(sl H:Array (Option B))(v:List (Bool×Bool))(hi:oW (j.toList.zip f.toList) v)(hz:j.size=f.size):Meets (WR.«tuple.__gt__» ⟨[.ref l,.ref b],[]⟩) (λ_ a s=>s.heap.get? l=Z {cls:=.type "tuple",dict:=dd,data:=.seq j n,slots:=sl}/\s.heap.get? b=Z {cls:=.type "tuple",dict:=N,data:=.seq f n2,slots:=H}/\a (.ok (.ret (.bool ((dI v).getD D)))) s):=.of_wp λm w A a s h=>by
 obtain⟨z,g,d,u,os⟩:=s;obtain⟨hl,hb,h⟩:=h;have R:=ZK;wp_walk using YS hl,YS hb,Xz _ (λrest b p=>b.1=U/\p=⟨z,g,d,u,os⟩/\∃k,oW rest k/\a (.ok (.ret (.bool ((dI k).getD D)))) ⟨z,g,d,u,os⟩) _;case turn=>rintro⟨y,x⟩rest b p⟨o,rfl,k,E,q⟩;cases E with|cons i r=>rename_i e lw a';rw[gq]at q;refine e_ ((i m w _ _ _).1 _ ?_);cases e with|true=>wp_walk;exact⟨rfl,rfl,_,r,by simpa using q⟩|false=>have I:=λQ h=>(i m w A.in1 (λe p=>a (.error e) p) ⟨z,g,d,u,os⟩).2 Q h;wp_walk using I;exact⟨_,rfl,by simpa using q⟩
 case fin=>rintro⟨b1,b2⟩p⟨o,rfl,k,E,q⟩;simp only at o;subst o;cases E;wp_walk;exact⟨_,rfl,by simpa[YC,hz,dI]using q⟩
 case h=>exact⟨rfl,rfl,v,hi,h⟩
end
end TS
namespace FD
open L2 TS
def gtT:Q->Q->Option (Rs Q)|.tup e,.tup d=>(match r9 e,r9 d with|some a,Z b=>if a.length=b.length then Z (.ok (.bl (Dj a b)))else U|_,_=>U)|_,_=>U
def SD:R2:=λx y H Q=>∃a b d e,x=.ref a/\y=.ref b/\H a=Z (.tup (d.map V.int))/\H b=Z (.tup (e.map V.int))/\d.length=e.length/\Q (.bl (Dj d e)) H
theorem mU{K:d_}{H:Hp}:∀{d:List Q}{b:List Int}{a:List V},r9 d=Z b->S K H d a->a=b.map V.int|[],b,a,h,r=>by cases h;exact(show a=[]from r)|.int x::d,b,a,h,r=>by obtain⟨v,e,rfl,g,f⟩:∃v e,a=v::e/\Ô K H (.int x) v/\S K H d e:=r;cases(show v=.int x from g);obtain⟨j,i,rfl⟩:=Wn.mp (show(r9 d).map (x::·)=Z b from h);rw[mU i f];rfl|.non::_,_,_,h,_=>by cases h|.bl _::_,_,_,h,_=>by cases h|.str _::_,_,_,h,_=>by cases h|.tup _::_,_,_,h,_=>by cases h|.lst _::_,_,_,h,_=>by cases h|.scr _::_,_,_,h,_=>by cases h|.exn _::_,_,_,h,_=>by cases h|.obj _ _::_,_,_,h,_=>by cases h
theorem Q0(hu:a.A.units+64<cLine):ù a (UN .Gt) SD:=by
 intro f' s σ H x y v u Q I rx ry h;obtain⟨d,b,ns,ms,rfl,rfl,ha,hb,hl,q⟩:=h;cases rx;cases ry;obtain⟨f,r,p1,_⟩:=I.tuple (ô.of ha);obtain⟨e,p,p2,_⟩:=I.tuple (ô.of hb);obtain⟨k,i1,i2⟩:=oX hl r p;obtain⟨⟨a',dd,E,sl⟩,w,A,n,z⟩:=id p1;obtain⟨⟨N,o,data2,m⟩,g,j,n2,i⟩:=id p2;simp only at A z j i;subst A z j i;have hz:f.toArray.size=e.toArray.size:=by have e1:=r.length;have e2:=p.length;simp at e1 e2⊢;omega
 rw[<-i2]at q;exact Z5 (op:=.Gt) ⟨_,w,rfl⟩ ⟨_,g,rfl⟩ PySem.F.slot_tuple_gt PySem.F.entry_tuple_gt (PySem.F.args_tuple_gt_2 _ _) (z4 d b f.toArray e.toArray n n2 dd o sl m k i1 hz) ⟨w,g,show Q_ ((dI k).getD D)≠aaG/\_ from⟨(λx=>nomatch x),.bl ((dI k).getD D),H,I,rfl,q⟩⟩ (by omega)
theorem Q1:Ĕ a SD gtT:=by
 intro s q x y H Q h g o;cases s<;>cases q<;>try exact(show False from o).elim
 rename_i w v;simp only[gtT]at o;split at o
 · rename_i j k p n;split at o;·rename_i m;obtain⟨d,z,rfl,f,r⟩:=h.tupE;obtain⟨b,u,rfl,e,i⟩:=g.tupE;rw[mU p r]at f;rw[mU n i]at e;exact⟨d,b,j,k,rfl,rfl,f,e,m,o _ H (.refl H) rfl⟩
   ·exact o.elim
 ·exact o.elim
noncomputable def ix(k:Int):List Int->Nat|[]=>0|m::r=>if m=k then 0 else ix k r+1
noncomputable def er(k:Int):List Int->List Int|[]=>[]|m::r=>if m=k then r else m::er k r
structure S2(X:C)(i k:Nat)(a b:O)(H:Hp)(σ:L2.St)(Hf:Hp)(ρ:Ev):Prop where
 off:∀c,c≠a->c≠b->Hf c=H c
 na:H a=U
 nb:H b=U
 ne:a≠b
 ia:σ[i]?=Z (Z (.ref a))kb:σ[k]?=Z (Z (.ref b))len:σ.length=ρ.length
 low:∀j d,j≠i->j≠k->ρ[j]?=Z (Z d)->∃v,σ[j]?=Z (Z v)/\Ô X.K H d v
 fst:∃ds xs,ρ[i]?=Z (Z (.lst ds))/\Hf a=Z (.lst xs)/\S X.K H ds xs
 snd:∃es ys,ρ[k]?=Z (Z (.lst es))/\Hf b=Z (.lst ys)/\S X.K H es ys
abbrev FnP:=Ev->Option Ev
end FD
namespace L2
noncomputable def sw[DecidableEq δ](a:List (δ×V))(k:δ):Option V:=(a.find? λb=>s_ (b.1=k)).map (·.2)
noncomputable def uC[DecidableEq δ](a:List (δ×V))(k:δ)(v:V):List (δ×V):=if(a.any λb=>s_ (b.1=k))=L then a.map (λb=>if b.1=k then(b.1,v)else b)else a++[(k,v)]
theorem mf[DecidableEq δ]{p:δ×V}{r:List (δ×V)}{k:δ}(e:p.1=k):sw (p::r) k=Z p.2:=by simp[sw,Wh,e]
theorem mh[DecidableEq δ]{p:δ×V}{r:List (δ×V)}{k:δ}(e:¬p.1=k):sw (p::r) k=sw r k:=by simp[sw,Wh,e]
theorem v4{b:Type}[DecidableEq b](k:b):∀a:List (b×V),(a.any λd=>s_ (d.1=k))=(sw a k).isSome
 |[]=>rfl|p::r=>by
  rw[V_];by_cases e:p.1=k;·simp only[mf e,decide_eq_true e,Bool.true_or,abj]
  ·rw[mh e,decide_eq_false e,Bool.false_or];exact v4 k r
theorem mV[DecidableEq δ](a:List (δ×V))(k:δ)(v:V):(uC a k v).length<=a.length+1:=by
 unfold uC;split;·rw[S_];omega
 ·rw[UX,UB,List.length_nil];omega
theorem Č.isSome_eq{o:Option V}{u:Option B}(r:Č o u):o.isSome=u.isSome:=by cases o with
 |none=>cases u with|none=>rfl|some _=>exact(show False from r).elim
 |some _=>cases u with|none=>exact(show False from r).elim|some _=>rfl
theorem Č.getD{o:Option V}{u:Option B}(r:Č o u)(a:Ú ψ Β):Ú (o.getD ψ) (u.getD Β):=by cases o with
 |none=>cases u with|none=>exact a|some _=>exact(show False from r).elim
 |some _=>cases u with|none=>exact(show False from r).elim|some _=>exact r
theorem KV.val[DecidableEq δ]{a:List (δ×V)}{g:List (δ×B)}(r:KV a g)(k:δ):Č (sw a k) (abn g k):=by unfold KV at r;induction r with|nil=>exact WJ|@cons p q n d h t j=>
 obtain⟨i,m⟩:=h;by_cases e:p.1=k
 · have f:q.1=k:=i.symm.trans e;have b:abn (q::d) k=Z q.2:=by simp[abn,Wh,f]
   rw[mf e,b];exact m
 · have f:¬q.1=k:=λz=>e (i.trans z);have b:abn (q::d) k=abn d k:=by simp[abn,Wh,f]
   rw[mh e,b];exact j
theorem KV.any[DecidableEq δ]{a:List (δ×V)}{d:List (δ×B)}(r:KV a d)(k:δ):(a.any λb=>s_ (b.1=k))=d.any λb=>s_ (b.1=k):=by unfold KV at r;induction r with|nil=>rfl|cons h t e=>rw[V_,V_,e,h.1]
theorem KV.repl[DecidableEq δ]{b:List (δ×V)}{f:List (δ×B)}(r:KV b f)(k:δ){y:V}{u:B}(g:Ú y u):KV (b.map λa=>if a.1=k then(a.1,y)else a) (f.map λa=>if a.1=k then(a.1,u)else a):=by unfold KV at r⊢;induction r with|nil=>exact .nil|@cons p q n m h t i=>
 rw[G_,G_];refine .cons ?_ i;obtain⟨d,j⟩:=h;by_cases e:p.1=k;·rw[if_pos e,if_pos (d.symm.trans e)];exact⟨d,g⟩
 ·rw[if_neg e,if_neg (λz=>e (d.trans z))];exact⟨d,j⟩
theorem KV.put[DecidableEq δ]{a:List (δ×V)}{b:List (δ×B)}(r:KV a b)(k:δ){y:V}{u:B}(d:Ú y u):KV (uC a k y) (stored b k u):=by
 unfold uC stored;rw[r.any k];by_cases e:(b.any λf=>s_ (f.1=k))=L;·rw[if_pos e,if_pos e];exact r.repl k d
 ·rw[if_neg e,if_neg e];exact Paired.snoc r ⟨rfl,d⟩
theorem KV.length[DecidableEq δ]{a:List (δ×V)}{b:List (δ×B)}(r:KV a b):a.length=b.length:=ZH r
theorem Ig{k:ò}(a:Ú (kV k) Β):(dt r q).is k Β=L:=by cases k with|inl i=>obtain⟨t,e⟩:=(show∃t,Β=ZR i t from a);subst e;exact tW r q i t|inr x=>obtain⟨t,e⟩:=(show∃t,Β=V6 x t from a);subst e;exact tX r q x t
theorem sx{P:n_}{w:xy}:∀{a:List ò}{b:List B},Ï (a.map kV) b->ItemsAre (dt P w) a b|[],_,r=>by rw[Yw]at r;cases r;exact .nil|k::a,_,r=>by rw[G_]at r;cases r with|cons h t=>exact .cons (Ig h) (sx t)
abbrev KT(H:Hp):List (List ò×V)->List (List ò×O×B)->Prop:=acu λp q=>p.1=q.1/\H q.2.1=Z (.tup (p.1.map kV))/\Ú p.2 q.2.2
theorem KT.val{a:List (List ò×V)}{i:List (List ò×O×B)}(r:KT g a i)(k:List ò):Č (sw a k) ((V' i k).map (·.2)):=by induction r with|nil=>exact WJ|@cons p q o d h t m=>
 obtain⟨j,_,n⟩:=h;by_cases e:p.1=k
 · have f:q.1=k:=j.symm.trans e;have b:V' (q::d) k=Z q.2:=by simp[V',Wh,f]
   rw[mf e,b];exact n
 · have f:¬q.1=k:=λz=>e (j.trans z);have b:V' (q::d) k=V' d k:=by simp[V',Wh,f]
   rw[mh e,b];exact m
theorem KT.repl{a:List (List ò×V)}{f:List (List ò×O×B)}(r:KT g a f)(k:List ò){y:V}{u:B}(j:Ú y u):KT g (a.map λd=>if d.1=k then(d.1,y)else d) (f.map (putAt k u)):=by induction r with|nil=>exact .nil|@cons p q s o h t m=>
 rw[G_,G_];refine .cons ?_ m;obtain⟨b,i,n⟩:=h;unfold putAt;by_cases e:p.1=k;·rw[if_pos e,if_pos (b.symm.trans e)];exact⟨b,i,j⟩
 ·rw[if_neg e,if_neg (λz=>e (b.trans z))];exact⟨b,i,n⟩
theorem KT.put{a:List (List ò×V)}{d:List (List ò×O×B)}(r:KT g a d)(k:List ò){b:O}{y:V}{u:B}(i:g b=Z (.tup (k.map kV)))(f:Ú y u):KT g (uC a k y) (storedH d k b u):=by
 have e:(a.any λh=>s_ (h.1=k))=(V' d k).isSome:=by rw[v4,(r.val k).isSome_eq,Option.isSome_map]
 unfold uC storedH;rw[e];by_cases q:(V' d k).isSome=L;·rw[if_pos q,if_pos q];exact r.repl k f
 ·rw[if_neg q,if_neg q];exact Paired.snoc r ⟨rfl,i,f⟩
theorem KT.keeps{a:List (List ò×V)}{e:List (List ò×O×B)}(r:KT g a e)(f:∀b d,g b=Z (.tup d)->Α b=Z (.tup d)):KT Α a e:=Paired.mapP r λ_ _ z=>⟨z.1,f _ _ z.2.1,z.2.2⟩
theorem MR{u:HO}(b:ĉ r q g N)(a:Rd g e u):ã r q g N e u:=a.ok b
theorem Ih{b:List (ò×V)}(f:ĉ r q g N)(a:Rd g e (.dK b)):b.length<=sizeLine/\(e==WL)=D/\∃d,KV b d/\N.DictOf (dt r q) e d:=show ã r q g N e (.dK b)from MR f a
theorem Q2{b:List (ò×V)}(f:ĉ r q g N)(a:g e=Z (.dK b)):b.length<=sizeLine/\(e==WL)=D/\∃d,KV b d/\N.DictOf (dt r q) e d:=Ih f (.inl a)
theorem iX{d:List ò}(h:ĉ r q g N)(b:g e=Z (.tup (d.map kV))):(ZN (dt r q)).is N d e:=by obtain⟨_,f,a,o,k,j,n,i⟩:=(show ã r q g N e (.tup (d.map kV))from h e _ b);exact⟨o,f.toArray,n,k,j,i,by simpa using sx a⟩
theorem Ii{f:List (List ò×V)}(j:ĉ r q g N)(a:Rd g e (.dT f)):f.length<=sizeLine/\(e==WL)=D/\∃i,KT g f i/\N.DictOfH (ZN (dt r q)) e i:=by
 obtain⟨z,y,i,b,o,E,H,A,w,v,u,s⟩:=(show ã r q g N e (.dT f)from MR j a);refine⟨z,y,i,b,o,E,H,A,w,v,u,λx h=>?_,s⟩;have all:∀{l:List (List ò×V)}{m:List (List ò×O×B)},KT g l m->∀x∈m,(ZN (dt r q)).is N x.1 x.2.1:=by intro l m d;induction d with|nil=>intro x h;exact nomatch h|@cons p d ps I k t n=>
  intro x h;rcases uk.mp h with a|h;·subst a;exact iX j (by rw[<-k.1];exact k.2.1)
  ·exact n x h
 exact all b x h
theorem MS{b:List (List ò×V)}(f:ĉ r q g N)(a:g e=Z (.dT b)):b.length<=sizeLine/\(e==WL)=D/\∃d,KT g b d/\N.DictOfH (ZN (dt r q)) e d:=Ii f (.inl a)
def Ŧ(H:Hp)(a:O)(y:V)(r:Option V):Prop:=(∃d k,Rd H a (.dK d)/\y=kV k/\r=sw d k)\/∃d k b,Rd H a (.dT d)/\y=.ref b/\H b=Z (.tup (k.map kV))/\r=sw d k
def Ţ(H:Hp)(a:O)(y v:V)(e:Hp):Prop:=(∃d k,H a=Z (.dK d)/\y=kV k/\d.length<sizeLine/\e=ß H a (.dK (uC d k v)))\/∃d k b,H a=Z (.dT d)/\y=.ref b/\H b=Z (.tup (k.map kV))/\d.length<sizeLine/\e=ß H a (.dT (uC d k v))
theorem Ŧ.t{b:List (List ò×V)}{k:List ò}(a:g e=Z (.dT b))(d:g A=Z (.tup (k.map kV))):Ŧ g e (.ref A) (sw b k):=.inr ⟨b,k,A,.inl a,rfl,d,rfl⟩
theorem Ţ.t{b:List (List ò×V)}{k:List ò}(a:g e=Z (.dT b))(f:g A=Z (.tup (k.map kV)))(d:b.length<sizeLine):Ţ g e (.ref A) ψ (ß g e (.dT (uC b k ψ))):=.inr ⟨b,k,A,a,rfl,f,d,rfl⟩
theorem Í.big(I:Í a ζ Χ g f):WL<f.heap.objs.size:=by have h:C_<f.heap.objs.size:=(I.mod.glob.keeps I.bk).lt;exact aag (by decide) h
theorem z7{h:HO}(I:Í a ζ Χ g f)(j:Mut (g e))(k:Wm e f.heap N)(m:∃q,N.get? e=Z q)(i:ã a.prog a.w (ß g e h) N e h):Í a ζ Χ (ß g e h) {f with heap:=N,toks:=b}:=I.write (x:=e) (e:=e) j (.inl rfl) (λd q n z=>(k.2 d n).trans z) m i
theorem MT{a:List (ò×V)}{b:List (ò×B)}(z:a.length<=sizeLine)(f:(e==WL)=D)(d:KV a b)(h:N.DictOf (dt r q) e b):ã r q g N e (.dK a):=⟨z,f,b,d,h⟩
theorem Aa{v:V}{r:B}{Q:Unit->ge->Prop}(hu:I.units+1<cLine)(i:Í a ζ Χ g f)(j:Ţ g e ψ v Α)(ry:Ú ψ Β)(rv:Ú v r)(h:∀N,Í a ζ Χ Α N->Q () N):v_ (E_ a.prog a.w) I (setItem (.ref e) Β r) Q τ f:=by
 rcases j with⟨n,k,d,A,l,E⟩|⟨n,k,b,d,A,eb,l,E⟩
 · subst A E;obtain⟨z,y,vs,m,H⟩:=Q2 i.hok d;have s:vs.length<=sizeLine:=by rw[<-m.length];exact z
   have w:(uC n k v).length<=sizeLine:=by have:=mV n k v;omega
   refine wpAny_setItem_pairs (hsz:=s) (Ig ry) H λh' o u=>h _ ?_;have he:∃q,h'.get? e=Z q:=let⟨q,_,_,p,_⟩:=o;⟨q,p⟩;exact z7 i (by rw[d];exact WJ) u he (MT w y (m.put k rv) o)
 · subst A E;cases(show Β=B_ b from ry);obtain⟨z,y,xs,m,H⟩:=MS i.hok d;have s:xs.length<=sizeLine:=by rw[<-ZH m];exact z
   have w:(uC n k v).length<=sizeLine:=by have:=mV n k v;omega
   refine wpAny_setItem_heap (hsz:=s) (tupleKind_room_in1 hu) (iX i.hok eb) H λh' o u=>h _ ?_;obtain⟨q,es,ep,p,h2,h3,h4,_,h5⟩:=o;refine z7 i (by rw[d];exact WJ) u ⟨q,p⟩ ⟨w,y,_,(m.put k eb rv).keeps λc ys ec=>?_,q,es,ep,p,h2,h3,h4,h5⟩;rw[aA (Pr ec d (λz=>nomatch z))];exact ec
def Q3(h f g:TE):TS:=λb d H=>g d H λv k=>h d k λx j=>f d j λy i=>∃a e,x=.ref a/\Ţ i a y v e/\b.nx d e
theorem Ij{i:r_}{n o:TE}(hu:a.A.units+1<cLine)(ho:PE a h Ω)(hi:PE a w n)(hv:PE a i o)(hs:Vb i (Z (.Subscript h w u)) m.line a.env=pure D):PS a (.Assign [.Subscript h w u] i m) (Q3 Ω n o):=by intro k s j H f I d;refine wpAny_Assign_Subscript (å (hv k s j H _ I d) λr q⟨v,H1,I1,E,q1⟩=>å (ho k q j H1 _ I1 q1) λb p⟨x,H2,I2,A,q2⟩=>å (hi k p j H2 _ I2 q2) λiv s3⟨y,H3,I3,z,e,H4,ex,g,N⟩=>?_) hs;subst ex;obtain rfl:b=B_ e:=A;exact Aa hu I3 g z E λs4 I4=>⟨j,H4,I4,N⟩
theorem Dk(h:N_)(a:WL<h.objs.size):ã r q g (h.push {cls:=.type "dict",data:=.dict #[]}) h.objs.size (.dT []):=⟨UQ _,beq_eq_false_iff_ne.mpr (UK (UI a)),[],.nil,_,#[],0,w_ _ rfl,⟨rfl,rfl,rfl⟩,rfl,rfl,aaN⟩
def MU:TE:=λ_ H Q=>∀p,H p=U->Q (.ref p) (ß H p (.dT []))
theorem Dl:PE a (.Dict [] [] m) MU:=λd s b H Q I h=>wpAny_Dict_empty ⟨.ref s.heap.objs.size,_,I.laid (a:=s.heap.objs.size) (o:=.dT []) (t':=s.toks) (λ_ _ q=>l_ _ q) (on _) (Dk s.heap I.big),rfl,h _ (I.hok.fresh (on _))⟩
structure M2(X:C)(o:r_)(m:Str)(apos:Pos)(e f:r_)(cpos:Pos):Prop where
 base:Vd o m X.env (eval o X.env)=eval o X.env
 few:((UH cpos (k_ [e,f] X.env)).all (λx=>!x.1)&&(Wd cpos (Vo [] X.env)).all (λx=>x.1.isSome)&&s_ (([e,f]:List r_).length+([]:List Wl).length+(if([]:List Wl).isEmpty then 0 else 1)<30))=L
 line:(apos.endLine==cpos.line)=L
 trees:UH cpos (k_ [e,f] X.env)=[(D,eval e X.env),(D,eval f X.env)]
def IsD(H:Hp)(a:O):Prop:=(∃b,Rd H a (.dK b))\/∃b,Rd H a (.dT b)
theorem Fu(I:Í a ζ Χ g f)(d:IsD g e):f.TypeIs (.ref e) "dict"/\(∀b,B_ e=.ref b->∃i,f.heap.get? b=Z i/\i.dict=U)/\(e==WL)=D:=by
 rcases d with⟨o,h⟩|⟨o,h⟩;·obtain⟨_,k,r,_,j⟩:=Ih I.hok h;refine⟨j.typeIs,λb q=>?_,k⟩;cases q;obtain⟨i,_,_,n,m,_⟩:=j;exact⟨i,n,m.2.1⟩
 ·obtain⟨_,k,p,_,j⟩:=Ii I.hok h;refine⟨j.typeIs,λb q=>?_,k⟩;cases q;obtain⟨i,_,_,n,m,_⟩:=j;exact⟨i,n,m.2.1⟩
theorem MV{d:V}{r:B}{o:Option V}(H:I.units+1<cLine)(i:Í a ζ Χ g f)(m:Ŧ g e ψ o)(y:Ú ψ Β)(A:Ú d r)(h:∀v w,Í a ζ Χ g w->Ú (o.getD d) v->Ç v w):v_ (E_ a.prog a.w) I (call (.builtin "dict.get") [.ref e,Β,r]) Ç τ f:=by
 rcases m with⟨u,k,j,s,l⟩|⟨u,k,b,j,s,N,l⟩;·subst s;obtain⟨z,q,vs,n,p⟩:=Ih i.hok j;refine call_meetsIn YE p.typeIs aad (ZW _ _ _) (meets_dict_get_default (dt a.prog a.w) e (Ig y) q r) ⟨_,p.mapOf,h _ _ (i.tok _) ?_⟩;rw[l];exact(n.val k).getD A
 ·subst s;cases(show Β=B_ b from y);obtain⟨z,q,E,n,p⟩:=Ii i.hok j;refine call_meetsIn YE p.typeIs aad (ZW _ _ _) (meetsH_dict_get_default (ZN (dt a.prog a.w)) e b q r) ⟨tupleKind_room_in1 H,k,E,iX i.hok N,p,h _ _ (i.tok _) ?_⟩;rw[l];exact(n.val k).getD A
def MW(h f g:TE):TE:=λb H Q=>h b H λx e=>∃a,x=.ref a/\IsD e a/\f b e λy i=>g b i λz d=>∃o,Ŧ d a y o/\Q (o.getD z) d
theorem Do{f:r_}{p q:TE}(hu:a.A.units+1<cLine)(ho:PE a h Ω)(he:PE a w p)(hf:PE a f q)(b:M2 a h "get" m w f u):PE a (.Call (.Attribute h "get" m) [w,f] [] u) (MW Ω p q):=by intro n s k H Q I i;refine wpAny_Call_method b.base b.few b.line ZV YE PySem.F.type_dict_get (å (ho n s k H _ I i) λe N⟨x,H1,r,rx,j,ex,d,q1⟩=>?_);subst ex;obtain rfl:e=B_ j:=rx;obtain⟨A,v,_⟩:=Fu r d;refine⟨A,v,?_⟩;rw[b.trees];refine Xb rfl (YO (Xa (å (he n N k H1 _ r q1) λiv E⟨y,H2,I2,ry,q2⟩=>Xa (å (hf n E k H2 _ I2 q2) λfv s3⟨z,H3,I3,rz,ov,g,q3⟩=>Yo ?_))));exact MV hu I3 g ry rz λw' s4 I4 o=>⟨_,H3,I4,o,q3⟩
end L2
namespace FD
open L2
abbrev Kv:=List (List Str×Q)
def NoD(u:HO):Prop:=∀a,u≠.dT a
mutual
theorem Ô.off{K:d_}{H j:Hp}(k:∀b u,NoD u->H b=Z u->j b=Z u):∀(d:Q)(v:V),Ô K H d v->Ô K j d v|.non,_,h=>h|.bl _,_,h=>h|.int _,_,h=>h|.str _,_,h=>h|.tup e,v,h=>by obtain⟨a,g,r,h,q⟩:=h.tupE;exact⟨a,g,r,k _ _ (λ_ z=>by cases z) h,S.off k e g q⟩|.lst e,v,h=>by obtain⟨a,g,r,h,q⟩:=h.lstE;exact⟨a,g,r,k _ _ (λ_ z=>by cases z) h,S.off k e g q⟩|.scr m,v,h=>by obtain⟨a,r,h⟩:∃a,v=.ref a/\K' K H a (m.map V.int):=h;exact⟨a,r,h.imp (λ⟨o,h⟩=>⟨o,k _ _ (λ_ z=>by cases z) h⟩) id⟩|.exn c,v,h=>by obtain⟨a,o,u,C,r,h,q⟩:∃a o u C,v=.ref a/\H a=Z (.frz o u)/\o.cls=.ref C/\U0 K C_ (Ĩ c)=Z (Z (.ref C)):=h;exact⟨a,o,u,C,r,k _ _ (λ_ z=>by cases z) h,q⟩|.obj c e,v,h=>by obtain⟨a,C,p,f,r,h,n,q,l⟩:=h.objE;exact⟨a,C,p,f,r,k _ _ (λ_ z=>by cases z) h,n,S.off k e f q,l⟩theorem S.off{K:d_}{H j:Hp}(k:∀b u,NoD u->H b=Z u->j b=Z u):∀(e:List Q)(f:List V),S K H e f->S K j e f|[],_,h=>h|d::e,f,h=>by obtain⟨v,i,r,h,q⟩:∃v i,f=v::i/\Ô K H d v/\S K H e i:=h;exact⟨v,i,r,Ô.off k d v h,S.off k e i q⟩end
noncomputable def kS(k:List Str):List ò:=k.map Z3
theorem Ab{j:List Str}(h:kS y=kS j):y=j:=(List.map_inj_right λa b h=>Sum.inr.inj h).mp h
noncomputable def Fv(a:Kv)(k:List Str)(d:Q):Kv:=if(a.any λp=>s_ (p.1=k))=L then a.map (λp=>if p.1=k then(p.1,d)else p)else a++[(k,d)]
noncomputable def Ac(a:Kv)(k:List Str):Option Q:=(a.find? λp=>s_ (p.1=k)).map (·.2)
inductive KD(K:d_)(H:Hp):Kv->List (List ò×V)->Prop|nil:KD K H [] []|cons{k:List Str}{d:Q}{v:V}{kv:Kv}{kvs:List (List ò×V)}:Ô K H d v->KD K H kv kvs->KD K H ((k,d)::kv) ((kS k,v)::kvs)
theorem KD.mono{K:d_}{H e:Hp}(f:∀d v,Ô K H d v->Ô K e d v):∀{b:Kv}{a:List (List ò×V)},KD K H b a->KD K e b a|_,_,.nil=>.nil|_,_,.cons r t=>.cons (f _ _ r) (KD.mono f t)
theorem KD.length{K:d_}{H:Hp}:∀{b:Kv}{a:List (List ò×V)},KD K H b a->b.length=a.length|_,_,.nil=>rfl|_,_,.cons r t=>by rw[UB,UB,KD.length t]
theorem KD.any{K:d_}{H:Hp}(k:List Str):∀{b:Kv}{a:List (List ò×V)},KD K H b a->(a.any λp=>s_ (p.1=kS k))=b.any λp=>s_ (p.1=k)|_,_,.nil=>rfl|_,_,.cons (k:=j) r t=>by rw[V_,V_,KD.any k t];congr 1;show s_ (kS j=kS k)=s_ (j=k);rw[VO];simp only[decide_eq_true_eq];exact⟨Ab,λh=>by rw[h]⟩
theorem KD.map{K:d_}{H:Hp}{k:List Str}{d:Q}{v:V}(b:Ô K H d v):∀{e:Kv}{a:List (List ò×V)},KD K H e a->KD K H (e.map λp=>if p.1=k then(p.1,d)else p) (a.map λp=>if p.1=kS k then(p.1,v)else p)
 |_,_,.nil=>.nil|_,_,.cons (k:=j) r t=>by
  rw[G_,G_];by_cases h:j=k;·subst h;simp only[if_true];exact .cons b (KD.map b t)
  ·have f:¬kS j=kS k:=λz=>h (Ab z);simp only[h,f,if_false];exact .cons r (KD.map b t)
theorem KD.snoc{K:d_}{H:Hp}{k:List Str}{d:Q}{v:V}(b:Ô K H d v):∀{e:Kv}{a:List (List ò×V)},KD K H e a->KD K H (e++[(k,d)]) (a++[(kS k,v)])|_,_,.nil=>.cons b .nil|_,_,.cons r t=>.cons r (KD.snoc b t)
theorem KD.put(b:Ô s g j ψ){d:Kv}{a:List (List ò×V)}(t:KD s g d a):KD s g (Fv d y j) (uC a (kS y) ψ):=by
 unfold Fv uC;rw[t.any y];split;·exact KD.map b t
 ·exact KD.snoc b t
theorem KD.val{K:d_}{H:Hp}(k:List Str):∀{b:Kv}{a:List (List ò×V)},KD K H b a->(match Ac b k with|some d=>∃v,sw a (kS k)=Z v/\Ô K H d v|none=>sw a (kS k)=U)
 |_,_,.nil=>rfl|_,_,.cons (k:=j) (d:=d) (v:=v) (kv:=b) (kvs:=a) r t=>by
  by_cases h:j=k
  · subst h;have f:Ac ((j,d)::b) j=Z d:=by simp[Ac]
    have e:sw ((kS j,v)::a) (kS j)=Z v:=mf rfl;rw[f];exact⟨v,e,r⟩
  · have f:Ac ((j,d)::b) k=Ac b k:=by simp[Ac,Wh,h]
    have e:sw ((kS j,v)::a) (kS k)=sw a (kS k):=mh λz=>h (Ab z);rw[f,e];exact KD.val k t
def ŏ(a:O)(H d:Hp):Prop:=∀b u,b≠a->H b=Z u->d b=Z u
structure T1(X:C)(i:Nat)(a:O)(H:Hp)(σ:L2.St)(ρ:Ev)(kv:Kv):Prop where
 ia:σ[i]?=Z (Z (.ref a))no:∀d,ρ[i]?≠Z (Z d)env:Û X.K H σ ρ
 dct:∃kvs,H a=Z (.dT kvs)/\KD X.K H kv kvs
theorem T1.mono{i:Kv}(T:T1 a b e g Λ ε i)(f:Ñ g Α):T1 a b e Α Λ ε i:=by obtain⟨h,k,j⟩:=T.dct;exact⟨T.ia,T.no,T.env.mono f,h,f _ _ k,j.mono λd v r=>Ô.mono f d v r⟩
theorem T1.set{f:Kv}(T:T1 a b e g Λ ε f){j:Nat}(h:j≠b){d:Q}{v:V}(r:Ô a.K g d v):T1 a b e g (Λ.set j (Z v)) (ε.set j (Z d)) f:=⟨by rw[p_ h];exact T.ia,λi=>by rw[p_ h];exact T.no i,T.env.set r,T.dct⟩
theorem T1.put{i:Kv}(T:T1 a b e g Λ ε i){k:List Str}{d:Q}{v:V}{h:List (List ò×V)}(E:g e=Z (.dT h))(A:KD a.K g i h)(r:Ô a.K g d v):T1 a b e (ß g e (.dT (uC h (kS k) v))) Λ ε (Fv i k d):=by
 have m:∀f u,NoD u->g f=Z u->ß g e (.dT (uC h (kS k) v)) f=Z u:=λf u s q=>by
  have y:f≠e:=λz=>by rw[z,E]at q;cases q;exact s _ rfl
  rw[aA y];exact q
 refine⟨T.ia,T.no,⟨T.env.len,λj H w=>?_⟩,_,aw,(A.put r).mono λd v r=>Ô.off m d v r⟩;obtain⟨n,p,o⟩:=T.env.at' j H w;exact⟨n,p,Ô.off m _ _ o⟩
def Q4:Q->Option (List Str)|.tup a=>df a|_=>U
theorem Ad(h:Q4 j=Z y)(r:Ô s g j ψ):∃b,ψ=.ref b/\g b=Z (.tup ((kS y).map kV)):=by
 cases j<;>try(cases h;done)
 rename_i d;obtain⟨a,f,rfl,q,p⟩:=r.tupE;refine⟨a,rfl,?_⟩;have e:∀{d:List Q}{y:List Str}{f:List V},df d=Z y->S s g d f->f=(kS y).map kV:=by intro d;induction d with|nil=>intro y f h r;cases h;exact(show f=[]from r)|cons j d o=>
  intro y f h r;obtain⟨ψ,i,rfl,m,n⟩:∃ψ i,f=ψ::i/\Ô s g j ψ/\S s g d i:=r;cases j<;>try(cases h;done)
  rename_i z;cases k:df d with|none=>simp[df,k]at h|some u=>simp[df,k]at h;subst h;cases(show ψ=.str z from m);rw[o k n];rfl
 rw[q,e h p]
abbrev ō:=Ev->Kv->Option Q
noncomputable def tV(X:C)(i:Nat)(g:ō):TE:=λh H Q=>∃a e f,T1 X i a H h e f/\∃d,g e f=Z d/\∀v b,Ñ H b->Ô X.K b d v->Q v b
structure FV(X:C)(i:Nat)(e:r_)(g:ō):Prop where h:PE X e (tV X i g)
noncomputable def vE(f:Ò):ō:=λa _=>match f a with|some (.ok d)=>Z d|_=>U
def Ik(e f:Ò):ō:=λa b=>match e a,f a with|some (.ok k),Z (.ok d)=>(match Q4 k with|some k=>Z ((Ac b k).getD d)|none=>U)|_,_=>U
noncomputable def oY(F:Ö)(g:ō)(f:Ò):ō:=λa b=>match g a b,f a with|some x,Z (.ok y)=>(match F [x,y]with|some (.ok d)=>Z d|_=>U)|_,_=>U
abbrev Ņ:=Ev->Kv->Option (Ev×Kv)
noncomputable def tDc(X:C)(i:Nat)(f:Ņ):TS:=λb m H=>∃a j k,T1 X i a H m j k/\∃e g,f j k=Z (e,g)/\∀d h,ŏ a H h->T1 X i a h d e g->b.nx d h
structure FDs(X:C)(i:Nat)(st:List U8)(f:Ņ):Prop where h:Ľ X st (tDc X i f)
structure Dr(X:C)(i:Nat)(st:U8)(f:Ņ):Prop where h:PS X st (tDc X i f)
def Il(e:Ò)(g:ō):Ņ:=λa b=>match g a b,e a with|some d,Z (.ok k)=>(match Q4 k with|some k=>if b.length<100000 then Z (a,Fv b k d)else U|none=>U)|_,_=>U
noncomputable def pS(j:Nat)(a:Ņ):List Q->Ņ|[],b,e=>Z (b,e)|d::h,b,e=>match a (b.set j (Z d)) e with|some (f,g)=>pS j a h f g|none=>U
def Im(j:Nat)(b:Ò)(a:Ņ):Ņ:=λd e=>match b d with|some (.ok (.tup f))=>pS j a f d e|_=>U
theorem ŏ.refl(a:O)(H:Hp):ŏ a H H:=λ_ _ _ h=>h
theorem ŏ.trans{a:Hp}(p:ŏ e g Α)(q:ŏ e Α a):ŏ e g a:=λb u n h=>q b u n (p b u n h)
theorem ŏ.of(a:Ñ g Α):ŏ e g Α:=λb u _ h=>a b u h
theorem Q5(k:FE a h z):FV a b h (vE z):=⟨λm s i H Q I⟨f,j,n,T,d,g,q⟩=>k.h m s i H Q I ⟨j,T.env,by
 unfold vE at g;split at g;·rename_i o e;cases g;rw[e];exact q
 ·cases g⟩⟩
theorem MX(hu:a.A.units+1<cLine)(hx:PE a (.Name d m) (yd b))(hk:FE a h z)(hd:FE a w É)(f:M2 a (.Name d m) "get" u h w Ρ):FV a b (.Call (.Attribute (.Name d m) "get" u) [h,w] [] Ρ) (Ik z É):=⟨λf' s E H Q I⟨e,y,kv,T,g,j,q⟩=>by
 refine Do hu hx hk.h hd.h f f' s E H Q I ⟨.ref e,T.ia,e,rfl,?_⟩;obtain⟨v,h1,h2⟩:=T.dct;refine⟨.inr ⟨v,.inl h1⟩,y,T.env,?_⟩;unfold Ik at j;split at j
 · rename_i k0 d0 e1 e2;split at j;·rename_i k ek;cases j;rw[e1];intro vk H1 r N;refine⟨y,(T.mono r).env,?_⟩;rw[e2];intro vd H2 p rd;obtain⟨i,rfl,hb⟩:=Ad ek (Ô.mono p _ _ N);have T2:=T.mono (r.trans p);obtain⟨n,g1,g2⟩:=T2.dct;refine⟨sw n (kS k),Ŧ.t g1 hb,q _ H2 (r.trans p) ?_⟩;have o:=g2.val k;cases A:Ac kv k with|none=>rw[A]at o;rw[o];exact rd|some d1=>rw[A]at o;obtain⟨v1,e3,r3⟩:=o;rw[e3];exact r3
   ·cases j
 ·cases j⟩
theorem MY{g:ō}(hu:a.A.units+1<cLine)(hx:PE a (.Name d u) (yd b))(hk:FE a h z)(hv:FV a b w g)(hs:Vb w (Z (.Subscript (.Name d u) h Ρ)) m.line a.env=pure D:=by lk):Dr a b (.Assign [.Subscript (.Name d u) h Ρ] w m) (Il z g):=⟨λf' s N H n I⟨e,ρ,kv,T,a',b',p,q⟩=>by
 unfold Il at p;split at p
 · rename_i i k0 e1 e2;split at p
   · rename_i k ek;split at p
     · rename_i hl;cases p;refine Ij hu hx hk.h hv.h hs f' s N H n I ⟨e,ρ,kv,T,i,e1,λv H1 E r1=>⟨.ref e,T.ia,ρ,(T.mono E).env,?_⟩⟩;rw[e2];intro vk H2 A rk;obtain⟨j,rfl,hb⟩:=Ad ek rk;have T2:=T.mono (E.trans A);obtain⟨r,g1,g2⟩:=T2.dct;have y:r.length<sizeLine:=by have:=g2.length;have h2:=ce (b:=r.length+1) (by omega);omega
       refine⟨e,_,rfl,Ţ.t g1 hb y,q N _ (λj o hn f=>?_) (T2.put g1 g2 (Ô.mono A _ _ r1))⟩;rw[aA hn];exact A _ _ (E _ _ f)
     ·cases p
   ·cases p
 ·cases p⟩
theorem Io{f:Ņ}(h:Dr a b Ε f):FDs a b [Ε] f:=⟨pv h.h⟩
theorem ô.offD{K:d_}{a b:O}{H f:Hp}{e:List V}{d:List (List ò×V)}(k:ŏ a H f)(g:H a=Z (.dT d))(h:H b=Z (.tup e)):f b=Z (.tup e):=k b _ (λz=>by rw[z,g]at h;cases h) h
theorem MZ{fb:Ņ}(j:Nat)(q':j≠b)(hp:Xl (E_ a.prog a.w) a.A a.env a.xe)(hc:a.calm=L)(hi:FE a h z)(hg:PG a (.Name d u) (wL j))(hb:FDs a b À fb)(hs:∀x,UF h a.env x=pure x:=by intro _;lk):Dr a b (.For (.Name d u) h À [] m) (Im j z fb):=⟨λf' s σ H p I⟨e,ρ,kv,T,g',i',hf,q⟩=>by
 refine rh hp hc (KM hi.h) hg hb.h hs f' s σ H p I ⟨ρ,T.env,?_⟩;unfold Im at hf;split at hf
 · rename_i w hd;rw[hd];intro v H1 s1 r1;obtain⟨i,y,rfl,h1,h2⟩:=r1.tupE;refine⟨i,rfl,⟨y,ô.of h1⟩,?_⟩;have s':=T.mono s1;have t':w.length=y.length:=by have:=h2.length;omega
   refine⟨λn k b' H'=>k=w.length-n/\n<=w.length/\ŏ e H1 H'/\H' i=Z (.tup y)/\S a.K H' w y/\∃c' N,T1 a b e H' b' c' N/\pS j fb (w.drop n) c' N=Z (g',i'),⟨w.length,by simp,UQ _,ŏ.refl e H1,h1,h2,ρ,kv,s',by simpa using hf⟩,?_⟩;rintro n k b' H'⟨rfl,hn,h',a',k',c',N,Tn,r⟩;by_cases l':n<w.length
   · have hx:y[n]?=Z y[n]:=I_ (by omega);have m':w[n]?=Z w[n]:=I_ l';refine .inr ⟨⟨y,y[n],ô.of a',hx⟩,λe' H2=>ŏ e H1 H2/\H2 i=Z (.tup y)/\S a.K H2 w y/\∃A E,T1 a b e H2 e' A E/\pS j fb (w.drop (n+1)) A E=Z (g',i'),λe' H2 f=>⟨w.length-(n+1),by omega,rfl,l',f⟩,λx H2 yl=>?_⟩;obtain⟨rfl,o'⟩:=yl;have ex:=o' y (ô.of a');rw[hx]at ex;cases ex;have rd:Ô a.K H2 w[n] y[n]:=FD.reps_at k' n _ _ m' hx;rw[i7 m']at r;unfold pS at r;split at r
     · rename_i A E r';refine⟨e,_,N,Tn.set q' rd,A,E,r',λu' H3 d' T3=>⟨h'.trans d',?_,?_,A,E,T3,r⟩⟩;·obtain⟨n',g1,_⟩:=Tn.dct;exact ô.offD (K:=a.K) d' g1 a'
       ·obtain⟨n',g1,_⟩:=Tn.dct;exact S.off (λc o hn g=>d' c o (λf=>by rw[f,g1]at g;cases g;exact hn _ rfl) g) _ _ k'
     ·cases r
   · have p':n=w.length:=by omega
     subst p';rw[XM]at r;cases r;exact .inl ⟨⟨y,ô.of a',by omega⟩,q b' H' ((ŏ.of s1).trans h') Tn⟩
 ·cases hf⟩
theorem Ds{g1:ō}(e:Nat)(ps:List Str)(F:Ö)(g:Has a.prog a.w a.K a.mg a.base d e ps F)(hr:Ü k a.A)(hk:e<=k)(hg:Gl a d)(h1:FV a b h g1)(h2:FE a w z)(hn:ps.length=2:=by lk)(y:(d==("__debug__":Str))=D:=by lk)(he:k_ [h,w] a.env=(D,eval h a.env)::k_ [w] a.env:=by lk)(r:k_ [w] a.env=(D,eval w a.env)::k_ [] a.env:=by lk)(o:(UH u (k_ [w] a.env)).any (·.1)=D:=by lk):FV a b (.Call (.Name d m) [h,w] [] u) (oY F g1 z):=by
 obtain⟨f,fd,G,hm,p,hb⟩:=g;refine⟨λf' s σ H Q I⟨i,A,kv,T,j,n,q⟩=>?_⟩;unfold oY at n;split at n
 · rename_i d1 d2 q1 q2;split at n;·rename_i d' hF;cases n;refine pD (G.mono hk) hr hg hm p hb .nil K7 (lg h1.h (lg h2.h vn r) he) y he o f' s σ H Q I ⟨i,A,kv,T,d1,q1,λv1 H1 N r1=>⟨A,(T.mono N).env,?_⟩⟩;rw[q2];intro v2 H2 E r2;refine⟨[d1,d2],⟨v1,[v2],rfl,Ô.mono E _ _ r1,v2,[],rfl,r2,rfl⟩,hn.symm,?_⟩;rw[hF];exactλv H' s3 r3=>q v H' ((N.trans E).trans s3) r3
   ·cases n
 ·cases n
def Ae(i:Nat)(f g:Ņ)(a:Ev->Kv->Option Fl):Ù:=λj=>match f (j.set i U) []with|some (d,h)=>(match g d h with|some (b,e)=>a b e|none=>U)|none=>U
def tR(X:C)(i:Nat)(r:Ev->Kv->Option Fl):TS:=λb g H=>∃a e f d,T1 X i a H g e f/\Ñ d H/\d a=U/\õ X d (r e f) b
structure FR(X:C)(i:Nat)(sts:List U8)(r:Ev->Kv->Option Fl):Prop where h:Ľ X sts (tR X i r)
theorem Dt{s2:U8}{f1 R:Ņ}{r:Ev->Kv->Option Fl}(hN:a.N.Nodup)(hi:a.N[b]?=Z d)(hx:ł a.env.scope d)(h1:Dr a b Ε f1)(h2:Dr a b s2 R)(hr:FR a b À r)(hs:Vb (.Dict [] [] Ρ) (Z (.Name d u)) m.line a.env=pure D:=by lk)(hf:a.fn d=L\/a.env.scope.names.lookup d=Z .local:=by first|exact .inl rfl|exact .inr rfl|assumption):ġ a (.Assign [.Name d u] (.Dict [] [] Ρ) m::Ε::s2::À) (Ae b f1 R r):=⟨λf' s A H h I⟨N,E,o⟩=>by
 refine gM (oq (b:=b) hN hi hx Dl hs hf) (gM h1.h (gM h2.h hr.h)) f' s A H h I λp hp=>?_;have c':b<A.length:=by rw[I.len];exact(H_.mp hi).1
 have s0:Ñ H (ß H p (.dT [])):=aJ hp _;have T0:T1 a b p (ß H p (.dT [])) (A.set b (Z (.ref p))) (N.set b U) []:=by
  have E1:=(E.mono s0).fgt1 b;refine⟨A_ c',λg=>?_,⟨by rw[UM];exact E1.len,λj g i=>?_⟩,[],aw,.nil⟩
  · by_cases hl:b<N.length;·rw[A_ hl];exactλz=>by cases z
    ·rw[Va (by rw[UM];omega)];exactλz=>by cases z
  · have d':b≠j:=λz=>by
     subst z;by_cases hl:b<N.length;·rw[A_ hl]at i;cases i
     ·rw[Va (by rw[UM];omega)]at i;cases i
    obtain⟨v,q1,q2⟩:=E1.at' j g i;exact⟨v,by rw[p_ d'];exact q1,q2⟩
 unfold Ae at o;split at o
 · rename_i n w e1;split at o
   · rename_i k q e2;refine⟨p,_,[],T0,n,w,e1,λi' H1 b' g'=>⟨p,n,w,g',k,q,e2,λh' H2 a' e'=>⟨p,k,q,H,e',λe f hb=>?_,hp,o⟩⟩⟩;have y:e≠p:=λz=>by rw[z,hp]at hb;cases hb
     exact a' e f y (b' e f y (s0 e f hb))
   ·exact o.elim
 ·exact o.elim⟩
open TS
theorem Ag{h:Array DictEntry}{o:Obj}(a:f.heap.IsValuesView e A)(d:f.heap.get? A=Z o)(g:o.data=.dict h b)(i:Ç (.ref f.heap.objs.size) {f with heap:=f.heap.push {cls:=.type "dict_valueiterator",data:=.fields #[.ref A,.int 0 0,.int h.size 0,.int b 0]}}):v_ (E_ r q) I (pyIter (.ref e)) Ç τ f:=by obtain⟨m,k,n,j⟩:=id a;refine wpAny_pyIter_slot a.typeIs YN (VD YN a.typeIs PySem.F.entry_dict_values_iter ?_ (PySem.F.args_dict_values_iter_1 _));unfold WR.«dict_values.__iter__»;refine e_ (j_ (e_ ?_));unfold acz;refine e_ (Vy k j (x:=.ref A) rfl (j_ (e_ ?_)));unfold abU;refine e_ (Zv d g (e_ (aal d g ?_)));simp only[show Xh "dict_valueiterator"=D by decide,x_,if_false];refine Vl (j_ ⟨_,rfl,"dict_valueiterator",_,⟨_,w_ _ rfl,rfl⟩,Vi.lookup,?_⟩);simpa[Ze]using i
theorem Ah{h:Array DictEntry}{o:Obj}{Q:Option B->ge->Prop}(a:f.heap.IsValIter A e k h.size b)(i:f.heap.get? e=Z o)(j:o.data=.dict h b)(s:(h[k]?).map (·.val)=Z Β)(w:∀p,p.IsValIter A e (k+1) h.size b->Wm A f.heap p->Q (Z Β) {f with heap:=p}):v_ (E_ r q) I (Yg (.ref A)) Q τ f:=by
 obtain⟨z,n,v,g⟩:=id a;unfold Yg;refine e_ (XR (Vj (name:=b_ "__next__") a.typeIs Vi (VD Vi a.typeIs XE ?_ (Xv _))));refine e_ (j_ (e_ (e_ ?_)));first|refine e_ (Wb a.typeIs (j_ (e_ (Zd n g ?_))))|refine e_ (WK a.typeIs (j_ (e_ (Zd n g ?_))))
 have m:Xh "dict_valueiterator"=D:=by decide+kernel
 simp only[m,if_false,x_];show v_ _ _ (if(B_ e==.none)=L then _ else _) _ _ f;rw[if_neg (show¬((B_ e==.none)=L)from nofun)];refine e_ (j_ (e_ (Zv i j ?_)));rw[if_neg (by simp)];refine e_ (j_ (e_ (aal i j ?_)));rw[if_neg (by simp)];refine j_ ?_;obtain⟨y,u,rfl⟩:=Wn.mp s;simp only[if_false,show¬((k:Int)<0)from by omega,Yz,u];refine e_ ?_;first|refine e_ (Wb a.typeIs (j_ (e_ (Xn a.typeIs ?_))))|refine e_ (WK a.typeIs (j_ (e_ (Xn a.typeIs ?_))))
 show v_ _ _ (setField (.ref A) 1 (Ze ((k:Int)+1))>>=_) _ _ f;refine e_ (Zc n g (by simp) ?_);have d:(f.heap.update A (abb (·.setIfInBounds 1 (Ze ((k:Int)+1))))).IsValIter A e (k+1) h.size b:=⟨_,V3 _ n (aaz (X1 g _)),(abx ..).trans v,by rw[X1 g];simp[Ze]⟩;refine e_ (Vm (e_ (Xn (s:={f with heap:=f.heap.update A (abb (·.setIfInBounds 1 (Ze ((k:Int)+1))))}) d.typeIs (e_ (Xn (s:={f with heap:=f.heap.update A (abb (·.setIfInBounds 1 (Ze ((k:Int)+1))))}) d.typeIs ?_)))));show v_ _ _ (pure y.val) _ _ _;exact j_ (j_ ⟨_,rfl,j_ (w _ d (VF ..))⟩)
theorem Du{m:Array DictEntry}{o:Obj}{Q:Option B->ge->Prop}(s:I.handled=U)(a:f.heap.IsValIter A e k m.size b)(d:f.heap.get? e=Z o)(g:o.data=.dict m b)(p:m.size<=k)(u:∀n,Heap.ExtBut A f.heap n->Q U {f with heap:=n}):v_ (E_ r q) I (Yg (.ref A)) Q τ f:=by
 obtain⟨v,i,w,j⟩:=id a;unfold Yg;refine e_ (XR (Vj (name:=b_ "__next__") a.typeIs Vi (VD Vi a.typeIs XE ?_ (Xv _))));refine e_ (j_ (e_ (e_ ?_)));first|refine e_ (Wb a.typeIs (j_ (e_ (Zd i j ?_))))|refine e_ (WK a.typeIs (j_ (e_ (Zd i j ?_))))
 have h:Xh "dict_valueiterator"=D:=by decide+kernel
 simp only[h,if_false,x_];show v_ _ _ (if(B_ e==.none)=L then _ else _) _ _ f;rw[if_neg (show¬((B_ e==.none)=L)from nofun)];refine e_ (j_ (e_ (Zv d g ?_)));rw[if_neg (by simp)];refine e_ (j_ (e_ (aal d g ?_)));rw[if_neg (by simp)];refine j_ ?_;simp only[if_false,show¬((k:Int)<0)from by omega,Yz,Array.getElem?_eq_none p];refine e_ ?_;first|refine e_ (Wb a.typeIs (j_ ?_))|refine e_ (WK a.typeIs (j_ ?_))
 show v_ _ _ (setField (.ref A) 0 .none>>=_) _ _ f;refine e_ (Zc i j (by simp) ?_);show v_ _ _ (newExc (.type "StopIteration") []>>=_) _ _ _;refine e_ ?_;simp only[newTuple,newExc];refine e_ (Vl ?_ (by size_fits));refine e_ (m:=Zg _ _) (ab0 (a:=J_) (by first|(simp only[Zg];rfl)|rfl) (Vl ?_ (by size_fits)));simp only[raiseNew];refine e_ (wpAny_handled ?_);rw[show I.in1.handled=U from s];refine e_ (j_ (wpAny_throw ?_));refine e_ (wpAny_isInstance (T:="StopIteration") (b:=L) ⟨_,w_ _ rfl,rfl⟩ isSubtype_stop ?_);exact j_ (u _ (((VF ..).extBut.push _).push _))
theorem Ai(N:I.handled=U)(f d:O)(u:d≠f)(m:Array DictEntry)(A:Nat):Walks r q I f [f,d] [f] m.size (λi v=>(m[i]?).map (·.val)=Z v) (λi h=>h.IsValIter f d i m.size A/\∃o,h.get? d=Z o/\o.data=.dict m A)where
 sub:=λb k=>by simp at k;simp[k]
 frame:=λ_ _ _⟨st,o,j,g⟩z=>⟨st.at λo e=>z f (by simp) o e,o,z d (by simp) o j,g⟩;item:=λi s Q E H⟨st,o,j,g⟩n=>by
  have y:(m[i]?).map (·.val)=Z m[i].val:=by simp[H]
  refine Ah st j g y λp a b=>?_;exact n _ p s.toks y ⟨a,o,b.extBut d o u j,g⟩ λb' o k e=>b.extBut b' o (λh=>k (by simp[h])) e
 done:=λs Q E⟨st,o,j,g⟩n=>Du N st j g (on _) λp w=>n p s.toks λb o k e=>w b o (λh=>k (by simp[h])) e;self:=λ_ _ _ _⟨st,_⟩n=>wpAny_pyIter_valiter st n
theorem Dw(a d:O)(e:Array DictEntry)(m:Nat):PySem.W.KdlSrc r q "dict_values" a d e.size (λi v=>(e[i]?).map (·.val)=Z v) (λh=>h.IsValuesView a d/\∃o,h.get? d=Z o/\o.data=.dict e m)where
 type:=λ_ g=>g.1.typeIs;there:=λ_⟨⟨_,u,_⟩,_,b,_⟩=>⟨z_ u,z_ b⟩;keep:=λ_ _⟨⟨o,p,x⟩,j,b,y⟩k=>⟨⟨o,k a (.inl rfl) o p,x⟩,j,k d (.inr rfl) j b,y⟩;notList:=by decide
 notTuple:=by decide
 hint:=λ_ _ _ _ g f=>PySem.W.kdl_hint_values g.1.typeIs f;iter:=λ_ _ s⟨n,o,b,y⟩=>⟨_,_,(λ_ _ f=>Ag n b y f),Ai s _ d (UI (z_ b)) e m,⟨⟨_,w_ _ rfl,rfl,rfl⟩,o,l_ _ b,y⟩⟩
theorem sy{k:Array DictEntry}{o:Obj}{R:List B->ge->Prop}(y:I.handled=U)(p:f.heap.IsValuesView A e)(v:f.heap.get? e=Z o)(z:o.data=.dict k b)(w:k.size<=sizeLine)(u:A+1=f.heap.objs.size)(h:∀i m,(∀a o,f.heap.get? a=Z o->i.get? a=Z o)->f.heap.objs.size<=i.objs.size->R (k.toList.map (·.val)) {f with heap:=i,toks:=m}):v_ (E_ r q) I (collect (.ref A)) R τ f:=by
 refine PySem.W.kdu_collect (Dw A e k b) y ⟨p,o,v,z⟩ w λi m g n it=>?_;have d:g.toList=k.toList.map (·.val):=by
  apply abH;intro j;have N:=it.1;by_cases s:j<g.size;·have:=it.2 j g[j] (by simp[s]);simp only[Wv,P_];rw[this];simp[s]
  ·rw[Va (by simp;omega),Va (by simp;omega)]
 rw[d];refine h i m n ?_;obtain⟨H,E,_⟩:=p;exact u▸Nat.succ_le_of_lt (z_ (n _ _ E))
theorem Aj(a:f.TypeIs (.ref e) "dict")(b:(e==WL)=D)(h:Ç (.ref f.heap.objs.size) {f with heap:=f.heap.push {cls:=.type "dict_values",data:=.fields #[.ref e]}}):v_ (E_ r q) I (call (.builtin "dict.values") [.ref e]) Ç τ f:=by refine VD ZJ a PySem.F.entry_dict_values ?_ (PySem.F.args_dict_values_1 _);refine e_ ?_;unfold Builtin.Dict.noArgs;refine e_ (wpAny_notOrdered_dict a ?_);show v_ _ _ (pure e) _ _ f;refine j_ ?_;show v_ _ _ (aaA e>>=_) _ _ f;unfold aaA;rw[if_neg (by rw[b];exact nofun)];exact e_ (j_ (e_ (Vl (j_ ⟨_,rfl,h⟩))))
structure M0(X:C)(o:r_)(m:Str)(apos cpos:Pos):Prop where
 base:Vd o m X.env (eval o X.env)=eval o X.env
 few:((UH cpos (k_ [] X.env)).all (λx=>!x.1)&&(Wd cpos (Vo [] X.env)).all (λx=>x.1.isSome)&&s_ (([]:List r_).length+([]:List Wl).length+(if([]:List Wl).isEmpty then 0 else 1)<30))=L
 line:(apos.endLine==cpos.line)=L
 trees:UH cpos (k_ [] X.env)=[]
def oZ(F:Ö):ō:=λ_ a=>match vX F (a.map (·.2))with|some (.ok d)=>Z d|_=>U
theorem KD.reps{K:d_}{H:Hp}:∀{b:Kv}{a:List (List ò×V)},KD K H b a->S K H (b.map (·.2)) (a.map (·.2))|_,_,.nil=>rfl|_,_,.cons r t=>⟨_,_,rfl,r,KD.reps t⟩
theorem Ip{a:List (List ò×V)}{b:List (List ò×O×B)}(r:KT g a b):Ï (a.map (·.2)) (b.map (·.2.2)):=by induction r with|nil=>exact .nil|cons h _ d=>exact .cons h.2.2 d
theorem Dx{j p2 kp y:Pos}(i:Nat)(ps:List Str)(F:Ö)(h:Has a.prog a.w a.K a.mg a.base p i ps F)(hr:Ü k a.A)(hk:i+2<=k)(h1:ps.length=1)(hg:Gl a "sorted")(hm:a.mg "sorted"=U)(q':Gl a p)(hx:PE a (.Name d m) (yd b))(e:M0 a (.Name d m) "values" u Ρ)(r':(p==("__debug__":Str))=D:=by lk)(he:UH y (k_ [.Call (.Attribute (.Name d m) "values" u) [] [] Ρ] a.env)=(D,eval (.Call (.Attribute (.Name d m) "values" u) [] [] Ρ) a.env)::UH y (k_ [] a.env):=by lk)(E:(UH y (k_ [.Call (.Attribute (.Name d m) "values" u) [] [] Ρ] a.env)).any (·.1)=D:=by lk)(b':UH y (k_ [] a.env)=[]:=by lk)(e':(Wd y (Vo [⟨Z "key",.Name p p2,kp⟩] a.env)).all (·.1.isSome)=L:=by lk)(p':(Wd y (Vo [⟨Z "key",.Name p p2,kp⟩] a.env)).any (·.1.isNone)=D:=by lk)(n':(Wd y (Vo [⟨Z "key",.Name p p2,kp⟩] a.env)).filterMap (·.1)=[b_ "key"]:=by lk):FV a b (.Call (.Name "sorted" j) [.Call (.Attribute (.Name d m) "values" u) [] [] Ρ] [⟨Z "key",.Name p p2,kp⟩] y) (oZ F):=⟨λf' s σ H Q I⟨f,ρ,kv,T,r,hd,q⟩=>by
 obtain⟨fa,fd,G,o',t',hb⟩:=h;refine V5 (jL I hg hm (Β:=.builtin "sorted") (by decide+kernel) ?_ (by decide) (by decide));refine callWith_kw ?_ he E e' p';rw[he,b'];refine Xa ?_;refine wpAny_Call_method e.base e.few e.line ZV ZJ PySem.F.type_dict_values (å (hx f' s σ H (λv H'=>v=.ref f/\H'=H) I ⟨.ref f,T.ia,rfl,rfl⟩) λg s1⟨v,H1,I1,rx,e1,e2⟩=>?_);subst e1 e2;obtain rfl:g=B_ f:=rx;obtain⟨i',g1,g2⟩:=T.dct;obtain⟨t1,t2,t3⟩:=Fu I1 (.inr ⟨i',.inl g1⟩);refine⟨t1,t2,?_⟩;rw[e.trees];refine Xb rfl (aaW (Aj t1 t3 (Yo ?_)));obtain⟨hz,_,xs,kt,o,es,ep,ho,hex,c',a',_⟩:=MS I1.hok g1;have I2:=I1.kept (t':=s1.toks) (h':=s1.heap.push {cls:=.type "dict_values",data:=.fields #[.ref f]}) λw g q=>l_ _ q;refine kws_cons (lf I2 q' o' (kws_nil ?_) r');rw[n'];show v_ _ _ (call (.builtin "sorted") [.ref s1.heap.objs.size] [(b_ "key",.ref fa)]) _ _ _;unfold oZ vX at hd;split at hd
 · rename_i d' A;cases hd;split at A
   · rename_i s' N;split at A
     · rename_i z;cases A;have m':es.size=xs.length:=by have:=congrArg YR a';simpa using this
       have l':es.toList.map (·.val)=xs.map (·.2.2):=by rw[a',VE];rfl
       have rr:=KD.reps g2;refine Da (μ:=es.toList.map (·.val)) G (hr.mono hk) hb h1 I2 (λQ' hQ=>sy (hr.hd) ⟨_,w_ _ rfl,rfl,rfl⟩ (l_ _ ho) c' ?_ ?_ hQ) (by rw[l'];exact Ip kt) rr N z.1 z.2.1 z.2.2 λn g' H' sm hL h'=>q _ _ sm ⟨n,g',rfl,hL,h'⟩;·rw[m'];have:=ZH kt;omega
       ·rw[U7]
     ·cases A
   ·cases A
 ·cases hd⟩
noncomputable def M1(j:Nat)(g:ō)(f:Ù):Ev->Kv->Option Fl:=λa b=>match g a b with|some d=>f (a.set j (Z d))|none=>U
theorem M3{g:ō}(j:Nat){y:Str}{i:Pos}(hN:a.N.Nodup)(E:a.N[j]?=Z y)(w:ł a.env.scope y)(he:FV a b h g)(A:ġ a À Φ)(z:Vb h (Z (.Name y i)) m.line a.env=pure D:=by lk)(N:a.fn y=L\/a.env.scope.names.lookup y=Z .local:=by first|exact .inl rfl|exact .inr rfl|assumption):FR a b (.Assign [.Name y i] h m::À) (M1 j g Φ):=⟨λf' s n H f I⟨e,p,u,H0,T,q,h0,o⟩=>by
 unfold M1 at o;split at o;·rename_i d hd;exact gM (oq hN E w he.h z N) A.h f' s n H f I ⟨e,p,u,T,d,hd,λv H' k r=>⟨_,(T.env.mono k).set r,õ.mono (q.trans k) o⟩⟩
 ·exact o.elim⟩
theorem Al{e:U8}{g f:Ņ}{r:Ev->Kv->Option Fl}(q:Dr a b Ε g)(p:Dr a b e f)(j:FR a b À r)(o:ĥ a.N=L:=by lk)(k:a.N[b]?=Z d:=by lk)(h:jX a.env.scope d=L:=by lk)(n:a.fn d=L:=by lk)(i:Vb (.Dict [] [] u) (Z (.Name d m)) Ρ.line a.env=pure D:=by lk):ġ a (.Assign [.Name d m] (.Dict [] [] u) Ρ::Ε::e::À) (Ae b g f r):=Dt (je o) k (fH h) q p j i (.inl n)
theorem Iq{f:Ņ}(j:Xl (E_ a.prog a.w) a.A a.env a.xe)(o:FE a h z)(r:FDs a b À f)(e:Xe k b=D:=by lk)(q:a.calm=L:=by lk)(s:ĥ a.N=L:=by lk)(g:a.N[k]?=Z d:=by lk)(n:jX a.env.scope d=L:=by lk)(p:a.fn d=L:=by lk)(i:∀x,UF h a.env x=pure x:=by intro _;lk):Dr a b (.For (.Name d m) h À [] u) (Im k z f):=MZ k (Ys e) j q o (iD (je s) g (fH n) (.inl p)) r i
theorem Ir{g:ō}(p:a.A.units+64<cLine)(k:FE a w z)(i:FV a b h g)(o:a.N[b]?=Z d:=by lk)(f:jX a.env.scope d=L:=by lk)(n:(d==("__debug__":Str))=D:=by lk)(e:(d==("__classdict__":Str))=D:=by lk)(j:Vb h (Z (.Subscript (.Name d m) w Ρ)) u.line a.env=pure D:=by lk):Dr a b (.Assign [.Subscript (.Name d m) w Ρ] h u) (Il z g):=MY (by omega) (lu o f n e) k i j
theorem Iu(o:a.A.units+64<cLine)(j:FE a h z)(k:FE a w É)(n:a.N[b]?=Z d:=by lk)(i:jX a.env.scope d=L:=by lk)(f:(d==("__debug__":Str))=D:=by lk)(g:(d==("__classdict__":Str))=D:=by lk)(e:M2 a (.Name d m) "get" u h w Ρ:=by exact⟨by lk,by lk,by lk,by lk⟩):FV a b (.Call (.Attribute (.Name d m) "get" u) [h,w] [] Ρ) (Ik z É):=MX (by omega) (lu n i f g) j k e
theorem An{T:cq}{o:ō}(v:HA a.prog a.w a.K a.mg a.base T)(p:Ü k a.A)(f:(T.lookup d).map (λq=>q.2.2)=Z Ψ)(A:FV a b h o)(y:FE a w z)(e:((T.lookup d).all λq=>Zb q.1 k&&Xe q.2.1.length 2)=L:=by lk)(r:a.env.kindOf d=Z .globalImplicit:=by lk)(n:(d==("__debug__":Str))=D:=by lk)(s:k_ [h,w] a.env=(D,eval h a.env)::k_ [w] a.env:=by lk)(j:k_ [w] a.env=(D,eval w a.env)::k_ [] a.env:=by lk)(i:(UH m (k_ [w] a.env)).any (·.1)=D:=by lk):FV a b (.Call (.Name d u) [h,w] [] m) (oY Ψ o z):=by cases g:T.lookup d with|none=>rw[g]at f;cases f|some q=>rw[g]at f e;cases f;rw[V1,m_]at e;exact Ds q.1 q.2.1 q.2.2 (v.h d q g) p (U9 e.1) r A y (U_ e.2) n s j i
theorem Ao{T:cq}{e:HW}{h f o r:Pos}(hT:HA a.prog a.w a.K a.mg a.base T)(hM:MA a.mg e)(N:Ü k a.A)(v:(T.lookup p).map (λq=>q.2.2)=Z Ψ)(s:((T.lookup p).all λq=>Zb (q.1+2) k&&Xe q.2.1.length 1)=L:=by lk)(hg:a.env.kindOf (b_ "sorted")=Z .globalImplicit:=by lk)(hm:e.lookup (b_ "sorted")=Z U:=by lk)(A:a.env.kindOf p=Z .globalImplicit:=by lk)(hN:a.N[b]?=Z d:=by lk)(I:jX a.env.scope d=L:=by lk)(hd:(d==("__debug__":Str))=D:=by lk)(H:(d==("__classdict__":Str))=D:=by lk)(g:M0 a (.Name d m) "values" Ρ h:=by exact⟨by lk,by lk,by lk,by lk⟩)(E:(p==("__debug__":Str))=D:=by lk)(he:UH u (k_ [.Call (.Attribute (.Name d m) "values" Ρ) [] [] h] a.env)=(D,eval (.Call (.Attribute (.Name d m) "values" Ρ) [] [] h) a.env)::UH u (k_ [] a.env):=by lk)(i:(UH u (k_ [.Call (.Attribute (.Name d m) "values" Ρ) [] [] h] a.env)).any (·.1)=D:=by lk)(j:UH u (k_ [] a.env)=[]:=by lk)(n:(Wd u (Vo [⟨Z "key",.Name p o,r⟩] a.env)).all (·.1.isSome)=L:=by lk)(z:(Wd u (Vo [⟨Z "key",.Name p o,r⟩] a.env)).any (·.1.isNone)=D:=by lk)(y:(Wd u (Vo [⟨Z "key",.Name p o,r⟩] a.env)).filterMap (·.1)=[b_ "key"]:=by lk):FV a b (.Call (.Name "sorted" f) [.Call (.Attribute (.Name d m) "values" Ρ) [] [] h] [⟨Z "key",.Name p o,r⟩] u) (oZ Ψ):=by cases w:T.lookup p with|none=>rw[w]at v;cases v|some q=>rw[w]at v s;cases v;rw[V1,m_]at s;exact Dx q.1 q.2.1 q.2.2 (hT.h p q w) N (U9 s.1) (U_ s.2) hg (hM.no hm) A (lu hN I hd H) g E he i j n z y
theorem Iv{g:ō}(o:FV a b h g)(i:ġ a À Φ)(p:ĥ a.N=L:=by lk)(j:a.N[k]?=Z d:=by lk)(e:jX a.env.scope d=L:=by lk)(n:a.fn d=L:=by lk)(f:Vb h (Z (.Name d u)) m.line a.env=pure D:=by lk):FR a b (.Assign [.Name d u] h m::À) (M1 k g Φ):=M3 k (je p) j (fH e) o i f (.inl n)
end FD
namespace TS
open FD
end TS
namespace FD
open L2 TS
def TBL(P:O)(q:Str)(H:Hp):Prop:=∃a t,H P=Z (.tbl a)/\a[0]?=Z (.str q t)
def spT(b:O)(q:Str)(K:d_)(F:Ö)(n:Nat):Sp:=λa H Q E=>TBL b q H/\ŋ K F n a H Q E
noncomputable def bmB(K:d_):Bool:=match U0 K C_ "__builtins__"with|some (Z (.ref a))=>(match K.lookup a with|some ⟨.type "module",Z d,.plain,_⟩=>Xe d Zh&&!Xe a Zh&&!Xe a C_|_=>D)|_=>D
open PySem.W
theorem Q6:j9 (ķ a.prog a.w) a E0:=by intro k g H s m i I⟨e,f,n,j,os,b,un,d,F,h⟩;exact h.elim
structure CK(K:d_)(k:Nat)(C:O):Prop where
 n:U0 K C_ (Ŝ k)=Z (Z (.ref C))c:ŧ K C
 a:∀f∈ď k,Đ K C f
theorem pU{o:Type}:∀{a:List Str}{d:List o}{j:Nat}{f:Str}{v:o},a.Nodup->a[j]?=Z f->d[j]?=Z v->(a.zip d).lookup f=Z v
 |[],_,_,_,_,_,h,_=>by simp at h|n::a,[],j,f,v,_,_,h=>by simp at h|n::a,u::d,0,f,v,k,i,g=>by simp at i g;subst i g;simp[X2,UP]|n::a,u::d,j+1,f,v,k,i,g=>by
  have b:a[j]?=Z f:=by simpa using i
  have m:(f==n)=D:=beq_eq_false_iff_ne.mpr λe=>by subst e;exact(Vw.mp k).1 (UG b)
  rw[X2,UP,m];exact pU (Vw.mp k).2 b (by simpa using g)
theorem kz{g:Type}:∀{a:List Str}{d:List g}{f:Str},f∉a->(a.zip d).lookup f=U|[],_,_,_=>by simp|n::a,[],_,_=>by simp|n::a,u::d,f,h=>by have b:(f==n)=D:=beq_eq_false_iff_ne.mpr λe=>h (e▸pi);rw[X2,UP,b];exact kz λz=>h (rl _ z)
theorem Ap:∀k,(ď k).Nodup:=by intro k;unfold ď;split<;>decide
noncomputable def jG(k j:Nat):Q->Option (Rs Q)|.obj a b=>if a=k then(match b[j]? with|some d=>Z (.ok d)|none=>U)else U|_=>U
theorem uD(c:CK s b e)(h:U0 s C_ (Ŝ b)=Z (Z (.ref A))):A=e:=by have:=c.n.symm.trans h;simp at this;exact this.symm
theorem M4(c:CK a.K b e)(y:(ď b)[k]?=Z d)(N:FE a h z)(hb:Vd h d a.env (eval h a.env)=eval h a.env:=by lk):FE a (.Attribute h d m) (f1 (jG b k) z):=ef (ED N.h hb) λσ H Q I E h=>⟨I,E,ì.bind h λf v p e1 r s=>by cases f with
 |obj n A=>
 have j:ì a p (if n=b then(match A[k]? with|some f=>Z (.ok f)|none=>U)else U) Q:=s;by_cases w:n=b;·subst w;rw[if_pos rfl]at j;obtain⟨i,C',dx,vs,rfl,g,hn,q,l⟩:=r.objE;cases o:A[k]? with|none=>rw[o]at j;exact j.elim|some f=>rw[o]at j;obtain⟨u,h1,h2⟩:=q.get' o;rw[uD c hn]at g;exact⟨i,e,dx,_,u,rfl,g,c.c,c.a d (UG y),pU (Ap n) y h1,j u p (.refl p) h2⟩
 ·rw[if_neg w]at j;exact j.elim|_=>exact s.elim⟩
def MC(X:C)(o:r_)(m:Str)(e:List r_)(b a:Pos)(g:Sem Bool):Prop:=eval (.Call (.Attribute o m b) e [] a) X.env=(do
 let d<-eval o X.env
 aaS b.atName let(f,first)<-XA [d] (aaT d m g)callWith a f first (UH a (k_ e X.env)) (Wd a (Vo [] X.env)))
noncomputable def Ź(k:Nat):Q->Bool|.obj a _=>a==k|_=>D
def cz(k:Nat)(F:Ö)(n:Nat)(d:Ò)(g:á):Ò:=λa=>Ø (d a) λx=>if Ź k x=L then Ø (g a) λb=>(if b.length=n then F (x::b)else U)else U
structure Kk(P:n_)(w:xy)(K:d_)(mg:Str->Option B)(base:N_)(k:Nat)(C:O)(m:Str)(lv n:Nat)(F:Ö):Prop where
 c:CK K k C
 h:m∉ď k
 f:∃f fd ps,Kc K C m f/\í P w K mg base (ķ P w) lv f fd ps (spE K F (n+1))/\ð K fd ps []
theorem M5(h:Ź b j=L):∃a,j=.obj b a:=by cases j<;>simp[Ź]at h;subst h;exact⟨_,rfl⟩
theorem Fw(h:Kk a.prog a.w a.K a.mg a.base b e d υ k Ψ)(o:Ź b j=L)(r:Ô a.K g j ψ):∃f i fs,ψ=.ref f/\g f=Z (.ins e i fs)/\fs.lookup d=U:=by obtain⟨s,rfl⟩:=M5 o;obtain⟨f,u,i,p,rfl,m,n,q,l⟩:=r.objE;rw[uD h.c n]at m;exact⟨f,i,_,rfl,m,kz h.h⟩
theorem Dy{y:Sem Bool}(i:Kk a.prog a.w a.K a.mg a.base b e d k 0 Ψ)(hr:Ü υ a.A)(hk:k<=υ)(w:a.ex=[])(ho:FE a h z)(N:MC a h d [] u m y):FE a (.Call (.Attribute h d u) [] [] m) (cz b Ψ 0 z bQ):=by
 obtain⟨f,fd,ps,hm,G,hb⟩:=i.f;refine ef (pE (n:=y) ho.h i.c.c hm (G.mono hk) hr hb .nil (wY w) N) λσ H Q I E h=>⟨I,E,ì.bind h λg v s A r o=>?_⟩;by_cases p:Ź b g=L
 ·rw[if_pos p]at o;obtain⟨j,dx,fs,rfl,hh,hl⟩:=Fw i p r;have n:ì a s (Ψ [g]) Q:=o;refine⟨j,dx,fs,rfl,hh,hl,?_⟩;show spE a.K Ψ 1 [.ref j] s Q (EX a);refine⟨[g],.cons r .nil,rfl,?_⟩;match q:Ψ [g]with|none=>rw[q]at n;exact n.elim|some (.ok g)=>rw[q]at n;exact n|some (.exc c)=>rw[q]at n;exactλe s hC A=>⟨c,e,rfl,hC,XW.mono n A⟩
 ·rw[if_neg p]at o;exact o.elim
inductive FlC where|nx(ρ:Ev)|rt(d o:Q)|exc(c:Nat)
abbrev FnC:=Ev->Option FlC
noncomputable def nox(r:Option FlC):Option FlC:=match r with|some (.exc _)=>U|r=>r
theorem v7{y:V}:∀{a:List Str}{vs:List V}{j:Nat}{f:Str},a.Nodup->a[j]?=Z f->j<=vs.length->vs.length<=a.length->ou f y (a.zip vs)=a.zip (if j<vs.length then vs.set j y else vs++[y])
 |[],_,_,_,_,h,_,_=>by simp at h|n::a,[],j,f,_,h,d,_=>by
  have:j=0:=by simpa using d
  subst this;simp at h;subst h;simp[ou]|n::a,u::vs,0,f,_,h,_,_=>by simp at h;subst h;simp[ou]|n::a,u::vs,j+1,f,i,h,d,o=>by
  have k:a[j]?=Z f:=by simpa using h
  have g:n≠f:=λe=>(Vw.mp i).1 (e▸UG k);have m:=v7 (y:=y) (vs:=vs) (Vw.mp i).2 k (by simpa using d) (by simpa using o);rw[X2];show(if n=f then(n,y)::a.zip vs else(n,u)::ou f y (a.zip vs))=_;rw[if_neg g,m];by_cases b:j<vs.length;·rw[if_pos b,if_pos (by simpa using b)];simp
  ·rw[if_neg b,if_neg (by simpa using b)];simp
inductive RsC where|ok(d o:Q)|exc(c:Nat)
abbrev Pj(o:r_)(a:Env):Sem Bool:=do return(<-importBound o a).getD L
abbrev Iw:=List (Str×Nat×Nat×(Ö))
structure ŕ(P:n_)(w:xy)(K:d_)(mg:Str->Option B)(base:N_)(k:Nat)(C:O)(T:Iw):Prop where h:∀m e,T.lookup m=Z e->Kk P w K mg base k C m e.1 e.2.1 e.2.2
theorem Ix:ŕ r q s Ι N b e []:=⟨λ_ _ h=>by cases h⟩
theorem v8{T:Iw}(h:Kk r q s Ι N b e d k υ Ψ)(t:ŕ r q s Ι N b e T):ŕ r q s Ι N b e ((d,k,υ,Ψ)::T):=⟨λx a z=>by
 rcases ij z with⟨rfl,rfl⟩|z;·exact h
 ·exact t.h x a z⟩
theorem Iy(c:CK a.K b e)(f:FE a h z)(g:(ď b)[k]?=Z d:=by lk)(i:Vd h d a.env (eval h a.env)=eval h a.env:=by lk):FE a (.Attribute h d m) (f1 (jG b k) z):=M4 c g f i
theorem Aq{T:Iw}(s:ŕ a.prog a.w a.K a.mg a.base b e T)(p:Ü k a.A)(i:(T.lookup d).map (λq=>q.2.2)=Z Ψ)(n:a.ex=[])(r:FE a h z)(g:((T.lookup d).all λq=>Zb q.1 k&&Xe 0 q.2.1)=L:=by lk)(o:MC a h d [] u m (Pj h a.env):=by delta MC;lk):FE a (.Call (.Attribute h d u) [] [] m) (cz b Ψ 0 z bQ):=by cases j:T.lookup d with|none=>rw[j]at i;cases i|some q=>rw[j]at i g;cases i;rw[V1,m_]at g;have f:=s.h d q j;rw[<-U_ g.2]at f;exact Dy f p (U9 g.1) n r o
def lO(k:Nat)(F:Ö)(b:Ò):Ò:=λa=>Ø (b a) λx=>if Ź k x=L then(match F [x]with|some (.ok d)=>Z (.ok d)|_=>U)else U
structure Am(K:d_)(C:O)(q m:Str)(st:U8)(f:O):Prop where
 t:Kc K C m f
 F:∃fd,ļ K m q st f fd
def BdQ(x q:Str)(b:U8)(f:List Str):Prop:=∀(kV d g:B)(i:Option O)(e h:B)(a:List B),a.length=f.length->abr (V8 x q (iG b) (bZ b) (av b) .none kV d g i e h) ⟨a,[]⟩=pure (f.zip a)
def noB(k:Nat)(m:Str):Bool:=!(ď k).contains m
theorem M6(h:noB b d=L):d∉ď b:=λz=>by simp[noB,z]at h
theorem Ar(c:CK s b e)(f i:List Str)(m:Ù)(a:Am s e p d Ε A)(n:BdQ d p Ε i)(y:∀(j:B)(a:D_)(h:List Env)(g:ge)(H:Hp)(E:XK),Ü k (a.deeper (Xc p (av Ε) g.heap.objs.size A j))->ġ (pF (ķ r q) r q s Ι N f p (av Ε) A j a h g H E) (bZ Ε) m)(z:Ψ=gJ f.length m:=by lk)(u:L' f i (av Ε)=L:=by lk)(v:υ+1=i.length:=by lk)(w:noB b d=L:=by lk):Kk r q s Ι N b e d (k+1) υ Ψ:=let⟨_,o⟩:=a.F;⟨c,M6 w,_,_,i,a.t,Fa f i m z v o (Ic u) y,o.binds n⟩
noncomputable def SE:Option (Option B)->Bool|some U=>L|_=>D
theorem ck_mk(n:U0 s C_ (Ŝ b)=Z (Z (.ref e)))(i:XD s e abP=L)(k:Yh s e=L)(g:Zw s e=L)(d:Vt s (.ref e) "__setattr__"=Z (Z (.builtin "object.__setattr__")))(a:((ď b).all λf=>SE (Vt s (.ref e) f))=L):CK s b e:=⟨n,⟨i,k,g,d⟩,λf j=>by
 have h:=UY.mp a f j;unfold SE at h;split at h;·assumption
 ·cases h⟩
abbrev Uv:=Sum Q Nat
inductive ø where|lst(ds:List Q)|obj(k:Nat)(fs:List Uv)
abbrev Ý:=List ø
abbrev ñ:=List (Option Uv)
def Ć(K:d_)(H:Hp)(m:List O):Uv->V->Prop|.inl d,v=>Ô K H d v|.inr n,v=>∃a,m[n]?=Z a/\v=.ref a
def ä(K:d_)(H:Hp)(m:List O):List Uv->List V->Prop|[],a=>a=[]|d::e,a=>∃v b,a=v::b/\Ć K H m d v/\ä K H m e b
def Ĺ(K:d_)(H:Hp)(m:List O)(e:Hp)(a:O):ø->Prop|.lst g=>∃b,e a=Z (.lst b)/\S K H g b|.obj k fs=>∃C f d,e a=Z (.ins C f ((ď k).zip d))/\U0 K C_ (Ŝ k)=Z (Z (.ref C))/\ä K H m fs d/\fs.length<=(ď k).length
structure SR(K:d_)(H:Hp)(m:List O)(S:Ý)(Hf:Hp):Prop where
 len:m.length=S.length
 nd:m.Nodup
 fr:∀a∈m,H a=U
 up:Ñ H Hf
 at':∀(n:Nat)(c:ø),S[n]?=Z c->∃a,m[n]?=Z a/\Ĺ K H m Hf a c
structure ú(K:d_)(H:Hp)(m:List O)(σ:L2.St)(ρ:ñ):Prop where
 len:σ.length=ρ.length
 at':∀(i:Nat)(d:Uv),ρ[i]?=Z (Z d)->∃v,σ[i]?=Z (Z v)/\Ć K H m d v
theorem pV{m b:List δ}(p:m<+:b){n:Nat}{a:δ}(h:m[n]?=Z a):b[n]?=Z a:=by obtain⟨t,rfl⟩:=p;rw[M_ (H_.mp h).1];exact h
theorem Ć.mono{b:List O}(e:Ñ g Α)(p:ο<+:b):∀{d:Uv}{v:V},Ć s g ο d v->Ć s Α b d v|.inl d,v,h=>Ô.mono e d v h|.inr n,v,⟨a,h,r⟩=>⟨a,pV p h,r⟩
theorem ä.mono{K:d_}{H g:Hp}{m f:List O}(e:Ñ H g)(p:m<+:f):∀{b:List Uv}{a:List V},ä K H m b a->ä K g f b a|[],a,h=>h|d::b,a,⟨v,i,r,h,q⟩=>⟨v,i,r,h.mono e p,ä.mono e p q⟩
theorem ä.length{K:d_}{H:Hp}{m:List O}:∀{b:List Uv}{a:List V},ä K H m b a->a.length=b.length|[],a,h=>by cases(show a=[]from h);rfl|d::b,a,⟨v,e,r,_,q⟩=>by subst r;show e.length+1=b.length+1;rw[ä.length q]
theorem ä.get{K:d_}{H:Hp}{m:List O}:∀{b:List Uv}{a:List V}{i:Nat}{d:Uv},ä K H m b a->b[i]?=Z d->∃v,a[i]?=Z v/\Ć K H m d v|[],a,i,v,h,e=>by simp at e|d::b,a,i,p,⟨f,o,r,j,q⟩,e=>by subst r;cases i with|zero=>simp at e;subst e;exact⟨f,rfl,j⟩|succ i=>obtain⟨n,k,g⟩:=ä.get (i:=i) q (by simpa using e);exact⟨n,by simpa using k,g⟩
theorem ä.set{K:d_}{H:Hp}{m:List O}:∀{b:List Uv}{a:List V}(i:Nat){d:Uv}{v:V},ä K H m b a->Ć K H m d v->ä K H m (b.set i d) (a.set i v)|[],a,i,d,v,h,_=>by cases(show a=[]from h);exact rfl|k::b,a,i,d,v,⟨g,e,r,j,q⟩,f=>by subst r;cases i with|zero=>exact⟨v,e,rfl,f,q⟩|succ i=>exact⟨g,e.set i v,rfl,j,ä.set i q f⟩
theorem ä.append{K:d_}{H:Hp}{m:List O}:∀{f e:List Uv}{a b:List V},ä K H m f a->ä K H m e b->ä K H m (f++e) (a++b)|[],e,a,b,h,q=>by cases(show a=[]from h);exact q|d::f,e,a,b,⟨i,g,r,j,t⟩,q=>by subst r;exact⟨i,g++b,rfl,j,ä.append t q⟩
variable{Γ:ñ}
theorem ú.mono{a:List O}(E:ú s g ο Λ Γ)(e:Ñ g Α)(p:ο<+:a):ú s Α a Λ Γ:=⟨E.len,λi d h=>let⟨v,f,b⟩:=E.at' i d h;⟨v,f,b.mono e p⟩⟩
theorem ú.set{d:Uv}(E:ú s g ο Λ Γ)(r:Ć s g ο d ψ):ú s g ο (Λ.set b (Z ψ)) (Γ.set b (Z d)):=by
 refine⟨by rw[UM,UM];exact E.len,λj f h=>?_⟩;by_cases e:b=j
 · subst e;have a:b<Γ.length:=by have:=(H_.mp h).1;simpa using this
   rw[A_ a]at h;cases h;exact⟨ψ,A_ (by rw[E.len];exact a),r⟩
 ·rw[p_ e]at h⊢;exact E.at' j f h
noncomputable def vw1(S:Ý):Uv->Option Q|.inl d=>Z d|.inr n=>match S[n]? with|some (.lst a)=>Z (.lst a)|_=>U
def vwL(S:Ý):List Uv->Option (List Q)|[]=>Z []|u::a=>match vw1 S u,vwL S a with|some d,Z b=>Z (d::b)|_,_=>U
def vw(S:Ý):Uv->Option Q|.inl d=>Z d|.inr n=>match S[n]? with|some (.lst a)=>Z (.lst a)|some (.obj k fs)=>(vwL S fs).map (.obj k)|none=>U
def ö(S:Ý)(a:ñ):Ev:=a.map λo=>o.bind (vw S)
variable{o:Ý}
theorem SR.lst(R:SR s g ο o Α)(h:o[b]?=Z (.lst H))(i:ο[b]?=Z e):Ô s Α (.lst H) (.ref e):=by obtain⟨a,d,f,k,j⟩:=R.at' b _ h;rw[i]at d;cases d;exact⟨e,f,rfl,k,S.mono R.up _ _ j⟩
theorem SR.vw1(R:SR s g ο o Α):∀{u:Uv}{v:V}{d:Q},Ć s g ο u v->vw1 o u=Z d->Ô s Α d v|.inl d,v,j,h,e=>by cases e;exact Ô.mono R.up _ _ h|.inr n,v,j,⟨a,i,f⟩,e=>by subst f;unfold FD.vw1 at e;match b:o[n]? with|none=>simp[b]at e|some (.obj k fs)=>simp[b]at e|some (.lst m)=>simp[b]at e;subst e;exact R.lst b i
theorem SR.vwL{K:d_}{H k:Hp}{m:List O}{a:Ý}(R:SR K H m a k):∀{f:List Uv}{b:List V}{i:List Q},ä K H m f b->vwL a f=Z i->S K k i b|[],b,i,h,e=>by cases e;exact h|u::f,b,i,⟨v,o,r,h,q⟩,e=>by subst r;unfold FD.vwL at e;match g:FD.vw1 a u,j:FD.vwL a f with|some d,Z n=>rw[g,j]at e;cases e;exact .cons (R.vw1 h g) (SR.vwL R q j)|none,_=>rw[g]at e;cases e|some _,U=>rw[g,j]at e;cases e
theorem As{S:Ý}:∀{a:List Uv}{b:List Q},vwL S a=Z b->b.length=a.length|[],b,e=>by cases e;rfl|u::a,b,e=>by unfold FD.vwL at e;match g:FD.vw1 S u,f:FD.vwL S a with|some d,Z h=>rw[g,f]at e;cases e;simp[As f]|none,_=>rw[g]at e;cases e|some _,U=>rw[g,f]at e;cases e
theorem SR.vw(R:SR s g ο o Α):∀{u:Uv}{v:V}{d:Q},Ć s g ο u v->vw o u=Z d->Ô s Α d v|.inl d,v,H,h,e=>by cases e;exact Ô.mono R.up _ _ h|.inr n,v,H,⟨a,m,q⟩,e=>by subst q;unfold FD.vw at e;match f:o[n]? with|none=>simp[f]at e|some (.lst E)=>simp[f]at e;subst e;exact R.lst f m|some (.obj k fs)=>dsimp only at e;rw[f]at e;dsimp only at e;obtain⟨b,j,C,A,p,z,y,w,r⟩:=R.at' n _ f;rw[m]at j;cases j;match i:FD.vwL o fs with|none=>simp[i]at e|some E=>simp[i]at e;subst e;exact⟨a,C,A,p,rfl,z,y,R.vwL w i,by rw[As i];exact r⟩
theorem SR.envs(R:SR s g ο o Α)(E:ú s g ο Λ Γ):Û s Α Λ (ö o Γ):=by refine⟨by unfold ö;rw[S_];exact E.len,λi d h=>?_⟩;unfold ö at h;rw[P_]at h;match a:Γ[i]? with|none=>simp[a]at h|some U=>simp[a]at h|some (Z u)=>simp[a]at h;obtain⟨v,e,b⟩:=E.at' i u a;exact⟨v,e,R.vw b h⟩
noncomputable def pl:Q->Bool|.scr _=>L|d=>ğ d
theorem SR.cell(R:SR s g ο o Α){a:O}(h:a∈ο):(∃d,Α a=Z (.lst d))\/∃C f fs,Α a=Z (.ins C f fs):=by
 obtain⟨n,i⟩:=List.getElem?_of_mem h;have m:n<o.length:=by rw[<-R.len];exact(H_.mp i).1
 obtain⟨b,j,q⟩:=R.at' n _ (I_ m);rw[i]at j;cases j;match r:o[n],q with|.lst u,q=>obtain⟨d,e,_⟩:=q;exact .inl ⟨d,e⟩|.obj k fs,q=>obtain⟨C,f,p,e,_⟩:=q;exact .inr ⟨C,f,_,e⟩
theorem SR.grow{i:Hp}(R:SR s g ο o Α)(e:Ñ Α i):∃E,Ñ g E/\SR s E ο o i/\∀d v,pl d=L->Ô s i d v->Ô s E d v:=by
 have H:∀b u,g b=Z u->b∉ο:=λb u h z=>by rw[R.fr b z]at h;cases h
 have y:Ñ g λb=>if b∈ο then U else i b:=λb u h=>by simp only[H b u h,if_false];exact e b u (R.up b u h)
 have keep:∀b f,(∀j,f≠.lst j)->(∀C w fs,f≠.ins C w fs)->i b=Z f->(λb=>if b∈ο then U else i b) b=Z f:=λb f p m h=>by
  have:b∉ο:=λz=>by
   rcases R.cell z with⟨j,q⟩|⟨C,w,fs,q⟩;·exact p j (UL (h.symm.trans (e _ _ q)))
   ·exact m C w fs (UL (h.symm.trans (e _ _ q)))
  simp only[this,if_false];exact h
 refine⟨λb=>if b∈ο then U else i b,y,⟨R.len,R.nd,λa h=>by simp[h],λb u h=>?_,λn c h=>?_⟩,λd v hp r=>?_⟩
 · by_cases N:b∈ο;·simp[N]at h
   ·simpa[N]using h
 ·obtain⟨a,ha,q⟩:=R.at' n c h;refine⟨a,ha,?_⟩;match c,q with|.lst ds,⟨j,p,m⟩=>exact⟨j,e _ _ p,S.mono y _ _ m⟩|.obj k fs,⟨C,w,vs,p,m,h3,h4⟩=>exact⟨C,w,vs,e _ _ p,m,h3.mono y (T_ ο),h4⟩
 · by_cases I:∃A,d=.scr A;·obtain⟨A,rfl⟩:=I;obtain⟨a,rv,q⟩:∃a,v=.ref a/\K' s i a (A.map V.int):=r;exact⟨a,rv,q.imp (λ⟨f,h⟩=>⟨f,keep a _ (by simp) (by simp) h⟩) id⟩
   · have hi:ğ d=L:=by cases d<;>first|exact hp|exact absurd ⟨_,rfl⟩ I
     exact Ô.tups (λb ys h=>keep b _ (by simp) (by simp) h) d v hi r
inductive Ru(α:Type)where|ok(a:α)(S:Ý)|exc(c:Nat)(S:Ý)
abbrev î:=Ý->ñ->Option (Ru Uv)
abbrev sE:=Ý->ñ->Option (Ru Bool)
abbrev mW:=Ý->ñ->Option (Ru (List Uv))
def XU(X:C)(c:Nat)(H:Hp)(m:List O)(S:Ý):Prop:=∀g f d b a s e,Ñ H d->m<+:b->SR X.K d b S a->Í X g f a s->K9 X a c e s->X.xe e s
def OU(X:C)(H:Hp)(m:List O)(r:Option (Ru δ))(Q:δ->Hp->List O->Hp->Prop):Prop:=match r with|none=>False|some (.exc c S)=>XU X c H m S|some (.ok a S)=>∀d b e,Ñ H d->m<+:b->SR X.K d b S e->Q a d b e
def jH{b:Type}(o:Option (Ru δ))(k:δ->Ý->Option (Ru b)):Option (Ru b):=match o with|none=>U|some (.exc c S)=>Z (.exc c S)|some (.ok a S)=>k a S
def tU(X:C)(f:î):TE:=λd g Q=>∃H m S b,SR X.K H m S g/\ú X.K H m d b/\OU X H m (f S b) λu h e a=>∀v,Ć X.K h e u v->Q v a
def tUB(X:C)(f:sE):TT:=λe g Q=>∃H m S d,SR X.K H m S g/\ú X.K H m e d/\OU X H m (f S d) λb _ _ a=>Q b a
def tUA(X:C)(f:mW):TA:=λe i Q=>∃H m S b,SR X.K H m S i/\ú X.K H m e b/\OU X H m (f S b) λg j h a=>∀d,ä X.K j h g d->Q d a
structure UE(X:C)(e:r_)(f:î):Prop where h:PE X e (tU X f)
structure UT(X:C)(e:r_)(f:sE):Prop where h:PT X e (tUB X f)
structure UW(X:C)(e:r_)(f:sE):Prop where h:PW X e (tUB X f)
structure UA(X:C)(es:List r_)(f:mW):Prop where h:PA X es (tUA X f)
theorem XU.mono{d:List O}(h:XU a b g ο o)(e:Ñ g Α)(p:ο<+:d):XU a b Α d o:=λk f q j n s x m i=>h k f q j n s x (e.trans m) (p.trans i)
theorem OU.mono{d:List O}{r:Option (Ru δ)}{Q:δ->Hp->List O->Hp->Prop}(h:OU a g ο r Q)(e:Ñ g Α)(p:ο<+:d):OU a Α d r Q:=by match r,h with|none,h=>exact h|some (.exc c S),h=>exact XU.mono h e p|some (.ok b S),h=>exactλm i k j f=>h m i k (e.trans j) (p.trans f)
theorem OU.bind{i:Type}{o:Option (Ru δ)}{k:δ->Ý->Option (Ru i)}{Q:i->Hp->List O->Hp->Prop}{P:δ->Hp->List O->Hp->Prop}(h:OU a g ο (jH o k) Q)(p:∀b S f d e,Ñ g f->ο<+:d->SR a.K f d S e->OU a f d (k b S) Q->P b f d e):OU a g ο o P:=by match o,h with|none,h=>exact h|some (.exc c S),h=>exact h|some (.ok b S),h=>exactλq n e m j R=>p b S q n e m j R (OU.mono h m j)
theorem XU.xw(h:XU a b g ο o)(R:SR a.K g ο o Α):XW a b Α:=λf d m s e j I q=>by obtain⟨n,i,k,_⟩:=R.grow j;exact h f d n ο m s e i (T_ ο) k I q
def aC(f:Ò):î:=λS a=>match f (ö S a)with|none=>U|some (.exc c)=>Z (.exc c S)|some (.ok d)=>if pl d=L then Z (.ok (.inl d) S)else U
def ei(f:è):sE:=λS a=>match f (ö S a)with|none=>U|some (.exc c)=>Z (.exc c S)|some (.ok d)=>Z (.ok d S)
theorem Iz(i:FE a h z):UE a h (aC z):=⟨λj s g w Q I⟨H,m,S,f,R,E,o⟩=>by refine i.h j s g w Q I ⟨ö S f,R.envs E,?_⟩;unfold aC at o;match e:z (ö S f)with
 |none=>rw[e]at o;exact o.elim|some (.exc c)=>rw[e]at o;exact XU.xw o R|some (.ok d)=>
 rw[e]at o;dsimp only at o;by_cases b:pl d=L;·rw[if_pos b]at o;intro v u n r;obtain⟨y,k,q,p⟩:=R.grow n;exact o y m u k (T_ m) q v (p d v b r)
 ·rw[if_neg b]at o;exact o.elim⟩
theorem IA(g:FT a h Ξ):UT a h (ei Ξ):=⟨λi s f q Q I⟨H,m,S,e,R,E,o⟩=>by refine g.h i s f q Q I ⟨ö S e,R.envs E,?_⟩;unfold ei at o;match b:Ξ (ö S e)with|none=>rw[b]at o;exact o.elim|some (.exc c)=>rw[b]at o;exact XU.xw o R|some (.ok d)=>rw[b]at o;intro p k;obtain⟨r,j,n,_⟩:=R.grow k;exact o r m p j (T_ m) n⟩
theorem UW.ut{p:sE}(b:UW a h p):UT a h p:=⟨b.h _⟩
noncomputable def cr(i:Nat):î:=λS a=>match a[i]? with|some (Z u)=>Z (.ok u S)|_=>U
theorem M7(i:Nat)(b:PE a h (yd i)):UE a h (cr i):=⟨λn s f e Q I⟨H,m,S,g,R,E,o⟩=>by refine b n s f e Q I ?_;unfold cr at o;match d:g[i]? with|none=>rw[d]at o;exact o.elim|some U=>rw[d]at o;exact o.elim|some (Z u)=>rw[d]at o;obtain⟨v,k,j⟩:=E.at' i u d;exact⟨v,k,o H m e (.refl H) (T_ m) R v j⟩⟩
noncomputable def Q7(k j:Nat)(S:Ý):Uv->Option (Ru Uv)
 |.inr n=>match S[n]? with|some (.obj a fs)=>if a=k then(match fs[j]? with|some u=>Z (.ok u S)|none=>U)else U|_=>U
 |_=>U
def BG(k j:Nat)(f:î):î:=λS a=>jH (f S a) λu b=>Q7 k j b u
variable{Κ:î}
theorem M8(c:CK a.K b e)(hf:(ď b)[k]?=Z d)(ho:UE a h Κ)(hb:Vd h d a.env (eval h a.env)=eval h a.env:=by lk):UE a (.Attribute h d m) (BG b k Κ):=⟨λf' s σ Hf Q I⟨H,f,S,ρ,R,E,o⟩=>ED ho.h hb f' s σ Hf Q I ⟨H,f,S,ρ,R,E,OU.bind o λu S1 H1 N A e1 p1 R1 p v r=>by match u,r,p with
 |.inl i,_,p=>exact p.elim|.inr n,⟨g,ha,hv⟩,p=>subst hv;unfold Q7 at p;match y:S1[n]? with
 |none=>simp[y]at p;exact p.elim|some (.lst ds)=>simp[y]at p;exact p.elim|some (.obj k' fs)=>
 simp only[y]at p;by_cases hk:k'=b
 ·subst hk;rw[if_pos rfl]at p;obtain⟨j,q,C',dx,vs,h1,h2,h3,h4⟩:=R1.at' n _ y;rw[ha]at q;cases q;rw[uD c h2]at h1;match z:fs[k]? with|none=>rw[z]at p;exact p.elim|some u=>rw[z]at p;obtain⟨w,g1,g2⟩:=h3.get z;exact⟨g,e,dx,_,w,rfl,h1,c.c,c.a d (UG hf),pU (Ap k') hf g1,p H1 N A (.refl H1) (T_ N) R1 w g2⟩
 ·rw[if_neg hk]at p;exact p.elim⟩⟩
noncomputable def el:mW:=λS _=>Z (.ok [] S)
noncomputable def aT(f:î)(g:mW):mW:=λS a=>jH (f S a) λu d=>jH (g d a) λb S2=>Z (.ok (u::b) S2)
theorem Na:UA a [] el:=⟨λe f s d b Q I⟨H,m,S,g,R,E,o⟩=>vn e f s d b Q I (o H m b (.refl H) (T_ m) R [] rfl)⟩
theorem IB{i:mW}(ha:UE a h Κ)(hr:UA a v i)(N:k_ (h::v) a.env=(D,eval h a.env)::k_ v a.env:=by lk):UA a (h::v) (aT Κ i):=⟨λp f' s k Hf Q I⟨H,m,S,e,R,E,o⟩=>lg ha.h hr.h N p f' s k Hf Q I ⟨H,m,S,e,R,E,OU.bind o λu S1 H1 A a' e1 w R1 z b r=>⟨H1,A,S1,e,R1,E.mono e1 w,OU.bind z λus S2 j g d e2 q R2 y f n=>y j g d (.refl j) (T_ g) R2 (b::f) ⟨b,f,rfl,r.mono e2 q,n⟩⟩⟩⟩
def gL(g:Q->Q->Option (Rs Q))(f:î)(h:Ò):î:=λS e=>jH (f S e) λu a=>match vw a u,h (ö a e)with|some d,Z (.ok i)=>(match g d i with|some (.ok (.bl b))=>Z (.ok (.inl (.bl b)) a)|_=>U)|some _,Z (.exc c)=>Z (.exc c a)|_,_=>U
theorem opP{r:R2}{b:Q->Q->Option (Rs Q)}(hg:Ĕ a r b)(R:SR a.K g ο o Α)(E:ú a.K g ο Λ Γ)(e:OU a g ο (gL b Κ z o Γ) λu H' m' y=>∀v,Ć a.K H' m' u v->È v y):KE r (tU a Κ) (tF a z) Λ Α È:=⟨g,ο,o,Γ,R,E,OU.bind e λu n H1 A a' e1 p1 j f v r=>by refine⟨ö n Γ,j.envs (E.mono e1 p1),?_⟩;match i:vw n u,m:z (ö n Γ)with|none,_=>simp[i]at f;exact f.elim|some d,U=>simp[i,m]at f;exact f.elim|some d,Z (.exc c)=>simp only[i,m]at f;exact XU.xw f j|some d,Z (.ok I)=>simp only[i,m]at f;intro v2 Hg H r2;refine hg d I v v2 Hg _ (Ô.mono H _ _ (j.vw r i)) r2 ?_;match h:b d I with|some (.ok (.bl k))=>rw[h]at f;intro w s q p;obtain⟨N,e2,R2,dn⟩:=j.grow (H.trans q);exact f N A s e2 (T_ A) R2 w (show Ô a.K N (.bl k) w from p)|none=>rw[h]at f;exact f.elim|some (.exc _)=>rw[h]at f;exact f.elim|some (.ok .non)=>rw[h]at f;exact f.elim|some (.ok (.int _))=>rw[h]at f;exact f.elim|some (.ok (.str _))=>rw[h]at f;exact f.elim|some (.ok (.tup _))=>rw[h]at f;exact f.elim|some (.ok (.lst _))=>rw[h]at f;exact f.elim|some (.ok (.scr _))=>rw[h]at f;exact f.elim|some (.ok (.exn _))=>rw[h]at f;exact f.elim|some (.ok (.obj _ _))=>rw[h]at f;exact f.elim⟩
theorem Au{e:M'}{r:R2}{g:Q->Q->Option (Rs Q)}(i:ù a (UN e) r)(k:Ĕ a r g)(p:UE a h Κ)(n:FE a w z)(j:Uw e w=D):UE a (.Compare h [e] [w] m) (gL g Κ z):=⟨λq s f u b I⟨H,d,S,v,R,E,o⟩=>yp i p.h n.h j q s f u b I (opP k R E o)⟩
def xn(g:Q->Q->Option (Rs Q))(f h:î):î:=λS a=>jH (f S a) λu j=>jH (h j a) λe S2=>match vw S2 u,vw S2 e with|some d,Z i=>(match g d i with|some (.ok (.bl b))=>Z (.ok (.inl (.bl b)) S2)|_=>U)|_,_=>U
theorem opU{b:î}{r:R2}{m:Q->Q->Option (Rs Q)}(hg:Ĕ a r m)(R:SR a.K g ο o Α)(E:ú a.K g ο Λ Γ)(e:OU a g ο (xn m Κ b o Γ) λu H' m' y=>∀v,Ć a.K H' m' u v->È v y):KE r (tU a Κ) (tU a b) Λ Α È:=⟨g,ο,o,Γ,R,E,OU.bind e λu S1 H1 m1 a' e1 p1 R1 o1 v r=>⟨H1,m1,S1,Γ,R1,E.mono e1 p1,OU.bind o1 λI S2 H2 z s e2 p2 R2 f v2 N=>by match i:vw S2 u,j:vw S2 I with|none,_=>simp[i]at f;exact f.elim|some d,U=>simp[i,j]at f;exact f.elim|some d,Z A=>simp only[i,j]at f;refine hg d A v v2 s _ (R2.vw (r.mono e2 p2) i) (R2.vw N j) ?_;match h:m d A with|some (.ok (.bl k))=>rw[h]at f;intro w q p n;obtain⟨H,e3,R3,dn⟩:=R2.grow p;exact f H z q e3 (T_ z) R3 w (show Ô a.K H (.bl k) w from n)|none=>rw[h]at f;exact f.elim|some (.exc _)=>rw[h]at f;exact f.elim|some (.ok .non)=>rw[h]at f;exact f.elim|some (.ok (.int _))=>rw[h]at f;exact f.elim|some (.ok (.str _))=>rw[h]at f;exact f.elim|some (.ok (.tup _))=>rw[h]at f;exact f.elim|some (.ok (.lst _))=>rw[h]at f;exact f.elim|some (.ok (.scr _))=>rw[h]at f;exact f.elim|some (.ok (.exn _))=>rw[h]at f;exact f.elim|some (.ok (.obj _ _))=>rw[h]at f;exact f.elim⟩⟩
noncomputable def SF(S:Ý):Uv->Option (Ru Bool)|.inl (.bl b)=>Z (.ok b S)|_=>U
def uB(f:î):sE:=λS a=>jH (f S a) λu b=>SF b u
theorem Av{u:Uv}{Q:Bool->Hp->List O->Hp->Prop}(r:Ć a.K g ο u ψ)(R:SR a.K g ο o Α)(e:OU a g ο (SF o u) Q):∃k,ψ=.bl k/\Q k g ο Α:=by match u,r,e with|.inr n,_,e=>exact e.elim|.inl d,r,e=>cases d with|bl b=>exact⟨b,r,e g ο Α (.refl g) (T_ ο) R⟩|_=>exact e.elim
theorem IC{e:M'}{r:R2}{g:Q->Q->Option (Rs Q)}(j:ù a (UN e) r)(n:Ĕ a r g)(q:UE a h Κ)(p:FE a w z)(k:Uw e w=D):UT a (.Compare h [e] [w] m) (uB (gL g Κ z)):=⟨λy s f N b I⟨H,d,S,ρ,R,E,o⟩=>ud j q.h p.h k y s f N b I (opP n R E (OU.bind o λu S1 H1 m1 a' e1 p1 A i v r=>Av r A i))⟩
theorem ID{g:î}{e:M'}{r:R2}{f:Q->Q->Option (Rs Q)}(k:ù a (UN e) r)(p:Ĕ a r f)(y:UE a h Κ)(q:UE a w g)(n:Uw e w=D):UT a (.Compare h [e] [w] m) (uB (xn f Κ g)):=⟨λz s i N b I⟨H,d,S,ρ,R,E,o⟩=>ud k y.h q.h n z s i N b I (opU p R E (OU.bind o λu S1 H1 m1 a' e1 p1 A j v r=>Av r A j))⟩
noncomputable def uOr(p q:sE):sE:=λS a=>jH (p S a) λb d=>if b=L then Z (.ok L d)else q d a
theorem Nb{p:sE}(b:UT a h p):UW a (.BoolOp .Or [h] m) p:=⟨Ey b.h⟩
theorem Nc{p q:sE}(z:UT a h p)(y:UW a (.BoolOp .Or (w::v) m) q):UW a (.BoolOp .Or (h::w::v) m) (uOr p q):=⟨λr A s n Hf Q I⟨H,b,S,i,R,E,o⟩=>KC z.h y.h r A s n Hf Q I ⟨H,b,S,i,R,E,OU.bind o λk S1 f e g N u j d=>by cases k with|true=>rw[if_pos rfl]at d⊢;exact d f e g (.refl f) (T_ e) j|false=>rw[if_neg (by simp)]at d⊢;exact⟨f,e,S1,i,j,E.mono N u,d⟩⟩⟩
theorem Dz(i:ο.Nodup)(h:ο[b]?=Z e)(j:ο[k]?=Z e):b=k:=by
 obtain⟨l,a⟩:=H_.mp h;obtain⟨f,g⟩:=H_.mp j;have d:=Wx.mp i;rcases Zz b k with z|z|z;·exact(d b k l f z (a.trans g.symm)).elim
 ·exact z
 ·exact(d k b f l z (g.trans a.symm)).elim
theorem Ĺ.ne{b:O}{o:HO}{c:ø}(h:Ĺ s g ο Α e c)(f:e≠b):Ĺ s g ο (ß Α b o) e c:=by match c,h with|.lst n,⟨i,d,a⟩=>exact⟨i,by rw[aA f];exact d,a⟩|.obj k fs,⟨C,m,j,d,a⟩=>exact⟨C,m,j,by rw[aA f];exact d,a⟩
theorem Ĺ.pre{a:List O}{c:ø}(h:Ĺ s g ο Α e c)(p:ο<+:a):Ĺ s g a Α e c:=by match c,h with|.lst n,h=>exact h|.obj k fs,⟨C,m,b,j,i,f,d⟩=>exact⟨C,m,b,j,i,f.mono (.refl g) p,d⟩
theorem SR.put{d:HO}{c:ø}(R:SR s g ο o Α)(f:ο[b]?=Z e)(p:Ĺ s g ο (ß Α e d) e c):SR s g ο (o.set b c) (ß Α e d):=by
 have m:e∈ο:=UG f;refine⟨by rw[UM];exact R.len,R.nd,R.fr,λa u h=>?_,λj r h=>?_⟩
 · have:a≠e:=λz=>by rw[z,R.fr e m]at h;cases h
   rw[aA this];exact R.up a u h
 · by_cases i:b=j
   · subst i;have n:b<o.length:=by rw[<-R.len];exact(H_.mp f).1
     rw[A_ n]at h;cases h;exact⟨e,f,p⟩
   ·rw[p_ i]at h;obtain⟨a,k,q⟩:=R.at' j r h;exact⟨a,k,q.ne λz=>i (Dz R.nd f (z▸k))⟩
theorem SR.fresh(R:SR s g ο o Α)(a:Α e=U):e∉ο/\g e=U:=by
 refine⟨λz=>?_,?_⟩;·rcases R.cell z with⟨b,q⟩|⟨C,d,fs,q⟩<;>·rw[a]at q;cases q
 ·cases h:g e with|none=>rfl|some u=>have:=R.up e u h;rw[a]at this;cases this
theorem SR.push{d:HO}{c:ø}(R:SR s g ο o Α)(m:Α e=U)(r:Ĺ s g (ο++[e]) (ß Α e d) e c):SR s g (ο++[e]) (o++[c]) (ß Α e d):=by
 obtain⟨f,k⟩:=R.fresh m;refine⟨by simp[R.len],?_,λa h=>?_,λb u h=>?_,λn w h=>?_⟩
 · rw[WG];refine⟨R.nd,by simp,λa h b v=>?_⟩;have:b=e:=by simpa using v
   subst this;exactλz=>f (z▸h)
 · rcases R_.mp h with h|h;·exact R.fr a h
   · have:a=e:=by simpa using h
     subst this;exact k
 · have:b≠e:=λz=>by rw[z,k]at h;cases h
   rw[aA this];exact R.up b u h
 · by_cases i:n<o.length;·rw[M_ i]at h;obtain⟨a,j,q⟩:=R.at' n w h;refine⟨a,by rw[M_ (by rw[R.len];exact i)];exact j,(q.ne (b:=e) λ(z:a=e)=>f (by rw[<-z];exact UG j)).pre (X3 ο [e])⟩
   · have p:n=o.length:=by have:=(H_.mp h).1;simp at this;omega
     subst p;rw[L_ (on _),XF]at h;cases h;exact⟨e,by rw[<-R.len,L_ (on _),XF];rfl,r⟩
noncomputable def ins:List Uv->Option (List Q)|[]=>Z []|.inl d::a=>(ins a).map (d::·)|.inr _::_=>U
theorem pW{K:d_}{H:Hp}{m:List O}:∀{b:List Uv}{a:List V}{f:List Q},ins b=Z f->ä K H m b a->S K H f a|[],a,f,h,r=>by cases h;exact r|.inr _::_,_,_,h,_=>by cases h|.inl d::b,a,f,h,⟨v,n,e,j,i⟩=>by subst e;unfold ins at h;cases g:ins b with|none=>rw[g]at h;cases h|some k=>rw[g]at h;cases h;exact .cons j (pW g i)
def DB(f:mW):î:=λS d=>jH (f S d) λe b=>match ins e with|some a=>if a.length<=100000 then Z (.ok (.inr b.length) (b++[.lst a]))else U|none=>U
theorem SR.newL(R:SR a.K g ο o Α)(f:S a.K g H ι)(i:Α e=U)(b:OU a g ο (Z (.ok (.inr o.length) (o++[.lst H]))) λu j h d=>∀v,Ć a.K j h u v->È v d):È (.ref e) (ß Α e (.lst ι)):=b g (ο++[e]) _ (.refl g) (X3 ο [e]) (R.push i ⟨ι,aw,f⟩) (.ref e) ⟨e,by rw[<-R.len,L_ (on _),XF];rfl,rfl⟩
theorem Nd{g:mW}(q:UA a v g):UE a (.List v m) (DB g):=⟨λu s h z Q I⟨H,b,S,i,R,E,o⟩=>yw q.h u s h z Q I ⟨H,b,S,i,R,E,OU.bind o λj S1 H1 m1 A e1 p1 y d N k=>by match f:ins j with
 |none=>simp[f]at d;exact d.elim|some w=>
 simp only[f]at d;by_cases e:w.length<=100000;·rw[if_pos e]at d;have r:=pW f k;exact⟨by rw[r.length];exact ce e,λp n=>y.newL r n d⟩
 ·rw[if_neg e]at d;exact d.elim⟩⟩
def sI(d:á):î:=λS b=>match d (ö S b)with|some (.ok [.lst a])=>if à a=L then Z (.ok (.inr S.length) (S++[.lst a]))else U|_=>U
theorem o5{f:_}{K:d_}{H:Hp}(j:∀d v,pl d=L->Ô K f d v->Ô K H d v):∀{a:List Q}{b:List V},à a=L->S K f a b->S K H a b
 |[],b,_,r=>r|d::a,b,i,r=>by
  obtain⟨v,k,e,n,m⟩:∃v g,b=v::g/\Ô K f d v/\S K f a g:=r;have h:ğ d=L/\à a=L:=by simpa[à]using i
  exact⟨v,k,e,j d v (by cases d<;>first|exact h.1|rfl) n,o5 j h.2 m⟩
theorem IE(z:Gl a "list")(w:a.mg "list"=U)(N:FA a (h::v) ν)(A:k_ (h::v) a.env=(D,eval h a.env)::k_ v a.env:=by lk)(i:(UH m (k_ v a.env)).any (·.1)=D:=by lk):UE a (.Call (.Name "list" u) (h::v) [] m) (sI ν):=⟨λf' s n Hf Q I⟨H,b,S,k,R,E,o⟩=>kc rD z w (by decide+kernel) N.h (by decide) (by decide) A i f' s n Hf Q I ⟨ö S k,R.envs E,by unfold sI at o;match f:ν (ö S k)with
 |none=>rw[f]at o;exact o.elim|some (.exc c)=>rw[f]at o;exact o.elim|some (.ok a')=>
 rw[f]at o;split at o
 · rename_i ds j;cases j;by_cases g:à ds=L;·rw[if_pos g]at o;intro vs Hg eg q;obtain⟨e,rfl,r⟩:=fG q;obtain⟨d,p,rfl,h1,h2⟩:=r.lstE;refine⟨d,p,rfl,.inl (ā.of h1),λl y=>?_⟩;obtain⟨H1,e2,R1,dn⟩:=R.grow eg;exact R1.newL (o5 dn g h2) y (o.mono e2 (T_ b))
   ·rw[if_neg g]at o;exact o.elim
 ·exact o.elim⟩⟩
def IF(f:î)(h:mW):î:=λS a=>jH (f S a) λu e=>match u with|.inr n=>(match e[n]? with|some (.lst _)=>jH (h e a) λg S2=>(match ins g,S2[n]? with|some [d],Z (.lst b)=>if b.length<100000 then Z (.ok (.inl .non) (S2.set n (.lst (b++[d]))))else U|_,_=>U)|_=>U)|_=>U
theorem Nf{gs:mW}(ho:UE a w Κ)(ha:UA a [h] gs)(N:Vd w "append" a.env (eval w a.env)=eval w a.env:=by lk)(b':((UH u (k_ [h] a.env)).all (λx=>!x.1)&&(Wd u (Vo [] a.env)).all (λx=>x.1.isSome)&&s_ ([h].length+([]:List Wl).length+(if([]:List Wl).isEmpty then 0 else 1)<30))=L:=by lk)(A:(m.endLine==u.line)=L:=by lk)(hs:k_ [h] a.env=(D,eval h a.env)::k_ [] a.env:=by lk)(y:(UH u (k_ [] a.env)).any (·.1)=D:=by lk):UE a (.Call (.Attribute w "append" m) [h] [] u) (IF Κ gs):=⟨λf' s σ Hf Q I⟨H,g,S,ρ,R,E,w⟩=>BY WV Xo ZI rF ho.h ha.h N b' A hs y f' s σ Hf Q I ⟨H,g,S,ρ,R,E,OU.bind w λf S1 H1 m1 h' e1 p1 R1 o v r=>by match f,r,o with|.inl d,_,o=>exact o.elim|.inr n,⟨i,ha,hv⟩,o=>subst hv;dsimp only at o;match q:S1[n]? with|none=>rw[q]at o;exact o.elim|some (.obj k fs)=>rw[q]at o;exact o.elim|some (.lst e')=>rw[q]at o;dsimp only at o;obtain⟨b,hb,c',q1,q2⟩:=R1.at' n _ q;rw[ha]at hb;cases hb;refine⟨.inl ⟨rfl,c',ā.of q1⟩,H1,m1,S1,ρ,R1,E.mono e1 p1,OU.bind o λus S2 H2 m2 g' e2 p2 R2 j vs rs=>?_⟩;match z:ins us,p:S2[n]? with
 |some [d],Z (.lst ds)=>
 rw[z,p]at j;dsimp only at j;by_cases hl:ds.length<100000
 · rw[if_pos hl]at j;obtain⟨b,hb,xs,q3,q4⟩:=R2.at' n _ p;have a':=pV p2 ha;rw[a']at hb;cases hb;obtain⟨e,rfl,d'⟩:=fG (pW z rs);have hz:xs.length<sizeLine:=by have:=q4.length;have h2:=ce (b:=xs.length+1) (by omega);omega
   exact⟨i,xs,e,rfl,rfl,q3,hz,j H2 m2 _ (.refl H2) (T_ m2) (R2.put a' ⟨_,aw,q4.append ⟨e,[],rfl,d',rfl⟩⟩) .non rfl⟩
 ·rw[if_neg hl]at j;exact j.elim|none,_=>simp[z]at j;exact j.elim|some [],_=>simp[z]at j;exact j.elim|some (_::_::_),_=>simp[z]at j;exact j.elim|some [d],U=>simp[z,p]at j;exact j.elim|some [d],Z (.obj _ _)=>simp[z,p]at j;exact j.elim⟩⟩
noncomputable def Ng(f:î):î:=λS e=>jH (f S e) λu b=>match u with|.inr n=>(match b[n]? with|some (.lst a)=>(match a[a.length-1]? with|some d=>Z (.ok (.inl d) (b.set n (.lst a.dropLast)))|none=>U)|_=>U)|_=>U
theorem Nh(ho:UE a h Κ)(p:Vd h "pop" a.env (eval h a.env)=eval h a.env:=by lk)(o:(m.endLine==u.line)=L:=by lk):UE a (.Call (.Attribute h "pop" m) [] [] u) (Ng Κ):=⟨λf' s σ Hf Q I⟨H,f,S,ρ,R,E,h⟩=>K4 WV abi PySem.F.type_list_pop K5 ho.h p o f' s σ Hf Q I ⟨H,f,S,ρ,R,E,OU.bind h λe S1 H1 N a' e1 p1 R1 i v r=>by match e,r,i with|.inl d,_,i=>exact i.elim|.inr n,⟨g,ha,hv⟩,i=>subst hv;dsimp only at i;match j:S1[n]? with|none=>rw[j]at i;exact i.elim|some (.obj k fs)=>rw[j]at i;exact i.elim|some (.lst ds)=>rw[j]at i;dsimp only at i;obtain⟨b,hb,z,A,q⟩:=R1.at' n _ j;rw[ha]at hb;cases hb;match w:ds[ds.length-1]? with|none=>rw[w]at i;exact i.elim|some d=>rw[w]at i;obtain⟨y,h1,h2⟩:=q.get' w;rw[<-q.length]at h1;refine⟨.inl ⟨rfl,z,ā.of A⟩,g,z,y,rfl,rfl,A,h1,?_⟩;refine i H1 N _ (.refl H1) (T_ N) (R1.put ha ⟨_,aw,?_⟩) y h2;rw[aaC,aaC,q.length];exact q.take _⟩⟩
inductive ő where|nx(ρ:ñ)(S:Ý)|rt(u:Uv)(S:Ý)|exc(c:Nat)(S:Ý)
abbrev cu:=Ý->ñ->Option ő
def OV(X:C)(H:Hp)(m:List O)(r:Option ő)(a:vi):Prop:=match r with|none=>False|some (.exc c S)=>XU X c H m S|some (.rt u S)=>∀v d b e,Ñ H d->m<+:b->SR X.K d b S e->Ć X.K d b u v->a.rt v e|some (.nx g S)=>∀f d b e,Ñ H d->m<+:b->SR X.K d b S e->ú X.K d b f g->a.nx f e
def tVU(X:C)(f:cu):TS:=λa d e=>∃H m S b,SR X.K H m S e/\ú X.K H m d b/\OV X H m (f S b) a
structure US(X:C)(st:U8)(f:cu):Prop where h:PS X st (tVU X f)
structure Ŏ(X:C)(st:List U8)(f:cu):Prop where h:Ľ X st (tVU X f)
def Fx(o:Option (Ru δ))(k:δ->Ý->Option ő):Option ő:=match o with|none=>U|some (.exc c S)=>Z (.exc c S)|some (.ok a S)=>k a S
noncomputable def sqV(o:Option ő)(k:Ý->ñ->Option ő):Option ő:=match o with|some (.nx a S)=>k S a|o=>o
theorem OV.mono{m:List O}{b:vi}{r:Option ő}(h:OV a g ο r b)(e:Ñ g Α)(p:ο<+:m):OV a Α m r b:=by match r,h with|none,h=>exact h|some (.exc c S),h=>exact XU.mono h e p|some (.rt u S),h=>exactλv k f j i d=>h v k f j (e.trans i) (p.trans d)|some (.nx n S),h=>exactλv k f j i d=>h v k f j (e.trans i) (p.trans d)
theorem OU.bindV{d:vi}{o:Option (Ru δ)}{k:δ->Ý->Option ő}{P:δ->Hp->List O->Hp->Prop}(h:OV a g ο (Fx o k) d)(p:∀b S i e f,Ñ g i->ο<+:e->SR a.K i e S f->OV a i e (k b S) d->P b i e f):OU a g ο o P:=by match o,h with|none,h=>exact h|some (.exc c S),h=>exact h|some (.ok b S),h=>exactλq n f m j R=>p b S q n f m j R (OV.mono h m j)
noncomputable def sJ:cu:=λS a=>Z (.nx a S)
def eV(f g:cu):cu:=λS a=>sqV (f S a) g
noncomputable def lP(i:Nat)(f:î):cu:=λS a=>Fx (f S a) λu b=>Z (.nx (a.set i (Z u)) b)
noncomputable def jI(f:î):cu:=λS a=>Fx (f S a) λ_ b=>Z (.nx a b)
noncomputable def jO(f:î):cu:=λS a=>Fx (f S a) λu b=>Z (.rt u b)
noncomputable def ĩ(p:sE)(f g:cu):cu:=λS a=>Fx (p S a) λb d=>if b=L then f d a else g d a
def Q8(f:Ù):cu:=λS a=>match f (ö S a)with|some (.exc c)=>Z (.exc c S)|_=>U
theorem IG:Ŏ a [] sJ:=⟨λf s d e b I⟨H,m,S,g,R,E,o⟩=>tY f s d e b I (o d H m e (.refl H) (T_ m) R E)⟩
variable{Â:cu}
theorem IH(b:US a Ε Â):Ŏ a [Ε] Â:=⟨pv b.h⟩
theorem DC{G:cu}(n:US a Ε Â)(k:Ŏ a À G):Ŏ a (Ε::À) (eV Â G):=⟨λp s h v b I⟨H,m,S,g,R,E,o⟩=>by refine gM n.h k.h p s h v b I ⟨H,m,S,g,R,E,?_⟩;unfold eV sqV at o;match d:Â S g with|none=>rw[d]at o;exact o.elim|some (.exc c e)=>rw[d]at o;exact o|some (.rt u e)=>rw[d]at o;exact o|some (.nx f e)=>rw[d]at o;exactλz w j A q i r y=>⟨w,j,e,f,r,y,OV.mono o q i⟩⟩
theorem Ni(i:Nat){x:Str}(hN:a.N.Nodup)(z:a.N[i]?=Z x)(w:ł a.env.scope x)(N:UE a h Κ)(y:Vb h (Z (.Name x u)) m.line a.env=pure D:=by lk)(A:a.fn x=L\/a.env.scope.names.lookup x=Z .local:=by first|exact .inl rfl|exact .inr rfl|assumption):US a (.Assign [.Name x u] h m) (lP i Κ):=⟨λf' s k Hf d I⟨H,b,S,n,R,E,o⟩=>oq hN z w N.h y A f' s k Hf d I ⟨H,b,S,n,R,E,OU.bindV o λe S1 j g f e1 p R1 q v r=>q _ j g f (.refl j) (T_ g) R1 ((E.mono e1 p).set r)⟩⟩
theorem II(q:UE a h Κ)(p:Vb h U m.line a.env=pure D:=by lk):US a (.Expr h m) (jI Κ):=⟨λw s i A d I⟨H,b,S,j,R,E,o⟩=>tZ q.h p w s i A d I ⟨H,b,S,j,R,E,OU.bindV o λu N g f e y k z n v r=>n _ g f e (.refl g) (T_ f) z (E.mono y k)⟩⟩
theorem Nj(n:UE a h Κ):US a (.Return (Z h) m) (jO Κ):=⟨λp s i w d I⟨H,b,S,j,R,E,o⟩=>yg n.h p s i w d I ⟨H,b,S,j,R,E,OU.bindV o λu A g f e z y q k v r=>k v g f e (.refl g) (T_ f) q r⟩⟩
theorem Q9{n:List U8}{p:sE}{G:cu}(w:UT a h p)(z:Ŏ a À Â)(y:Ŏ a n G):US a (.If h À n m) (ĩ p Â G):=⟨λA s v N d I⟨H,b,S,f,R,E,o⟩=>BN w.h z.h y.h A s v N d I ⟨H,b,S,f,R,E,OU.bindV o λk q u i a' j g r e=>by cases k with|true=>rw[if_pos rfl]at e⊢;exact⟨u,i,q,f,r,E.mono j g,e⟩|false=>rw[if_neg (by simp)]at e⊢;exact⟨u,i,q,f,r,E.mono j g,e⟩⟩⟩
theorem Nk(h:FS a Ε Φ):US a Ε (Q8 Φ):=⟨λi s g j b I⟨H,m,S,f,R,E,o⟩=>by refine h.h i s g j b I ⟨ö S f,R.envs E,?_⟩;unfold Q8 at o;match e:Φ (ö S f)with|none=>rw[e]at o;exact o.elim|some (.rt d)=>rw[e]at o;exact o.elim|some (.nx _)=>rw[e]at o;exact o.elim|some (.exc c)=>rw[e]at o;exact XU.xw o R⟩
def tP(k j:Nat)(w:Uv)(a:List Uv):Option (List Uv):=if j<a.length then Z (a.set j w)else if j=a.length/\a.length<(ď k).length then Z (a++[w])else U
def tQ(k j:Nat)(o f:î):cu:=λS a=>Fx (f S a) λw e=>Fx (o e a) λu S2=>match u with|.inr n=>(match S2[n]? with|some (.obj d fs)=>if d=k then(match tP k j w fs with|some b=>Z (.nx a (S2.set n (.obj k b)))|none=>U)else U|_=>U)|_=>U
theorem Nl{g:î}(c:CK a.K b e)(d':(ď b)[k]?=Z d)(ho:UE a w g)(he:UE a h Κ)(hs:Vb h (Z (.Attribute w d u)) m.line a.env=pure D:=by lk):US a (.Assign [.Attribute w d u] h m) (tQ b k g Κ):=⟨λf' s σ Hf p I⟨H,j,S,ρ,R,E,w⟩=>KS ho.h he.h hs f' s σ Hf p I ⟨H,j,S,ρ,R,E,OU.bindV w λf S1 H1 m1 l' e1 p1 R1 o1 y ry=>⟨H1,m1,S1,ρ,R1,E.mono e1 p1,OU.bindV o1 λi S2 H2 m2 i' e2 p2 R2 N v r=>by match i,r,N with
 |.inl q,_,N=>exact N.elim|.inr n,⟨o,ha,hv⟩,N=>subst hv;dsimp only at N;match b':S2[n]? with
 |none=>rw[b']at N;exact N.elim|some (.lst ds)=>rw[b']at N;exact N.elim|some (.obj k' fs)=>
 rw[b']at N;dsimp only at N;by_cases hk:k'=b
 · subst hk;rw[if_pos rfl]at N;obtain⟨z,e',C',dx,vs,h1,h2,h3,h4⟩:=R2.at' n _ b';rw[ha]at e';cases e';rw[uD c h2]at h1;have lv:=h3.length;refine⟨o,e,dx,_,rfl,h1,c.c,c.a d (UG d'),?_,?_⟩
   · have:(ď k').length<1000:=by unfold ď;split<;>decide
     rw[List.length_zip];omega
   ·match A:tP k' k f fs with
     |none=>rw[A]at N;exact N.elim|some h'=>
     rw[A]at N;dsimp only at N;have c':Ć a.K H2 m2 f y:=ry.mono e2 p2;refine N σ H2 m2 _ (.refl H2) (T_ m2) (R2.put ha ⟨e,dx,if k<vs.length then vs.set k y else vs++[y],?_,by rw[<-uD c h2];exact h2,?_,?_⟩) ((E.mono e1 p1).mono e2 p2)
     · rw[aw];unfold tP at A;have g':k<=vs.length:=by
        by_cases hj:k<fs.length;·omega
        · rw[if_neg hj]at A;by_cases a':k=fs.length/\fs.length<(ď k').length;·omega
          ·rw[if_neg a']at A;cases A
       rw[v7 (Ap k') d' g' (by omega)]
     · unfold tP at A;by_cases hj:k<fs.length;·rw[if_pos hj]at A;cases A;rw[if_pos (by omega)];exact h3.set k c'
       · rw[if_neg hj]at A;by_cases a':k=fs.length/\fs.length<(ď k').length;·rw[if_pos a']at A;cases A;rw[if_neg (by omega)];exact h3.append ⟨y,[],rfl,c',rfl⟩
         ·rw[if_neg a']at A;cases A
     · unfold tP at A;by_cases hj:k<fs.length;·rw[if_pos hj]at A;cases A;rw[UM];exact h4
       · rw[if_neg hj]at A;by_cases a':k=fs.length/\fs.length<(ď k').length;·rw[if_pos a']at A;cases A;rw[UX];simp;omega
         ·rw[if_neg a']at A;cases A
 ·rw[if_neg hk]at N;exact N.elim⟩⟩⟩
noncomputable def wa(b:List Nat)(a:ñ):ñ:=b.foldl (λr j=>r.set j U) a
theorem ú.fgt1(j:Nat)(E:ú s g ο Λ Γ):ú s g ο Λ (Γ.set j U):=by
 refine⟨by rw[UM];exact E.len,λi d h=>?_⟩;by_cases a:j=i
 · subst a;by_cases b:j<Γ.length;·rw[A_ b]at h;cases h
   ·rw[Va (by rw[UM];omega)]at h;cases h
 ·rw[p_ a]at h;exact E.at' i d h
theorem ú.fgt{H:Hp}{m:List O}{K:d_}{d:L2.St}:∀(b:List Nat){a:ñ},ú K H m d a->ú K H m d (wa b a)|[],_,E=>E|j::b,a,E=>ú.fgt b (E.fgt1 j)
def iH(i:Nat)(b:List Nat)(F:cu):Nat->Nat->Ý->ñ->Option ő|0,_,S,a=>Z (.nx (wa b a) S)|n+1,k,S,a=>match F S ((wa b a).set i (Z (.inl (.int (k:Int)))))with|some (.nx d e)=>iH i b F n (k+1) e d|o=>o
def xo(i:Nat)(b:List Nat)(d:á)(F:cu):cu:=λS a=>match d (ö S a)with|some (.ok [.int n])=>if-(2^62)<=n/\n<2^62 then iH i b F n.toNat 0 S a else U|_=>U
theorem Nm(i:Nat)(js:List Nat)(hp:Xl (E_ a.prog a.w) a.A a.env a.xe)(hc:a.calm=L)(hg:Gl a "range")(hm:a.mg "range"=U)(ha:FA a [w] ν)(hn:PG a h (wL i))(hb:Ŏ a À Â)(hs:k_ [w] a.env=[(D,eval w a.env)]:=by lk)(g':∀x,UF (.Call (.Name "range" Ρ) [w] [] u) a.env x=pure x:=by intro _;lk):US a (.For h (.Call (.Name "range" Ρ) [w] [] u) À [] m) (xo i js ν Â):=⟨λf' s σ Hf d I⟨H,b,S,ρ,R,E,o⟩=>by refine rh hp hc (rg hg hm ha.h hs) hn hb.h g' f' s σ Hf d I ⟨ö S ρ,R.envs E,?_⟩;unfold xo at o;match hq:ν (ö S ρ)with
 |none=>rw[hq]at o;exact o.elim|some (.exc c)=>rw[hq]at o;exact o.elim|some (.ok ds)=>
 rw[hq]at o;split at o
 · rename_i n h';cases h';by_cases p:-(2^62)<=n/\n<2^62
   · rw[if_pos p]at o;intro vs Hg eg rs;obtain⟨v,rfl,rv⟩:=fG rs;cases(show v=.int n from rv);refine⟨n,rfl,p.1,p.2,?_⟩;obtain⟨H0,e0,R0,_⟩:=R.grow eg;refine⟨λk e b' A=>e=n.toNat-k/\k<=n.toNat/\∃N m' S' g,SR a.K N m' S' A/\ú a.K N m' b' g/\OV a N m' (iH i js Â (n.toNat-k) k S' g) d,⟨n.toNat,by simp,UQ _,H0,b,S,ρ,R0,E.mono e0 (T_ b),by simpa using o.mono e0 (T_ b)⟩,?_⟩;rintro k e b' A⟨rfl,hk,N,m',S',g,R',E',f⟩;by_cases c':k<n.toNat
     · refine .inr ⟨c',λa' d'=>∃H2 m2 S2 j,SR a.K H2 m2 S2 d'/\ú a.K H2 m2 a' j/\OV a H2 m2 (iH i js Â (n.toNat-(k+1)) (k+1) S2 j) d,λa' d' q=>⟨n.toNat-(k+1),by omega,rfl,c',q⟩,λx H2 y=>?_⟩;obtain⟨rfl,rfl⟩:H2=A/\x=.int (0+(k:Int)):=y;have hz:n.toNat-k=(n.toNat-(k+1))+1:=by omega
       rw[hz]at f;unfold iH at f;show tVU a Â _ _ _;refine⟨N,m',S',(wa js g).set i (Z (.inl (.int (k:Int)))),R',(ú.fgt js E').set (show Ô a.K N (.int (k:Int)) (.int (0+(k:Int)))by rw[Int.zero_add];rfl),?_⟩;match z:Â S' ((wa js g).set i (Z (.inl (.int (k:Int)))))with|none=>rw[z]at f;exact f|some (.exc c _)=>rw[z]at f;exact f|some (.rt r _)=>rw[z]at f;exact f|some (.nx j S2)=>rw[z]at f;exactλa' H3 m3 i' e3 p3 R3 E3=>⟨H3,m3,S2,j,R3,E3,OV.mono f e3 p3⟩
     · have e':k=n.toNat:=by omega
       subst e';rw[XF]at f;exact .inl ⟨on _,f b' N m' A (.refl N) (T_ m') R' (ú.fgt js E')⟩
   ·rw[if_neg p]at o;exact o.elim
 ·exact o.elim⟩
abbrev ć:=Ý->List Uv->Option (Ru Uv)
noncomputable def mi(n:Nat)(d:cu):ć:=λS b=>match d S (b.map Z++u_ (n-b.length) U)with|some (.nx _ a)=>Z (.ok (.inl .non) a)|some (.rt u a)=>Z (.ok u a)|some (.exc c a)=>Z (.exc c a)|none=>U
def ů(K:d_)(F:ć)(n:Nat):Sp:=λg h Q E=>∃H m S e,SR K H m S h/\ä K H m e g/\e.length=n/\match F S e with|some (.ok u f)=>∀v d b a,Ñ H d->m<+:b->SR K d b f a->Ć K d b u v->Q v a|some (.exc c f)=>∀C d b a,U0 K C_ (Ĩ c)=Z (Z (.ref C))->Ñ H d->m<+:b->SR K d b f a->E (.ref C) U a|none=>False
theorem Ra{m:List Env}{E:XK}(k:∀C v u n,U0 s C_ (Ĩ b)=Z (Z (.ref C))->Ñ Α v->ο<+:u->SR s v u o n->E (.ref C) U n):XU (pF (ķ r q) r q s Ι N y d χ e Β I m f g E) b Α ο o:=by intro f' σ v u H s1 ev e1 p1 R1 h⟨j,C,he,hC,F⟩;subst he;have F':Ů (λa=>f.heap.get? a=U) H j (.ref C) s1.heap:=F.imp λa ha=>ha.1;refine rS h rfl rfl rfl F' λh' Ts F2 A2 z=>?_;have I2:=Í.aft (ζ:=[]) (h.pins_of (pins':=[]) λp w=>nomatch w) A2 rfl λi A=>⟨(z i A).1,(z i A).2.1,λp w=>absurd (show p∈([]:List (O×Obj))from w) (by simp),(z i A).2.2⟩;exact⟨j,.ref C,H,rfl,h.os,h.bare,I2.base,I2.hok,F2,k C v u H hC e1 p1 R1⟩
theorem o6{a:List Uv}(r:ä s g ο a ι):ú s g ο (L2.start y ι) (a.map Z++u_ (y.length-a.length) U):=by
 have f:=r.length;refine⟨by unfold L2.start;rw[UX,UX,S_,S_,VI,VI,f],λi d h=>?_⟩;by_cases e:i<a.length
 ·rw[M_ (by simpa using e),P_]at h;match b:a[i]? with|none=>rw[b]at h;cases h|some u=>rw[b]at h;cases h;obtain⟨v,k,j⟩:=r.get b;refine⟨v,?_,j⟩;unfold L2.start;rw[M_ (by rw[S_,f];exact e),P_,k];rfl
 ·rw[L_ (by simpa using e)]at h;have:=UG h;rw[List.mem_replicate]at this;cases this.2
variable{Ê:ć}
theorem Aw(f ps:List Str)(fb:cu)(hF:Ê=mi f.length fb)(hn:k=ps.length)(Fn:ļ s d p Ε e Ä)(Sc:iF f ps (av Ε))(hb:∀(w:B)(A:D_)(o:List Env)(g:ge)(H:Hp)(E:XK),Ü b (A.deeper (Xc p (av Ε) g.heap.objs.size e w))->Ŏ (pF (ķ r q) r q s Ι N f p (av Ε) e w A o g H E) (bZ Ε) fb):í r q s Ι N (ķ r q) (b+1) e Ä ps (ů s Ê k):=by
 subst hF hn;obtain⟨oc,od,kV,d',pm,an,w,ct,c',rfl,lk,a'⟩:=Fn.ex;refine BU lk a' Sc (λvs H Q E h=>?_) λA o g Hf vs Q E hr h=>?_;·obtain⟨H,m,S,z,R,i,hl,_⟩:=h;rw[i.length,hl]
 ·obtain⟨H,m,S,z,R,i,hl,a⟩:=h;refine⟨_,(hb w A o g Hf E hr).h,H,m,S,z.map Z++u_ (f.length-z.length) U,R,o6 i,?_⟩;unfold mi at a;match I:fb S (z.map Z++u_ (f.length-z.length) U)with|none=>rw[I]at a;exact a.elim|some (.exc c S1)=>rw[I]at a;exact Ra a|some (.rt u S1)=>rw[I]at a;exactλv H' m' y n j R' r'=>a v H' m' y n j R' r'|some (.nx ρ S1)=>rw[I]at a;exactλb' H' m' y n j R' _=>a .non H' m' y n j R' rfl
noncomputable def nV(F:ć)(n:Nat)(d:mW):î:=λS b=>jH (d S b) λa e=>if a.length=n then F e a else U
theorem wb{i:List Uv}(R:SR a.K g ο o Α)(q:ä a.K g ο i ι)(s:i.length=b)(d:OU a g ο (Ê o i) λu k j h=>∀v,Ć a.K k j u v->È v h):ů a.K Ê b ι Α È (EX a):=by refine⟨g,ο,o,i,R,q,s,?_⟩;match m:Ê o i with|none=>rw[m]at d;exact d.elim|some (.ok u w)=>rw[m]at d;exactλv k j h e p n r=>d k j h e p n v r|some (.exc c w)=>rw[m]at d;exactλf k j h hC e p n=>⟨c,f,rfl,hC,XU.xw (XU.mono d e p) n⟩
theorem IJ{r:mW}(G:í a.prog a.w a.K a.mg a.base (ķ a.prog a.w) b e Ä y (ů a.K Ê k))(hr:Ü b a.A)(n:a.ex=[])(hg:Gl a d)(hm:a.mg d=Z (.ref e))(hk:Vk a.K (.ref e)=L)(hb:ð a.K Ä y [])(ha:UA a (h::v) r)(p:(d==("__debug__":Str))=D:=by lk)(he:k_ (h::v) a.env=(D,eval h a.env)::k_ v a.env:=by lk)(j:(UH u (k_ v a.env)).any (·.1)=D:=by lk):UE a (.Call (.Name d m) (h::v) [] u) (nV Ê k r):=⟨λf' s w Hf Q I⟨H,f,S,z,R,E,o⟩=>pD G hr hg hm hk hb .nil (wY n) ha.h p he j f' s w Hf Q I ⟨H,f,S,z,R,E,OU.bind o λN S1 H1 m1 q e1 p1 R1 g A rs=>by
 show ů a.K Ê k (A++[]) q Q (EX a);rw[WA];by_cases i:N.length=k;·rw[if_pos i]at g;exact wb R1 rs i g
 ·rw[if_neg i]at g;exact g.elim⟩⟩
structure Ax(P:n_)(w:xy)(K:d_)(mg:Str->Option B)(base:N_)(k:Nat)(C:O)(m:Str)(lv n:Nat)(F:ć):Prop where
 c:CK K k C
 h:m∉ď k
 f:∃f fd ps,Kc K C m f/\í P w K mg base (ķ P w) lv f fd ps (ů K F (n+1))/\ð K fd ps []
noncomputable def cO(k:Nat)(F:ć)(n:Nat)(g:î)(f:mW):î:=λS a=>jH (g S a) λu d=>match u with|.inr c=>(match d[c]? with|some (.obj e _)=>if e=k then jH (f d a) λb S2=>(if b.length=n then F S2 (.inr c::b)else U)else U|_=>U)|_=>U
theorem IK{z:Nat}{gs:mW}{pl:Sem Bool}(g:Ax a.prog a.w a.K a.mg a.base b e d υ k Ê)(hr:Ü z a.A)(hk:υ<=z)(b':a.ex=[])(ho:UE a h Κ)(ha:UA a (w::v) gs)(ht:MC a h d (w::v) u m pl)(he:k_ (w::v) a.env=(D,eval w a.env)::k_ v a.env:=by lk)(a':(UH m (k_ v a.env)).any (·.1)=D:=by lk):UE a (.Call (.Attribute h d u) (w::v) [] m) (cO b Ê k Κ gs):=by obtain⟨f,fd,ps,hm,G,hb⟩:=g.f;refine⟨λf' s σ Hf Q I⟨H,n,S,ρ,R,E,h⟩=>Gu (p:=pl) ho.h g.c.c hm (G.mono hk) hr hb .nil (wY b') ha.h he a' ht f' s σ Hf Q I ⟨H,n,S,ρ,R,E,OU.bind h λj S1 H1 m1 d' e1 p1 R1 y o r=>?_⟩⟩;match j,r,y with
 |.inl p,_,y=>exact y.elim|.inr n',⟨i,ha,hv⟩,y=>subst hv;dsimp only at y;match hs:S1[n']? with
 |none=>rw[hs]at y;exact y.elim|some (.lst ds)=>rw[hs]at y;exact y.elim|some (.obj k' fs)=>
 rw[hs]at y;dsimp only at y;by_cases A:k'=b
 · subst A;rw[if_pos rfl]at y;obtain⟨q,N,C',dx,vs,h1,h2,h3,h4⟩:=R1.at' n' _ hs;rw[ha]at N;cases N;rw[uD g.c h2]at h1;refine⟨i,dx,_,rfl,h1,kz g.h,H1,m1,S1,ρ,R1,E.mono e1 p1,OU.bind y λus S2 H2 m2 c' e2 p2 R2 o2 ws rs=>?_⟩;show ů a.K Ê (k+1) (.ref i::(ws++[])) c' Q (EX a);rw[WA];by_cases hl:us.length=k;·rw[if_pos hl]at o2;exact wb (i:=.inr n'::us) R2 ⟨.ref i,ws,rfl,⟨i,pV p2 ha,rfl⟩,rs⟩ (by rw[UB,hl]) o2
   ·rw[if_neg hl]at o2;exact o2.elim
 ·rw[if_neg A]at y;exact y.elim
theorem DD{pl:Sem Bool}(g:Ax a.prog a.w a.K a.mg a.base b e d k 0 Ê)(hr:Ü υ a.A)(hk:k<=υ)(N:a.ex=[])(ho:UE a h Κ)(ht:MC a h d [] u m pl):UE a (.Call (.Attribute h d u) [] [] m) (cO b Ê 0 Κ el):=by obtain⟨f,fd,ps,hm,G,hb⟩:=g.f;refine⟨λf' s σ Hf Q I⟨H,n,S,ρ,R,E,h⟩=>pE (n:=pl) ho.h g.c.c hm (G.mono hk) hr hb .nil (wY N) ht f' s σ Hf Q I ⟨H,n,S,ρ,R,E,OU.bind h λj S1 H1 m1 a' e1 p1 R1 q v r=>?_⟩⟩;match j,r,q with|.inl o,_,q=>exact q.elim|.inr A,⟨i,ha,hv⟩,q=>subst hv;dsimp only at q;match z:S1[A]? with
 |none=>rw[z]at q;exact q.elim|some (.lst ds)=>rw[z]at q;exact q.elim|some (.obj k' fs)=>
 rw[z]at q;dsimp only at q;by_cases w:k'=b;·subst w;rw[if_pos rfl]at q;obtain⟨p,y,C',dx,vs,h1,h2,h3,h4⟩:=R1.at' A _ z;rw[ha]at y;cases y;rw[uD g.c h2]at h1;refine⟨i,dx,_,rfl,h1,kz g.h,?_⟩;show ů a.K Ê (0+1) [.ref i] a' Q (EX a);exact wb (i:=[.inr A]) R1 ⟨.ref i,[],rfl,⟨i,ha,rfl⟩,rfl⟩ rfl q
 ·rw[if_neg w]at q;exact q.elim
structure Kl(P:n_)(w:xy)(K:d_)(mg:Str->Option B)(base:N_)(k:Nat)(C:O)(lv n:Nat)(F:ć):Prop where
 c:CK K k C
 g:mg (Ŝ k)=Z (.ref C)f:∃f fd ps,Mk K C f/\í P w K mg base (ķ P w) lv f fd ps (ů K F (n+1))/\ð K fd ps []
noncomputable def xq(k:Nat)(F:ć)(n:Nat)(e:mW):î:=λS d=>jH (e S d) λb a=>if b.length=n then jH (F (a++[.obj k []]) (.inr a.length::b)) λu S2=>(match u with|.inl .non=>Z (.ok (.inr a.length) S2)|_=>U)else U
theorem IL{y:Nat}{gs:mW}(i:Kl a.prog a.w a.K a.mg a.base b e υ k Ê)(a':Ü y a.A)(hk:υ+1<=y)(c':a.ex=[])(hg:Gl a (Ŝ b))(ha:UA a (h::v) gs)(e':(Ŝ b==("__debug__":Str))=D)(he:k_ (h::v) a.env=(D,eval h a.env)::k_ v a.env:=by lk)(b':(UH u (k_ v a.env)).any (·.1)=D:=by lk):UE a (.Call (.Name (Ŝ b) m) (h::v) [] u) (xq b Ê k gs):=by
 obtain⟨f,fd,ps,M,G,hb⟩:=i.f;refine⟨λf' s σ Hf Q I⟨H,n,S,ρ,R,E,o⟩=>Gx M G (a'.mono hk) hg i.g hb .nil (wY c') ha.h e' he b' f' s σ Hf Q I ⟨H,n,S,ρ,R,E,OU.bind o λus S1 H1 N i' e1 p1 R1 A vs rs=>?_⟩⟩;by_cases hl:us.length=k
 · rw[if_pos hl]at A;intro g dx ha d' z;obtain⟨H2,e2,R2,_⟩:=R1.grow (aJ d' (.own g));have g':ß i' dx (.own g) g=U:=by rw[aA (by first|exact z|exact UK z)];exact ha
   have R3:=R2.push (d:=.ins e dx []) (c:=.obj b []) g' ⟨e,dx,[],by rw[aw];simp,i.c.n,rfl,UQ _⟩;have q:(N++[g])[S1.length]?=Z g:=by rw[<-R1.len,L_ (on _),XF];rfl
   show ů a.K Ê (k+1) (.ref g::(vs++[])) _ _ (EX a);rw[WA];refine wb (i:=.inr S1.length::us) R3 ⟨.ref g,vs,rfl,⟨g,q,rfl⟩,rs.mono e2 (X3 N [g])⟩ (by rw[UB,hl]) (OU.bind (A.mono e2 (X3 N [g])) λj S4 H4 m4 h' e4 p4 R4 w p r=>?_);match j,r,w with|.inr _,_,w=>exact w.elim|.inl d,r,w=>cases d with|non=>exact⟨r,w H4 m4 h' (.refl H4) (T_ m4) R4 (.ref g) ⟨g,pV p4 q,rfl⟩⟩|_=>exact w.elim
 ·rw[if_neg hl]at A;exact A.elim
def Fy(k N:Nat)(F:cu)(g:Ò):cu:=λS b=>match F S b with|some (.rt u a)=>Z (.rt u a)|some (.exc c a)=>if c=k then(match g (u_ N U)with|some (.ok d)=>if FD.pl d=L then Z (.rt (.inl d) a)else U|_=>U)else U|_=>U
theorem Nn{X:C}{bs:List U8}{hx:r_}{F:cu}{g:Ò}{J:Str}{CJ:O}{np y w r':Pos}(k N:Nat)(c':X.ex=[])(t':X.stack=X.env::X.outer)(w':X.env.frame=Z X.env.locals)(v':Gl X J)(g':X.mg J=Z (.ref CJ))(KJ:excIn X.K CJ ū "ValueError.__new__"=L)(hk:nsIn X.K C_ (Ĩ k)=Z (Z (.ref CJ)))(u':mroIn X.K CJ (.ref CJ)=Z L)(y':X.N.length=N)(hb:∀pl E',Ŏ (Ke X pl E') bs F)(hh:∀pl e,FE (wZ X pl e) hx g)(x':(J==("__debug__":Str))=D:=by lk):US X (.Try bs [.ExceptHandler (Z (.Name J np)) U [.Return (Z hx) y] w] [] [] r') (Fy k N F g):=by
 constructor;intro n s σ Hf a I⟨H,m,S,ρ,R,E,o⟩;refine wpAny_Try_except ?_;have e':=λE'(h:OV (Ke X n E') H m (F S ρ) {nx:=λ_ _=>False,rt:=a.rt})=>(hb n E').h [] s σ Hf {nx:=λ_ _=>False,rt:=a.rt} (Hk I) ⟨H,m,S,ρ,R,E,h⟩;refine U5 (e' (λe m'=>v_ (E_ X.prog X.w) X.A (abL e X.env) (λ_ l'=>v_ (E_ X.prog X.w) X.A (setFlight e U) (λ_ k'=>v_ (E_ X.prog X.w) X.A (handleBy e X.env [.ExceptHandler (Z (.Name J np)) U [.Return (Z hx) y] w]) (SP X n a) X.xe k') X.xe l') X.xe m') ?_) (λfl A i=>?_) λe A i=>i
 ·unfold Fy at o;match hf:F S ρ with
  |none=>rw[hf]at o;exact o.elim|some (.nx _ _)=>rw[hf]at o;exact o.elim|some (.rt u S1)=>rw[hf]at o;exact o|some (.exc c S1)=>
  rw[hf]at o;dsimp only at o;by_cases d':c=k
  · rw[if_pos d']at o;subst d';intro ps a' H0 m0 H1 A ev same pre R1 I1⟨e,f,he,hC,F⟩;subst he;have z':f=CJ:=by rw[hC]at hk;cases hk;rfl
    subst z';have fe:H1 e=U:=F.1;have fn:=F.2.1;refine Ct (a:=Ke X n _) I1 c' t' w' F (E1:=X.xe) (E2:=X.xe) λh2 Ts a0 k1 k2 k3 k4 k5=>?_;have i':=I1.pins_of (pins':=[]) λp hp=>absurd hp (by simp);have h':∀b,b=e\/b∈Ts->H1 b=U/\X.s₀.heap.get? b=U/\(∀p∈(X.pn++n)++[],p.1≠b)/\∃o vs,A.heap.get? b=Z o/\o.data=.fields vs:=λb hb=>⟨(k5 b hb).1,(k5 b hb).2.1.1,λp hp=>(k5 b hb).2.1.2 p (by simpa using hp),(k5 b hb).2.2⟩;have I2:=Í.aft i' (vB I1 k1 k4) c' h';have J2:Í (wZ X n e) [] a' H1 {A with heap:=h2}:=vC (mK I2);have s':=k3;obtain⟨oe,vs,T,oT,ts,t1,⟨t2,t3⟩,t4,_⟩:=s';refine wpAny_handleBy_cons (codeAny_handlers_test (lf (a:=wZ X n e) J2 v' g' ?_ x')) (by intro z;cases z);refine yZ (Ι:=λ_=>Z (.ref f)) (d:=J) J2.kIn (yY J2.kIn rfl KJ) (yY J2.kIn g' KJ) t1 t2 u' ?_;show Xp _ _ (.handlers (.ref e) [.ExceptHandler U U [.Return (Z hx) y] w] X.env) _ _;refine codeAny_handlers_suite ?_;refine YD (s:={A with heap:=h2}) k1 k2 k3.at λh3 m1 m2 m3 m4=>?_;have A3:Aft (Ke X n _) e Ts A.heap h3:=vB I1 m1 λb o q d=>by obtain⟨sl,q'⟩:=k4 b o q d;exact⟨sl,m4 b _ q' d⟩
    have I3:=Í.aft i' A3 c' h';have J4:Í (wZ X n e) [] a' H1 {A with heap:=h3}:=vC (mK I3);have E5:Û X.K H1 a' (u_ N U):=by
     refine⟨?_,λj d hj=>?_⟩;·rw[I1.len,VI];exact y'
     ·rw[W0]at hj;split at hj<;>cases hj
    match hg:g (u_ N U)with
    |none=>rw[hg]at o;exact o.elim|some (.exc c2)=>rw[hg]at o;exact o.elim|some (.ok d)=>
     rw[hg]at o;dsimp only at o;by_cases b':FD.pl d=L
     ·rw[if_pos b']at o;have n':=(yI (EK (m:=y) (hh n e))).h [] _ _ _ {nx:=λ_ _=>False,rt:=a.rt} J4 ⟨_,E5,(by unfold aO;rw[hg];intro v H' e1 r;obtain⟨H2,e2,R2,dn⟩:=R1.grow e1;exact o v H2 m0 H' (same.trans e2) pre R2 (dn d v b' r))⟩;refine U5 n' (λfl s6 i=>?_) λ_ _ z=>z.elim;cases fl with|ret u=>obtain⟨v,o',H6,J6,rv,q6⟩:=i;have J7:Í X n o' H6 s6:=w5 I.ok J6;exact⟨v,_,H6,J7,rv,q6⟩|next=>obtain⟨_,_,_,z⟩:=i;exact U4 z|brk=>obtain⟨_,_,_,z⟩:=i;exact U4 z|cont=>obtain⟨_,_,_,z⟩:=i;exact U4 z
     ·rw[if_neg b']at o;exact o.elim
  ·rw[if_neg d']at o;exact o.elim
 ·cases fl with|ret u=>obtain⟨v,p',H',I',rv,q⟩:=i;exact⟨v,p',H',mK I',rv,q⟩|next=>obtain⟨_,_,_,z⟩:=i;exact U4 z|brk=>obtain⟨_,_,_,z⟩:=i;exact U4 z|cont=>obtain⟨_,_,_,z⟩:=i;exact U4 z
abbrev nW:=List (Str×Nat×Nat×ć)
structure Rb(P:n_)(w:xy)(K:d_)(mg:Str->Option B)(base:N_)(x:Str)(lv n:Nat)(F:ć):Prop where f:∃f fd ps,í P w K mg base (ķ P w) lv f fd ps (ů K F n)/\mg x=Z (.ref f)/\Vk K (.ref f)=L/\ð K fd ps []
structure ŭ(P:n_)(w:xy)(K:d_)(mg:Str->Option B)(base:N_)(T:nW):Prop where h:∀x e,T.lookup x=Z e->Rb P w K mg base x e.1 e.2.1 e.2.2
structure ę(P:n_)(w:xy)(K:d_)(mg:Str->Option B)(base:N_)(k:Nat)(C:O)(T:nW):Prop where h:∀m e,T.lookup m=Z e->Ax P w K mg base k C m e.1 e.2.1 e.2.2
theorem IM:ŭ r q s Ι N []:=⟨λ_ _ h=>by cases h⟩
theorem wc{T:nW}(h:Rb r q s Ι N d b k Ê)(t:ŭ r q s Ι N T):ŭ r q s Ι N ((d,b,k,Ê)::T):=⟨λd e z=>by
 rcases ij z with⟨rfl,rfl⟩|z;·exact h
 ·exact t.h d e z⟩
theorem IN:ę r q s Ι N b e []:=⟨λ_ _ h=>by cases h⟩
theorem fw{T:nW}(h:Ax r q s Ι N b e d k υ Ê)(t:ę r q s Ι N b e T):ę r q s Ι N b e ((d,k,υ,Ê)::T):=⟨λx a z=>by
 rcases ij z with⟨rfl,rfl⟩|z;·exact h
 ·exact t.h x a z⟩
theorem Ay{h:N_}(y:s.In h)(z:h.Ns C_ Ι)(a i:List Str)(m:cu)(A:Af s d Ε e)(n:Pi d Ε i)(v:∀(j:B)(A:D_)(g:List Env)(f:ge)(H:Hp)(E:XK),Ü b (A.deeper (Xc d (av Ε) f.heap.objs.size e j))->Ŏ (pF (ķ r q) r q s Ι N a d (av Ε) e j A g f H E) (bZ Ε) m)(w:Ê=mi a.length m:=by lk)(p:L' a i (av Ε)=L:=by lk)(u:k=i.length:=by lk):Rb r q s Ι N d (b+1) k Ê:=let⟨_,o⟩:=A.F;⟨_,_,i,Aw a i m w u o (Ic p) v,Xk y z A.a,A.k,o.binds n⟩
theorem fz(c:CK s b e)(f i:List Str)(m:cu)(a:Am s e p d Ε A)(n:BdQ d p Ε i)(y:∀(j:B)(a:D_)(h:List Env)(g:ge)(H:Hp)(E:XK),Ü k (a.deeper (Xc p (av Ε) g.heap.objs.size A j))->Ŏ (pF (ķ r q) r q s Ι N f p (av Ε) A j a h g H E) (bZ Ε) m)(z:Ê=mi f.length m:=by lk)(u:L' f i (av Ε)=L:=by lk)(v:υ+1=i.length:=by lk)(w:noB b d=L:=by lk):Ax r q s Ι N b e d (k+1) υ Ê:=let⟨_,o⟩:=a.F;⟨c,M6 w,_,_,i,a.t,Aw f i m z v o (Ic u) y,o.binds n⟩
theorem IP{h:N_}(I:s.In h)(Gn:h.Ns C_ Ι)(c:CK s b e)(M:Mk s e A)(a j:List Str)(n:cu)(f:∃z,ļ s "__init__" d Ε A z)(o:BdQ "__init__" d Ε j)(w:∀(m:B)(f:D_)(i:List Env)(g:ge)(H:Hp)(E:XK),Ü k (f.deeper (Xc d (av Ε) g.heap.objs.size A m))->Ŏ (pF (ķ r q) r q s Ι N a d (av Ε) A m f i g H E) (bZ Ε) n)(y:Ê=mi a.length n:=by lk)(u:L' a j (av Ε)=L:=by lk)(v:υ+1=j.length:=by lk):Kl r q s Ι N b e (k+1) υ Ê:=let⟨_,p⟩:=f;⟨c,Xk I Gn c.n,_,_,j,M,Aw a j n y v p (Ic u) w,p.binds o⟩
noncomputable def Pk(n:Nat)(b:cu):Ö:=λa=>match b [] ((a.map λd=>Z (.inl d))++u_ (n-a.length) U)with|some (.rt (.inl d) _)=>Z (.ok d)|_=>U
theorem we{K:d_}{H:Hp}{m:List O}:∀{f:List Q}{a:List V},S K H f a->ä K H m (f.map .inl) a|[],a,r=>r|d::f,a,r=>by obtain⟨v,b,e,h,g⟩:∃v b,a=v::b/\Ô K H d v/\S K H f b:=r;exact⟨v,b,e,h,we g⟩
theorem No(a I:List Str)(fb:cu)(hF:Ψ=Pk a.length fb)(hn:k=I.length)(Fn:ļ s d p Ε e Ä)(Sc:iF a I (av Ε))(hb:∀(u:B)(A:D_)(o:List Env)(f:ge)(H:Hp)(E:XK),Ü b (A.deeper (Xc p (av Ε) f.heap.objs.size e u))->Ŏ (pF Į r q s Ι N a p (av Ε) e u A o f H E).nox (bZ Ε) fb):í r q s Ι N Į (b+1) e Ä I (ŋ s Ψ k):=by
 subst hF hn;obtain⟨oc,od,kV,c',pm,an,u,ct,b',rfl,lk,a'⟩:=Fn.ex;refine BU lk a' Sc (λvs H Q E h=>?_) λA o f H vs Q E hr h=>?_;·obtain⟨y,g,hl,_⟩:=h;rw[g.length,hl]
 ·obtain⟨y,g,hl,z⟩:=h;have j:=o6 (y:=a) (we (m:=[]) g);rw[VE,S_]at j;refine⟨_,(hb u A o f H E hr).h.nox,H,[],[],_,⟨rfl,aaN,(λ_ z=>by cases z),.refl H,(λ_ _ z=>by simp at z)⟩,j,?_⟩;unfold Pk at z;have e0:(y.map λi=>Z (YJ i:Uv))=y.map (Z∘YJ):=rfl;rw[e0]at z;match w:fb [] (y.map (Z∘YJ)++u_ (a.length-y.length) U)with|none=>rw[w]at z;exact z.elim|some (.exc c S)=>rw[w]at z;exact z.elim|some (.nx ρ S)=>rw[w]at z;exact z.elim|some (.rt (.inr _) S)=>rw[w]at z;exact z.elim|some (.rt (.inl i) S)=>rw[w]at z;exactλv H' m' Hf m n R r'=>z v Hf (m.trans R.up) (Ô.mono R.up _ _ r')
theorem IQ(d:PE a h (yd b)):UE a h (cr b):=M7 b d
theorem IR(c:CK a.K k e)(f:UE a h Κ)(g:(ď k)[b]?=Z d:=by lk)(i:Vd h d a.env (eval h a.env)=eval h a.env:=by lk):UE a (.Attribute h d m) (BG k b Κ):=M8 c g f i
theorem IS(j:UE a h Κ)(k:ĥ a.N=L:=by lk)(g:a.N[b]?=Z d:=by lk)(e:jX a.env.scope d=L:=by lk)(i:a.fn d=L:=by lk)(f:Vb h (Z (.Name d u)) m.line a.env=pure D:=by lk):US a (.Assign [.Name d u] h m) (lP b Κ):=Ni b (je k) g (fH e) j f (.inl i)
theorem IT{g:î}(c:CK a.K k e)(j:UE a h g)(n:UE a w Κ)(f:(ď k)[b]?=Z d:=by lk)(i:Vb w (Z (.Attribute h d u)) m.line a.env=pure D:=by lk):US a (.Assign [.Attribute h d u] w m) (tQ k b g Κ):=Nl c f j n i
theorem IU{g:Pos}{f:List Nat}(k:Xl (E_ a.prog a.w) a.A a.env a.xe)(n:a.mg "range"=U)(v:FA a [h] ν)(s:Ŏ a À Â)(p:a.env.kindOf "range"=Z .globalImplicit:=by lk)(r:a.calm=L:=by lk)(w:ĥ a.N=L:=by lk)(i:a.N[b]?=Z d:=by lk)(o:jX a.env.scope d=L:=by lk)(q:a.fn d=L:=by lk)(j:k_ [h] a.env=[(D,eval h a.env)]:=by lk)(e:∀d,UF (.Call (.Name "range" Ρ) [h] [] u) a.env d=pure d:=by intro _;lk):US a (.For (.Name d g) (.Call (.Name "range" Ρ) [h] [] u) À [] m) (xo b f ν Â):=Nm b f k r (ĳ p) n v (iD (je w) i (fH o) (.inl q)) s j e
theorem DE{T:nW}{r:mW}(H:ŭ a.prog a.w a.K a.mg a.base T)(s:Ü k a.A)(g:(T.lookup d).map (λq=>q.2.2)=Z Ê)(o:a.ex=[])(E:UA a (h::v) r)(e:((T.lookup d).all λq=>Zb q.1 k&&Xe b q.2.1)=L:=by lk)(y:a.env.kindOf d=Z .globalImplicit:=by lk)(p:(d==("__debug__":Str))=D:=by lk)(z:k_ (h::v) a.env=(D,eval h a.env)::k_ v a.env:=by lk)(j:(UH m (k_ v a.env)).any (·.1)=D:=by lk):UE a (.Call (.Name d u) (h::v) [] m) (nV Ê b r):=by cases i:T.lookup d with|none=>rw[i]at g;cases g|some q=>rw[i]at g e;cases g;rw[V1,m_]at e;obtain rfl:=U_ e.2;obtain⟨f,N,I,G,w,n,A⟩:=(H.h d q i).f;exact IJ (G.mono (U9 e.1)) s o (ĳ y) w n A E p z j
theorem DF{T:nW}{o:mW}(A:ę a.prog a.w a.K a.mg a.base b e T)(r:Ü υ a.A)(g:(T.lookup d).map (λq=>q.2.2)=Z Ê)(n:a.ex=[])(s:UE a h Κ)(z:UA a (w::v) o)(f:((T.lookup d).all λq=>Zb q.1 υ&&Xe k q.2.1)=L:=by lk)(p:MC a h d (w::v) u m (Pj h a.env):=by delta MC;lk)(y:k_ (w::v) a.env=(D,eval w a.env)::k_ v a.env:=by lk)(j:(UH m (k_ v a.env)).any (·.1)=D:=by lk):UE a (.Call (.Attribute h d u) (w::v) [] m) (cO b Ê k Κ o):=by cases i:T.lookup d with|none=>rw[i]at g;cases g|some q=>rw[i]at g f;cases g;rw[V1,m_]at f;obtain rfl:=U_ f.2;exact IK (A.h d q i) r (U9 f.1) n s z p y j
theorem Az{T:nW}(s:ę a.prog a.w a.K a.mg a.base b e T)(p:Ü k a.A)(i:(T.lookup d).map (λq=>q.2.2)=Z Ê)(n:a.ex=[])(r:UE a h Κ)(g:((T.lookup d).all λq=>Zb q.1 k&&Xe 0 q.2.1)=L:=by lk)(o:MC a h d [] u m (Pj h a.env):=by delta MC;lk):UE a (.Call (.Attribute h d u) [] [] m) (cO b Ê 0 Κ el):=by cases j:T.lookup d with|none=>rw[j]at i;cases i|some q=>rw[j]at i g;cases i;rw[V1,m_]at g;have f:=s.h d q j;rw[<-U_ g.2]at f;exact DD f p (U9 g.1) n r o
theorem DG{g:Nat}{q:mW}(f:Kl a.prog a.w a.K a.mg a.base b e υ k Ê)(i:Ü g a.A)(n:a.ex=[])(y:UA a (h::v) q)(p:Ŝ b=d:=by lk)(r:Zb (υ+1) g=L:=by lk)(s:a.env.kindOf d=Z .globalImplicit:=by lk)(o:(d==("__debug__":Str))=D:=by lk)(w:k_ (h::v) a.env=(D,eval h a.env)::k_ v a.env:=by lk)(j:(UH m (k_ v a.env)).any (·.1)=D:=by lk):UE a (.Call (.Name d u) (h::v) [] m) (xq b Ê k q):=by subst p;exact IL f i (U9 r) n (ĳ s) y o w j
theorem DH(d:a.mg "list"=U)(g:FA a (h::v) ν)(e:a.env.kindOf "list"=Z .globalImplicit:=by lk)(f:k_ (h::v) a.env=(D,eval h a.env)::k_ v a.env:=by lk)(b:(UH m (k_ v a.env)).any (·.1)=D:=by lk):UE a (.Call (.Name "list" u) (h::v) [] m) (sI ν):=IE (ĳ e) d g f b
theorem Np(b:a.A.units+64<cLine)(f:UE a h Κ)(e:FE a w z)(d:Uw .Eq w=D:=by lk):UE a (.Compare h [.Eq] [w] m) (gL Þ Κ z):=Au (GY b) G0 f e d
theorem Nq(e:UE a h Κ)(d:FE a w z)(b:Uw .In w=D:=by lk):UE a (.Compare h [.In] [w] m) (gL ĵ Κ z):=Au Qg Qh e d b
theorem Nr(b:a.A.units+64<cLine)(f:UE a h Κ)(e:FE a w z)(d:Uw .NotEq w=D:=by lk):UT a (.Compare h [.NotEq] [w] m) (uB (gL ė Κ z)):=IC (GZ b) Ha f e d
theorem Nt{g:î}(b:a.A.units+64<cLine)(f:UE a h Κ)(e:UE a w g)(d:Uw .NotEq w=D:=by lk):UT a (.Compare h [.NotEq] [w] m) (uB (xn ė Κ g)):=ID (GZ b) Ha f e d
theorem DJ{q:Sem Bool}(g:Kk a.prog a.w a.K a.mg a.base b e d k 0 Ψ)(y:Ü υ a.A)(hk:k<=υ)(A:FE a h z)(w:MC a h d [] u m q):FE a (.Call (.Attribute h d u) [] [] m) (lO b Ψ z):=by
 obtain⟨f,fd,ps,I,G,hb⟩:=g.f;refine ef (pE (n:=q) A.h g.c.c I (G.mono hk) y hb .nil Q6 w) λσ H Q s E h=>⟨s,E,ì.bind h λi v H1 e1 r n=>?_⟩;by_cases o:Ź b i=L
 ·rw[if_pos o]at n;obtain⟨j,dx,fs,rfl,hh,N⟩:=Fw g o r;refine⟨j,dx,fs,rfl,hh,N,?_⟩;show spE a.K Ψ 1 [.ref j] H1 Q E0;refine⟨[i],.cons r .nil,rfl,?_⟩;match p:Ψ [i]with|none=>rw[p]at n;exact n.elim|some (.ok d')=>rw[p]at n;exact n|some (.exc c)=>rw[p]at n;exact n.elim
 ·rw[if_neg o]at n;exact n.elim
theorem AA{T:Iw}(r:ŕ a.prog a.w a.K a.mg a.base b e T)(o:Ü k a.A)(i:(T.lookup d).map (λq=>q.2.2)=Z Ψ)(p:FE a h z)(g:((T.lookup d).all λq=>Zb q.1 k&&Xe 0 q.2.1)=L:=by lk)(n:MC a h d [] u m (Pj h a.env):=by delta MC;lk):FE a (.Call (.Attribute h d u) [] [] m) (lO b Ψ z):=by cases j:T.lookup d with|none=>rw[j]at i;cases i|some q=>rw[j]at i g;cases i;rw[V1,m_]at g;have f:=r.h d q j;rw[<-U_ g.2]at f;exact DJ f o (U9 g.1) p n
theorem xr{g:Ù}(h:Ξ ε=Z (.ok L)):br Ξ Φ g ε=Φ ε:=by unfold br;rw[h];rfl
theorem aZ{p:δ->Bool}{l:List δ}(h:l.all p=L){x:δ}(a:x∈l):p x=L:=UY.mp h x a
end FD
variable{Γ:FD.ñ}{o:FD.Ý}{Κ:FD.î}{Â:FD.cu}{Ê:FD.ć}
namespace G
open L2 FD
noncomputable def Ó(i:Nat):U8:=p9_.main.body.getD i (.Pass ⟨0,0,0,0⟩)
section
variable{X:C}{a b c o e:r_}{es:List r_}{fa fb fc fo:Ò}{ga:á}{pos p pt apos cpos:Pos}
theorem Nu(e:FE X a fa)(d:FE X b fb):FE X (.BinOp a .Add b pos) (R cD fa fb):=ug ż Ly e d
theorem Nv(e:FE X a fa)(d:FE X b fb):FE X (.BinOp a .Add b pos) (R cw fa fb):=ug L7 Ma e d
theorem Nw(e:FE X a fa)(d:FE X b fb):FE X (.BinOp a .Sub b pos) (R uj fa fb):=ug KN Qd e d
theorem Nx(e:FE X a fa)(d:FE X b fb):FE X (.BinOp a .Mult b pos) (R jM fa fb):=ug EB Lz e d
theorem Ny(e:FE X a fa)(d:FE X b fb):FE X (.BinOp a .Mod b pos) (R j7 fa fb):=ug KO Qe e d
theorem IV(e:FE X a fa)(d:FE X b fb):FE X (.BinOp a .FloorDiv b pos) (R kg fa fb):=ug Gp LA e d
theorem Nz(e:FE X a fa)(d:FE X b fb):FE X (.BinOp a .Mult b pos) (R QL fa fb):=ug Mw Mx e d
theorem NA(d:X.A.units+64<cLine)(g:FE X a fa)(f:FE X b fb)(e:Uw .Eq b=D:=by lk):FT X (.Compare a [.Eq] [b] pos) (fB (R Þ fa fb)):=kf (GY d) G0 g f e
theorem NB(d:X.A.units+64<cLine)(g:FE X a fa)(f:FE X b fb)(e:Uw .NotEq b=D:=by lk):FT X (.Compare a [.NotEq] [b] pos) (fB (R ė fa fb)):=kf (GZ d) Ha g f e
theorem NC(f:FE X a fa)(e:FE X b fb)(d:Uw .Lt b=D:=by lk):FT X (.Compare a [.Lt] [b] pos) (fB (R G' fa fb)):=kf LO LP f e d
theorem ND(f:FE X a fa)(e:FE X b fb)(d:Uw .Gt b=D:=by lk):FT X (.Compare a [.Gt] [b] pos) (fB (R ņ fa fb)):=kf KQ (LD _) f e d
theorem NE(f:FE X a fa)(e:FE X b fb)(d:Uw .Is b=D:=by lk):FT X (.Compare a [.Is] [b] pos) (fB (R Ď fa fb)):=kf EC LF f e d
theorem IW(f:FE X a fa)(e:FE X b fb)(d:Uw .IsNot b=D:=by lk):FT X (.Compare a [.IsNot] [b] pos) (fB (R oE fa fb)):=kf yo EQ f e d
theorem IX(d:X.A.units<cLine)(g:FE X a fa)(f:FE X b fb)(e:Uw .Eq b=D:=by lk):FT X (.Compare a [.Eq] [b] pos) (fB (R Pd fa fb)):=kf (Ql d) Qm g f e
theorem NF(d:X.A.units+64<cLine)(g:FE X a fa)(f:FE X b fb)(e:Uw .Gt b=D:=by lk):FT X (.Compare a [.Gt] [b] pos) (fB (R gtT fa fb)):=kf (Q0 d) Q1 g f e
theorem NG(f:FE X a fa)(e:FE X b fb)(d:Uw .In b=D:=by lk):FT X (.Compare a [.In] [b] pos) (fB (R ĵ fa fb)):=kf Qg Qh f e d
theorem NH(d:X.A.units+64<cLine)(g:FE X a fa)(f:FE X b fb)(e:Uw .Eq b=D:=by lk):FE X (.Compare a [.Eq] [b] pos) (R Þ fa fb):=lJ (GY d) G0 g f e
theorem NI(f:FE X a fa)(e:FE X b fb)(d:Uw .Lt b=D:=by lk):FE X (.Compare a [.Lt] [b] pos) (R G' fa fb):=lJ LO LP f e d
theorem NJ(f:FE X a fa)(e:FE X b fb)(d:Uw .LtE b=D:=by lk):FE X (.Compare a [.LtE] [b] pos) (R Ļ fa fb):=lJ QE QF f e d
theorem NK(f:FE X a fa)(e:FE X b fb)(d:Uw .Gt b=D:=by lk):FE X (.Compare a [.Gt] [b] pos) (R ņ fa fb):=lJ KQ (LD _) f e d
theorem NL(f:FE X a fa)(e:FE X b fb)(d:Uw .Is b=D:=by lk):FE X (.Compare a [.Is] [b] pos) (R Ď fa fb):=lJ EC LF f e d
theorem IY(f:FE X a fa)(e:FE X b fb)(d:Uw .IsNot b=D:=by lk):FE X (.Compare a [.IsNot] [b] pos) (R oE fa fb):=lJ yo EQ f e d
theorem NM(f:FE X a fa)(e:FE X b fb)(d:Uw .In b=D:=by lk):FE X (.Compare a [.In] [b] pos) (R ĵ fa fb):=lJ Qg Qh f e d
theorem AB(f:FE X a fa)(e:FE X b fb)(d:Uw .NotIn b=D:=by lk):FE X (.Compare a [.NotIn] [b] pos) (R vx fa fb):=lJ GN GO f e d
theorem NN(h:X.mg "isinstance"=U)(g:X.mg "int"=U)(j:FE X a fa)(i:X.env.kindOf (b_ "isinstance")=Z .globalImplicit:=by lk)(f:X.env.kindOf (b_ "int")=Z .globalImplicit:=by lk)(d:k_ [a,.Name (b_ "int") pt] X.env=(D,eval a X.env)::k_ [.Name (b_ "int") pt] X.env:=by lk)(b:k_ [.Name (b_ "int") pt] X.env=(D,eval (.Name (b_ "int") pt) X.env)::k_ [] X.env:=by lk)(e:(UH pos (k_ [.Name (b_ "int") pt] X.env)).any (·.1)=D:=by lk):FE X (.Call (.Name "isinstance" p) [a,.Name (b_ "int") pt] [] pos) (f1 (j8 rT) fa):=vz (T:="int") Hw Mi (by decide+kernel) (by lk) i h f g j d b e
theorem NO(h:X.mg "isinstance"=U)(g:X.mg "str"=U)(j:FE X a fa)(i:X.env.kindOf (b_ "isinstance")=Z .globalImplicit:=by lk)(f:X.env.kindOf (b_ "str")=Z .globalImplicit:=by lk)(d:k_ [a,.Name (b_ "str") pt] X.env=(D,eval a X.env)::k_ [.Name (b_ "str") pt] X.env:=by lk)(b:k_ [.Name (b_ "str") pt] X.env=(D,eval (.Name (b_ "str") pt) X.env)::k_ [] X.env:=by lk)(e:(UH pos (k_ [.Name (b_ "str") pt] X.env)).any (·.1)=D:=by lk):FE X (.Call (.Name "isinstance" p) [a,.Name (b_ "str") pt] [] pos) (f1 (j8 rK) fa):=vz (T:="str") GT LL (by decide+kernel) (by lk) i h f g j d b e
theorem DK(h:X.mg "isinstance"=U)(g:X.mg "tuple"=U)(j:FE X a fa)(i:X.env.kindOf (b_ "isinstance")=Z .globalImplicit:=by lk)(f:X.env.kindOf (b_ "tuple")=Z .globalImplicit:=by lk)(d:k_ [a,.Name (b_ "tuple") pt] X.env=(D,eval a X.env)::k_ [.Name (b_ "tuple") pt] X.env:=by lk)(b:k_ [.Name (b_ "tuple") pt] X.env=(D,eval (.Name (b_ "tuple") pt) X.env)::k_ [] X.env:=by lk)(e:(UH pos (k_ [.Name (b_ "tuple") pt] X.env)).any (·.1)=D:=by lk):FE X (.Call (.Name "isinstance" p) [a,.Name (b_ "tuple") pt] [] pos) (f1 (j8 uo) fa):=vz (T:="tuple") GU Ce (by decide+kernel) (by lk) i h f g j d b e
theorem IZ(h:X.mg "isinstance"=U)(g:X.mg "bool"=U)(j:FE X a fa)(i:X.env.kindOf (b_ "isinstance")=Z .globalImplicit:=by lk)(f:X.env.kindOf (b_ "bool")=Z .globalImplicit:=by lk)(d:k_ [a,.Name (b_ "bool") pt] X.env=(D,eval a X.env)::k_ [.Name (b_ "bool") pt] X.env:=by lk)(b:k_ [.Name (b_ "bool") pt] X.env=(D,eval (.Name (b_ "bool") pt) X.env)::k_ [] X.env:=by lk)(e:(UH pos (k_ [.Name (b_ "bool") pt] X.env)).any (·.1)=D:=by lk):FE X (.Call (.Name "isinstance" p) [a,.Name (b_ "bool") pt] [] pos) (f1 (j8 gm) fa):=vz (T:="bool") Cc GX (by decide+kernel) (by lk) i h f g j d b e
theorem pY(a:FE X o fo)(b:FA X (e::es) ga)(h:ű X o "startswith" e es apos cpos:=by exact⟨by lk,by lk,by lk,by lk,by lk⟩):FE X (.Call (.Attribute o "startswith" apos) (e::es) [] cpos) (fM (rL UO) fo ga):=su PySem.F.slot_str_startswith PySem.F.type_str_startswith Qj EV a b h
theorem uE(a:FE X o fo)(b:FA X (e::es) ga)(h:ű X o "endswith" e es apos cpos:=by exact⟨by lk,by lk,by lk,by lk,by lk⟩):FE X (.Call (.Attribute o "endswith" apos) (e::es) [] cpos) (fM (rL Y7) fo ga):=su PySem.F.slot_str_endswith PySem.F.type_str_endswith Qk EV a b h
theorem DM(a:FE X o fo)(b:FA X (e::es) ga)(h:ű X o "split" e es apos cpos:=by exact⟨by lk,by lk,by lk,by lk,by lk⟩):FE X (.Call (.Attribute o "split" apos) (e::es) [] cpos) (fM (iV) fo ga):=su Yb PySem.F.type_str_split Cf Hb a b h
theorem I0(a:FE X o fo)(b:FA X (e::es) ga)(h:ű X o "join" e es apos cpos:=by exact⟨by lk,by lk,by lk,by lk,by lk⟩):FE X (.Call (.Attribute o "join" apos) (e::es) [] cpos) (fM (Cg) fo ga):=su PySem.F.slot_str_join PySem.F.type_str_join Hc LR a b h
theorem sK(a:FE X o fo)(b:FA X (e::es) ga)(h:ű X o "partition" e es apos cpos:=by exact⟨by lk,by lk,by lk,by lk,by lk⟩):FE X (.Call (.Attribute o "partition" apos) (e::es) [] cpos) (fM (pN) fo ga):=su ZT PySem.F.type_str_partition Hd LU a b h
theorem DN(a:FE X o fo)(b:FA X (e::es) ga)(h:ű X o "strip" e es apos cpos:=by exact⟨by lk,by lk,by lk,by lk,by lk⟩):FE X (.Call (.Attribute o "strip" apos) (e::es) [] cpos) (fM (mL) fo ga):=su PySem.F.slot_str_strip PySem.F.type_str_strip Cv Hl a b h
theorem DO(a:FE X o fo)(b:FA X (e::es) ga)(h:ű X o "rfind" e es apos cpos:=by exact⟨by lk,by lk,by lk,by lk,by lk⟩):FE X (.Call (.Attribute o "rfind" apos) (e::es) [] cpos) (fM (Pc acE) fo ga):=su PySem.F.slot_str_rfind PySem.F.type_str_rfind Cd LK a b h
theorem NP(a:FE X o fo)(b:FA X (e::es) ga)(h:ű X o "index" e es apos cpos:=by exact⟨by lk,by lk,by lk,by lk,by lk⟩):FE X (.Call (.Attribute o "index" apos) (e::es) [] cpos) (fM Mb fo ga):=su PySem.F.slot_str_index PySem.F.type_str_index Mc Qv a b h
theorem dN{x:Str}(h:FE X (.Name x p) fa):FE X (.Name x p) fa:=h
theorem dC{k:Const}{n:Nat}(h:FE X (.Constant k n p) fa):FE X (.Constant k n p) fa:=h
theorem dA(h:FA X es ga):FA X es ga:=h
theorem dK{x:Str}{a:List Wl}(h:FE X (.Call (.Name x p) es a pos) fa):FE X (.Call (.Name x p) es a pos) fa:=h
theorem dM{x:Str}{a:List Wl}(h:FE X (.Call (.Attribute o x p) es a pos) fa):FE X (.Call (.Attribute o x p) es a pos) fa:=h
theorem dB{d:Operator}(h:FE X (.BinOp a d b pos) fa):FE X (.BinOp a d b pos) fa:=h
theorem dQ{b:List M'}(h:FE X (.Compare a b es pos) fa):FE X (.Compare a b es pos) fa:=h
theorem dT{fb:è}(h:FT X a fb):FT X a fb:=h
theorem dW{fb:è}(h:FW X a fb):FW X a fb:=h
theorem dE(h:FE X a fa):FE X a fa:=h
theorem dSs{a:List U8}{f:Ù}(h:ġ X a f):ġ X a f:=h
theorem dS{a:U8}{f:Ù}(h:FS X a f):FS X a f:=h
end
local macro_rules|`(tactic|walk_at"x")=>`(tactic|(first
 |with_reducible((fail_if_success(fail_if_success refine dN ?_));first|exact PZ _ (by lk) (by kernel_rfl!)|exact P6 _ (by lk) (by kernel_rfl!)|exact QS (by room) (by kernel_rfl!)|exact QT (by room) (by kernel_rfl!))|with_reducible((fail_if_success(fail_if_success refine dC ?_));first|exact Lc|exact Le|exact P7|exact Ld)|with_reducible((fail_if_success(fail_if_success refine dA ?_));first|exact yH|refine ui ?_ ?_)|with_reducible((fail_if_success(fail_if_success refine dK ?_));first|refine Dd (by room) (by room) (by kernel_rfl!) ?_|refine zZ (by room) (by room) (by kernel_rfl!) (by lk) ?_|refine zr ?_ (by lk) (ĳ (by lk)) ?_ (ĳ (by lk)) ?_ ?_|refine LH (ĳ (by lk)) ?_ ?_|refine Ci (ĳ (by lk)) ?_ ?_|refine CS (ĳ (by lk)) ?_ ?_|refine HJ (ĳ (by lk)) ?_ ?_|refine LI (by lk) (ĳ (by lk)) ?_ ?_|refine MB (by lk) (ĳ (by lk)) ?_ ?_|refine Ml (by lk) (ĳ (by lk)) ?_ ?_|refine NN ?_ ?_ ?_|refine NO ?_ ?_ ?_|refine DK ?_ ?_ ?_|refine IZ ?_ ?_ ?_)|with_reducible((fail_if_success(fail_if_success refine dM ?_));first|refine pY ?_ ?_|refine uE ?_ ?_|refine DM ?_ ?_|refine I0 ?_ ?_|refine sK ?_ ?_|refine DN ?_ ?_|refine DO ?_ ?_|refine NP ?_ ?_|refine Ck ?_ ?_|refine Aq (by room) (by room) (by kernel_rfl!) (by lk) ?_|refine AA (by room) (by room) (by kernel_rfl!) ?_)|with_reducible((fail_if_success(fail_if_success refine dB ?_));first|refine Nu ?_ ?_|refine Nv ?_ ?_|refine Nw ?_ ?_|refine Nx ?_ ?_|refine Ny ?_ ?_|refine IV ?_ ?_|refine Nz ?_ ?_)|with_reducible((fail_if_success(fail_if_success refine dQ ?_));first|refine NH ?_ ?_ ?_|refine NI ?_ ?_|refine NJ ?_ ?_|refine NK ?_ ?_|refine NL ?_ ?_|refine IY ?_ ?_|refine NM ?_ ?_|refine AB ?_ ?_)|with_reducible((fail_if_success(fail_if_success refine dT ?_));first|refine NA ?_ ?_ ?_|refine NB ?_ ?_ ?_|refine NC ?_ ?_|refine ND ?_ ?_|refine NE ?_ ?_|refine IW ?_ ?_|refine IX ?_ ?_ ?_|refine NF ?_ ?_ ?_|refine NG ?_ ?_|refine FW.ft (EJ ?_ ?_)|refine FW.ft (Lh ?_ ?_)|refine Li ?_|refine Lf ?_)|with_reducible((fail_if_success(fail_if_success refine dW ?_));first|refine EJ ?_ ?_|refine Lh ?_ ?_|refine GG ?_|refine Lg ?_)|with_reducible((fail_if_success(fail_if_success refine dE ?_));first|refine MQ ?_ ?_|refine Lo ?_|refine Ln ?_|refine Lj ?_|refine Lk ?_ ?_|refine P8 ?_ ?_|refine Ll ?_|refine LC ?_|refine P9 ?_ ?_ ?_|refine LG ?_ ?_ ?_|refine Hm ?_ ?_ ?_|refine QU ?_ ?_ ?_|refine QX ?_ ?_ ?_|refine Iy (by room) ?_)|with_reducible((fail_if_success(fail_if_success refine dSs ?_));first|exact GH|refine Al ?_ ?_ ?_|refine yI ?_|refine Dg ?_ ?_|refine B4 ?_ ?_)|with_reducible((fail_if_success(fail_if_success refine dS ?_));first|refine EK ?_|refine Qb ?_ ?_ ?_|refine GI ?_|refine QW ?_ ?_ ?_ (by kernel_rfl!)|refine HX ?_|refine LZ (by lk) ?_ ?_|refine HZ ?_ ?_ ?_|refine Dh ?_ ?_ ?_|refine Cr _ (by with_unfolding_all exact č.xc (by assumption) _ (by decide)) (by lk) (by with_unfolding_all exact CA.c (by assumption) (by decide) rfl) (by lk) (by lk) (ĳ (by lk)) ?_)|with_reducible first|exact GP|refine GQ ?_|exact De|refine Df ?_|intro _ _ _ _|refine yK (ĳ (by lk)) ?_ ?_|refine yL (ĳ (by lk)) ?_ ?_|refine Ls ?_|refine Cp (ĳ (by lk)) ?_ ?_|refine HH (ĳ (by lk)) ?_ ?_|refine FI.toG ?_|refine Iq ?_ ?_ ?_|refine Io ?_|refine Ir ?_ ?_ ?_|refine Iu ?_ ?_ ?_|refine An (by room) (by room) (by kernel_rfl!) ?_ ?_|refine Ao (by room) (by room) (by room) (by kernel_rfl!)|refine Iv ?_ ?_|refine Q5 ?_|refine Di ?_|exact LX|exact Ht|refine Hu ?_|refine CF ?_ ?_|refine Mf ?_|refine Me ?_ ?_ ?_|refine QC (by lk) ?_ ?_ ?_|refine Ib ?_ (lu (by lk) (by lk) (by lk) (by lk))|refine CQ (by lk) (lu (by lk) (by lk) (by lk) (by lk)) ?_ ?_|refine HY ?_|refine Ia ?_ ?_ ?_
 |assumption|exact MA.no (by assumption) (by lk)|exact Ü.units (by assumption)|exact Ü.units0 (by assumption)|exact PassesOwn.never|exact PassesOwn.leaving|with_reducible first|exact IG|refine IH ?_|refine DC ?_ ?_|refine IS ?_|refine II ?_|refine Nj ?_|refine Q9 ?_ ?_ ?_|refine IU ?_ ?_ ?_ ?_|refine IT (by room) ?_ ?_|refine Nk ?_|refine Iz ?_|refine IQ (lu (by lk) (by lk) (by lk) (by lk))|refine IR (by room) ?_|exact Na|refine IB ?_ ?_|refine Az (by room) (by room) (by kernel_rfl!) (by lk) ?_|refine DF (by room) (by room) (by kernel_rfl!) (by lk) ?_ ?_|refine DE (by room) (by room) (by kernel_rfl!) (by lk) ?_|refine DG (by room) (by room) (by lk) ?_|refine Nf ?_ ?_|refine Nh ?_|refine Nd ?_|refine DH ?_ ?_|refine Np ?_ ?_ ?_|refine Nq ?_ ?_|refine Nr ?_ ?_ ?_|refine Nt ?_ ?_ ?_|refine IA ?_|refine UW.ut (Nc ?_ ?_)|refine Nc ?_ ?_|refine Nb ?_|refine Nn 5 _ (by lk) (by lk) (by lk) (ĳ (by lk)) (by with_unfolding_all exact CA.c (c:=5) (by assumption) (by decide) rfl) (by with_unfolding_all exact(č.at_ (by assumption) 5 (by decide)).2.1) (by with_unfolding_all exact(č.at_ (by assumption) 5 (by decide)).1) (by with_unfolding_all exact(č.at_ (by assumption) 5 (by decide)).2.2.2.2.1) (by lk) ?_ ?_|intro _ _)<;>walk_at"x")
local macro_rules|`(tactic|fin2)=>`(tactic|(intros;(conv=>arg 2;whnf);walk_at"x"))
def CC:HW:=[cN "all",cN "any",cN "bool",cN "enumerate",cN "int",cN "isinstance",cN "len",cN "list",cN "min",cN "range",cN "set",cN "sorted",cN "str",cN "tuple",cN "zip",cI "ASK_HOUSE" 1,cI "ASK_ORIGIN" 3,cI "ASK_PARTS" 4,cI "ASK_PATH" 2,cI "ASK_SAFE" 0,cS "FIGURES" "0123456789",cI "GIVEN_HOUSE" 2,cI "GIVEN_LASTS" 5,cI "GIVEN_NAME" 0,cI "GIVEN_PARTS" 8,cI "GIVEN_PATH" 3,cI "GIVEN_REACH" 7,cI "GIVEN_SAFE" 6,cI "GIVEN_UNTIL" 4,cI "GIVEN_WORTH" 1,cS "LABEL_SIGNS" "abcdefghijklmnopqrstuvwxyz0123456789-",cI "LAST_MOMENT" 9999,cI "LONGEST_LABEL" 8,cI "LONGEST_NOTE_NAME" 10,cI "LONGEST_PATH" 20,cI "LONGEST_WORTH" 12,cI "MOST_FIGURES" 4,cI "MOST_LABELS" 5,cI "MOST_NOTES" 20,cI "MOST_RULES" 8,cI "NOTE_ENDS" 5,cI "NOTE_EXACT" 3,cI "NOTE_HOUSE" 2,cI "NOTE_MADE" 8,cI "NOTE_NAME" 0,cS "NOTE_NAME_SIGNS" "abcdefghijklmnopqrstuvwxyzABCDEFGHIJKLMNOPQRSTUVWXYZ0123456789-_",cI "NOTE_PARTS" 10,cI "NOTE_PATH" 4,cI "NOTE_REACH" 7,cI "NOTE_SAFE" 6,cI "NOTE_USED" 9,cI "NOTE_WORTH" 1,cS "NO_WORTH_SIGNS" ";,=",cS "PATH_SIGNS" "abcdefghijklmnopqrstuvwxyz0123456789-_./"]
section
variable{P:n_}{w:xy}{K:d_}{mg:Str->Option B}{base h:N_}{f:O}{cls:Nat->O}{CJ:O}{C:O}(ck:CK K 1 C)(XI:K.In h)(Gn:h.Ns C_ mg)(M:MA mg CC)(xa:č K [0,1,2,3,4,5,6,8] cls CJ)(ca:CA K mg cls CJ [0,1,2,3,4,5,6,8] 9)
include XI Gn M xa ca ck
noncomputable def TO0:Iw:=[]
noncomputable def TV0:nW:=[]
noncomputable def TW0:nW:=[]
noncomputable def T0:cq:=[]
noncomputable def TE0:cq:=[]
def jf:Ù:=(aN (br (cQ (fB (f1 (j8 rK) (Y 0)))) (aO (fC (.bl D))) ë) (aN (br (Ċ (fB (R G' (â fU (aq (Y 0))) (Y 2))) (fB (R ņ (â fU (aq (Y 0))) (Y 3)))) (aO (fC (.bl D))) ë) (aO (â pL (aq (du [("signs",1)] (gl (Y 0)) U (R ĵ (Y 0) (Y 1))))))))
def dJ:Ö:=bR 4 jf
def T1:cq:=("is_text_of",1,["thing","signs","least","most"],dJ)::T0
theorem pZ(A:Af K "is_text_of" (Ó 11) f)(t:HA P w K mg base T0):HA P w K mg base T1:=aB (aS XI Gn ["thing","signs","least","most"] ["thing","signs","least","most"] jf A aK (by delta jf;fin2)) t
def lz:Ù:=(aN (br (cQ (fB (ag dJ 4 (q8 (Y 0) (Ð "abcdefghijklmnopqrstuvwxyz0123456789-") (X 1) (X 8))))) (aO (fC (.bl D))) ë) (aO (jS (Pa (fM (rL UO) (Y 0) (aq (Ð "-")))) (Pa (fM (rL Y7) (Y 0) (aq (Ð "-")))))))
def o7:Ö:=bR 1 lz
def T2:cq:=("is_label",2,["thing"],o7)::T1
theorem uF(A:Af K "is_label" (Ó 20) f)(t:HA P w K mg base T1):HA P w K mg base T2:=aB (aS XI Gn ["thing"] ["thing"] lz A aK (by delta lz;fin2)) t
def mX:Ù:=(aN (br (cQ (fB (f1 (j8 rK) (Y 0)))) (aO (fC (.bl D))) ë) (aN (cG 1 (fM (iV) (Y 0) (aq (Ð ".")))) (aN (br (Ċ (fB (R ņ (â fU (aq (Y 1))) (X 5))) (cQ (fB (â pL (aq (du [] (gl (Y 1)) U (ag o7 1 (aq (Y 0))))))))) (aO (fC (.bl D))) ë) (aO (Pa (ag dJ 4 (q8 (R Î (Y 1) (f1 LB (X 1))) (Ð "0123456789") (X 1) (X 8))))))))
def bH:Ö:=bR 2 mX
def T3:cq:=("is_name",3,["thing"],bH)::T2
theorem xt(A:Af K "is_name" (Ó 21) f)(t:HA P w K mg base T2):HA P w K mg base T3:=aB (aS XI Gn ["thing","parts"] ["thing"] mX A aK (by delta mX;fin2)) t
def mY:Ù:=(aN (br (cQ (fB (f1 (j8 rK) (Y 0)))) (aO (fC (.bl D))) ë) (aN (br (fB (fM (rL UO) (Y 0) (aq (Ð "*.")))) (aO (ag bH 1 (aq (xS (Y 0) (eZ (X 2)) ii)))) ë) (aN (br (fB (fM (rL UO) (Y 0) (aq (Ð "!")))) (aO (jS (R ĵ (Ð ".") (Y 0)) (ag bH 1 (aq (xS (Y 0) (eZ (X 1)) ii))))) ë) (aO (ag bH 1 (aq (Y 0)))))))
def sL:Ö:=bR 1 mY
def T4:cq:=("is_rule",4,["thing"],sL)::T3
theorem xu(A:Af K "is_rule" (Ó 22) f)(t:HA P w K mg base T3):HA P w K mg base T4:=aB (aS XI Gn ["thing"] ["thing"] mY A aK (by delta mY;fin2)) t
def lA:Ù:=(aN (br (Ċ (cQ (fB (f1 (j8 uo) (Y 0)))) (fB (R ņ (â fU (aq (Y 0))) (X 8)))) (aO (fC (.bl D))) ë) (aN (br (cQ (fB (â pL (aq (du [] (gl (Y 0)) U (ag sL 1 (aq (Y 0)))))))) (aO (fC (.bl D))) ë) (aO (â pL (aq (du [("thing",0)] (λa=>Ø ((bJ (X 1) (â fU (aq (Y 0)))) a) BF) U (R G' (R Î (Y 1) (R uj (Y 0) (X 1))) (R Î (Y 1) (Y 0)))))))))
def cj:Ö:=bR 1 lA
def T5:cq:=("is_table",5,["thing"],cj)::T4
theorem uG(A:Af K "is_table" (Ó 23) f)(t:HA P w K mg base T4):HA P w K mg base T5:=aB (aS XI Gn ["thing"] ["thing"] lA A aK (by delta lA;fin2)) t
def ez:Ù:=(br (cQ (fB (ag cj 1 (aq (Y 0))))) (gp 1 (Ð "this is no table")) ë)
def aY:Ö:=gJ 1 ez
def TE1:cq:=("need_table",6,["thing"],aY)::TE0
theorem p0(A:Af K "need_table" (Ó 25) f)(t:HA P w K mg base T5)(a:ý P w K mg base TE0):ý P w K mg base TE1:=bt (cg XI Gn ["thing"] ["thing"] ez A aK (by delta ez;fin2)) a
def cF:cu:=(eV (jI (aC (aG aY 1 (aq (Y 1))))) (eV (tQ 1 0 (cr 0) (aC (Y 1))) (eV (tQ 1 1 (cr 0) (aC (dH bQ))) (eV (tQ 1 2 (cr 0) (DB el)) (tQ 1 3 (cr 0) (DB el))))))
def bE:ć:=mi 2 cF
theorem lB(A:∃b,ļ K "__init__" "Desk.__init__" (bx (Ó 121) 0) f b)(a:Mk K C f)(d:ý P w K mg base TE1):Kl P w K mg base 1 C 7 1 bE:=IP XI Gn ck a ["self","table"] ["self","table"] cF A aK (by delta cF;fin2)
def fI:cu:=(eV (ĩ (ei (fB (R Þ (Y 1) (gK bQ)))) (Q8 (gp 8 (Ð "there is no such step"))) sJ) (eV (lP 3 (Ng (cr 1))) (eV (jI (IF (cr 2) (aT (aC (dH (bJ (R Î (Y 3) (X 0)) (f1 (jG 1 1) (Y 0))))) el))) (eV (tQ 1 1 (cr 0) (aC (R Î (Y 3) (X 1)))) (jO (aC (R Î (Y 3) (X 0))))))))
def gT:ć:=mi 4 fI
def TV1:nW:=("move",1,2,gT)::TV0
theorem p8(A:Am K C "Desk.move" "move" (bx (Ó 121) 10) f)(a:ę P w K mg base 1 C TV0):ę P w K mg base 1 C TV1:=fw (fz ck ["self","source","target","step"] ["self","source","target"] fI A aK (by delta fI;fin2)) a
def fJ:cu:=(jO (cO 1 gT 2 (cr 0) (aT (BG 1 2 (cr 0)) (aT (BG 1 3 (cr 0)) el))))
def bV:ć:=mi 1 fJ
def TV2:nW:=("back",2,0,bV)::TV1
theorem p9(A:Am K C "Desk.back" "back" (bx (Ó 121) 8) f)(a:ę P w K mg base 1 C TV1):ę P w K mg base 1 C TV2:=fw (fz ck ["self"] ["self"] fJ A aK (by delta fJ;fin2)) a
def eC:cu:=(jO (cO 1 gT 2 (cr 0) (aT (BG 1 3 (cr 0)) (aT (BG 1 2 (cr 0)) el))))
def fW:ć:=mi 1 eC
def TV3:nW:=("forth",2,0,fW)::TV2
theorem nX(A:Am K C "Desk.forth" "forth" (bx (Ó 121) 9) f)(a:ę P w K mg base 1 C TV2):ę P w K mg base 1 C TV3:=fw (fz ck ["self"] ["self"] eC A aK (by delta eC;fin2)) a
def iJ:Ù:=(aO (f1 (jG 1 1) (Y 0)))
def ak:Ö:=gJ 1 iJ
def TO1:Iw:=("notes",1,0,ak)::TO0
theorem qc(A:Am K C "Desk.notes" "notes" (bx (Ó 121) 1) f)(a:ŕ P w K mg base 1 C TO0):ŕ P w K mg base 1 C TO1:=v8 (Ar ck ["self"] ["self"] iJ A aK (by delta iJ;fin2)) a
def fX:Ù:=(aO (dH (bJ (â fU (aq (f1 (jG 1 2) (Y 0)))) (â fU (aq (f1 (jG 1 3) (Y 0)))))))
def aI:Ö:=gJ 1 fX
def TO2:Iw:=("steps",1,0,aI)::TO1
theorem qd(A:Am K C "Desk.steps" "steps" (bx (Ó 121) 11) f)(a:ŕ P w K mg base 1 C TO1):ŕ P w K mg base 1 C TO2:=v8 (Ar ck ["self"] ["self"] fX A aK (by delta fX;fin2)) a
def fK:cu:=(eV (lP 1 (xq 1 bE 1 (aT (aC (f1 (jG 1 0) (Y 0))) el))) (eV (tQ 1 1 (cr 1) (aC (f1 (jG 1 1) (Y 0)))) (eV (tQ 1 2 (cr 1) (sI (aq (f1 (jG 1 2) (Y 0))))) (eV (tQ 1 3 (cr 1) (sI (aq (f1 (jG 1 3) (Y 0))))) (jO (cr 1))))))
def gU:ć:=mi 2 fK
def TV4:nW:=("twin",10,0,gU)::TV3
theorem qe(A:Am K C "Desk.twin" "twin" (bx (Ó 121) 12) f)(a:ę P w K mg base 1 C TV3)(b:Kl P w K mg base 1 C 7 1 bE):ę P w K mg base 1 C TV4:=fw (fz ck ["self","other"] ["self"] fK A aK (by delta fK;fin2)) a
def cT:cu:=(eV (jI (IF (BG 1 2 (cr 0)) (aT (aC (dH (bJ (Y 1) (f1 (jG 1 1) (Y 0))))) el))) (eV (tQ 1 3 (cr 0) (DB el)) (tQ 1 1 (cr 0) (aC (Y 2)))))
def cp:ć:=mi 3 cT
def TV5:nW:=("do_step",1,2,cp)::TV4
theorem lV(A:Am K C "Desk.do_step" "do_step" (bx (Ó 121) 2) f)(a:ę P w K mg base 1 C TV4):ę P w K mg base 1 C TV5:=fw (fz ck ["self","word","notes"] ["self","word","notes"] cT A aK (by delta cT;fin2)) a
def bI:cu:=(eV (lP 3 (aC (R uj (â fU (aq (f1 (jG 1 1) (Y 0)))) (â fU (aq (Y 2)))))) (eV (jI (cO 1 cp 2 (cr 0) (aT (aC (Y 1)) (aT (aC (Y 2)) el)))) (jO (aC (Y 3)))))
def ci:ć:=mi 4 bI
def TV6:nW:=("do_and_count",2,2,ci)::TV5
theorem jg(A:Am K C "Desk.do_and_count" "do_and_count" (bx (Ó 121) 6) f)(a:ę P w K mg base 1 C TV5):ę P w K mg base 1 C TV6:=fw (fz ck ["self","word","left","gone"] ["self","word","left"] bI A aK (by delta bI;fin2)) a
def iK:Ù:=(aO (Ķ (R Þ (Y 0) (Y 1)) (fM (rL Y7) (Y 0) (aq (R cD (Ð ".") (Y 1))))))
def aE:Ö:=bR 2 iK
def T6:cq:=("lies_within",1,["one","other"],aE)::T5
theorem nY(A:Af K "lies_within" (Ó 26) f)(t:HA P w K mg base T5):HA P w K mg base T6:=aB (aS XI Gn ["one","other"] ["one","other"] iK A aK (by delta iK;fin2)) t
def DP:Ù:=(aO (dH (bS (R Î (Y 0) (X 0)) (R Î (Y 0) (X 2)) (R Î (Y 0) (X 4)))))
def cP:Ö:=bR 1 DP
def T7:cq:=("key",1,["note"],cP)::T6
theorem NQ(A:Af K "key" (Ó 96) f)(t:HA P w K mg base T6):HA P w K mg base T7:=aB (aS XI Gn ["note"] ["note"] DP A aK (by delta DP;fin2)) t
def bW:Ù:=(aN (cG 1 (dc 1 [] (gl (Y 0)) (gN 0) U (ag cP 1 (aq (Y 0))))) (aO (R Þ (â mP (aq (Y 1))) (â fU (aq (Y 1))))))
def cL:Ö:=bR 2 bW
def T8:cq:=("has_no_key_twice",2,["notes"],cL)::T7
theorem jY(A:Af K "has_no_key_twice" (Ó 102) f)(t:HA P w K mg base T7):HA P w K mg base T8:=aB (aS XI Gn ["notes","keys"] ["notes"] bW A aK (by delta bW;fin2)) t
def jh:Ù:=(aO (â pL (aq (du [("notes",0)] (λa=>Ø ((bJ (X 1) (â fU (aq (Y 0)))) a) BF) U (R Ļ (R Î (R Î (Y 1) (R uj (Y 0) (X 1))) (X 8)) (R Î (R Î (Y 1) (Y 0)) (X 8)))))))
def gV:Ö:=bR 1 jh
def T9:cq:=("is_by_made",1,["notes"],gV)::T8
theorem qf(A:Af K "is_by_made" (Ó 101) f)(t:HA P w K mg base T8):HA P w K mg base T9:=aB (aS XI Gn ["notes"] ["notes"] jh A aK (by delta jh;fin2)) t
def ba:Ù:=(aN (br (Ċ (cQ (fB (f1 (j8 rT) (Y 0)))) (fB (f1 (j8 gm) (Y 0)))) (aO (fC (.bl D))) ë) (aO (jS (R Ļ (Y 1) (Y 0)) (R Ļ (Y 0) (Y 2)))))
def aU:Ö:=bR 3 ba
def T10:cq:=("is_whole_number",1,["thing","least","most"],aU)::T9
theorem kA(A:Af K "is_whole_number" (Ó 12) f)(t:HA P w K mg base T9):HA P w K mg base T10:=aB (aS XI Gn ["thing","least","most"] ["thing","least","most"] ba A aK (by delta ba;fin2)) t
def fj:Ù:=(aO (ag aU 3 (bS (Y 0) (X 0) (X 9999))))
def bf:Ö:=bR 1 fj
def T11:cq:=("is_moment",2,["thing"],bf)::T10
theorem sM(A:Af K "is_moment" (Ó 46) f)(t:HA P w K mg base T10):HA P w K mg base T11:=aB (aS XI Gn ["thing"] ["thing"] fj A aK (by delta fj;fin2)) t
def bj:Ù:=(aO (Ķ (R Ď (Y 0) (fC .non)) (ag bf 1 (aq (Y 0)))))
def aD:Ö:=bR 1 bj
def T12:cq:=("is_moment_or_none",3,["thing"],aD)::T11
theorem jJ(A:Af K "is_moment_or_none" (Ó 47) f)(t:HA P w K mg base T11):HA P w K mg base T12:=aB (aS XI Gn ["thing"] ["thing"] bj A aK (by delta bj;fin2)) t
def hZ:Ù:=(aO (ag dJ 4 (q8 (Y 0) (Ð "abcdefghijklmnopqrstuvwxyzABCDEFGHIJKLMNOPQRSTUVWXYZ0123456789-_") (X 1) (X 10))))
def aP:Ö:=bR 1 hZ
def T13:cq:=("is_note_name",2,["thing"],aP)::T12
theorem mZ(A:Af K "is_note_name" (Ó 67) f)(t:HA P w K mg base T12):HA P w K mg base T13:=aB (aS XI Gn ["thing"] ["thing"] hZ A aK (by delta hZ;fin2)) t
def m5:Ù:=(aO (jS (ag dJ 4 (q8 (Y 0) (Ð "abcdefghijklmnopqrstuvwxyz0123456789-_./") (X 1) (X 20))) (fM (rL UO) (Y 0) (aq (Ð "/")))))
def cU:Ö:=bR 1 m5
def T14:cq:=("is_path",2,["thing"],cU)::T13
theorem xx(A:Af K "is_path" (Ó 35) f)(t:HA P w K mg base T13):HA P w K mg base T14:=aB (aS XI Gn ["thing"] ["thing"] m5 A aK (by delta m5;fin2)) t
def lC:Ù:=(aO (Ķ (R Þ (Y 0) (Ð "any")) (R Þ (Y 0) (Ð "near"))))
def fm:Ö:=bR 1 lC
def T15:cq:=("is_reach",1,["thing"],fm)::T14
theorem uH(A:Af K "is_reach" (Ó 69) f)(t:HA P w K mg base T14):HA P w K mg base T15:=aB (aS XI Gn ["thing"] ["thing"] lC A aK (by delta lC;fin2)) t
def iL:Ù:=(aO (jS (f1 (j8 uo) (Y 0)) (R Þ (â fU (aq (Y 0))) (Y 1))))
def bX:Ö:=bR 2 iL
def T16:cq:=("is_tuple_of",1,["thing","parts"],bX)::T15
theorem nZ(A:Af K "is_tuple_of" (Ó 13) f)(t:HA P w K mg base T15):HA P w K mg base T16:=aB (aS XI Gn ["thing","parts"] ["thing","parts"] iL A aK (by delta iL;fin2)) t
def lD:Ù:=(aN (br (Ċ (cQ (fB (f1 (j8 rK) (Y 0)))) (fB (R ņ (â fU (aq (Y 0))) (X 12)))) (aO (fC (.bl D))) ë) (aO (â pL (aq (du [] (gl (Y 0)) U (jS (R Ļ (Ð "!") (Y 0)) (jS (R Ļ (Y 0) (Ð "~")) (R vx (Y 0) (Ð ";,=")))))))))
def bP:Ö:=bR 1 lD
def T17:cq:=("is_worth",1,["thing"],bP)::T16
theorem uI(A:Af K "is_worth" (Ó 68) f)(t:HA P w K mg base T16):HA P w K mg base T17:=aB (aS XI Gn ["thing"] ["thing"] lD A aK (by delta lD;fin2)) t
def kB:Ù:=(aN (br (cQ (fB (ag bX 2 (bJ (Y 0) (X 10))))) (aO (fC (.bl D))) ë) (aN (br (Ċ (cQ (fB (ag bf 1 (aq (R Î (Y 0) (X 8)))))) (cQ (fB (ag bf 1 (aq (R Î (Y 0) (X 9))))))) (aO (fC (.bl D))) ë) (aO (â pL (aq (gK (aR (ag aP 1 (aq (R Î (Y 0) (X 0)))) (aR (ag bP 1 (aq (R Î (Y 0) (X 1)))) (aR (ag bH 1 (aq (R Î (Y 0) (X 2)))) (vt (f1 (j8 gm) (R Î (Y 0) (X 3))) (ag cU 1 (aq (R Î (Y 0) (X 4)))) (ag aD 1 (aq (R Î (Y 0) (X 5)))) (f1 (j8 gm) (R Î (Y 0) (X 6))) (ag fm 1 (aq (R Î (Y 0) (X 7)))) (R Ļ (R Î (Y 0) (X 8)) (R Î (Y 0) (X 9)))))))))))))
def gu:Ö:=bR 1 kB
def T18:cq:=("is_note",4,["thing"],gu)::T17
theorem xz(A:Af K "is_note" (Ó 91) f)(t:HA P w K mg base T17):HA P w K mg base T18:=aB (aS XI Gn ["thing"] ["thing"] kB A aK (by delta kB;fin2)) t
def kG:Ù:=(aN (br (Ċ (cQ (fB (f1 (j8 uo) (Y 0)))) (fB (R ņ (â fU (aq (Y 0))) (X 20)))) (aO (fC (.bl D))) ë) (aN (br (cQ (fB (â pL (aq (du [] (gl (Y 0)) U (ag gu 1 (aq (Y 0)))))))) (aO (fC (.bl D))) ë) (aO (jS (ag gV 1 (aq (Y 0))) (ag cL 1 (aq (Y 0)))))))
def kH:Ö:=bR 1 kG
def T19:cq:=("is_jar",5,["thing"],kH)::T18
theorem AC(A:Af K "is_jar" (Ó 100) f)(t:HA P w K mg base T18):HA P w K mg base T19:=aB (aS XI Gn ["thing"] ["thing"] kG A aK (by delta kG;fin2)) t
def iM:Ù:=(br (cQ (fB (ag kH 1 (aq (Y 0))))) (gp 5 (Ð "this is no jar")) ë)
def bp:Ö:=gJ 1 iM
def TE2:cq:=("need_jar",6,["thing"],bp)::TE1
theorem uJ(A:Af K "need_jar" (Ó 103) f)(t:HA P w K mg base T19)(a:ý P w K mg base TE1):ý P w K mg base TE2:=bt (cg XI Gn ["thing"] ["thing"] iM A aK (by delta iM;fin2)) a
def gW:Ù:=(br (cQ (fB (ag bH 1 (aq (Y 0))))) (gp 0 (Ð "this is no name")) ë)
def fL:Ö:=gJ 1 gW
def TE3:cq:=("need_name",4,["thing"],fL)::TE2
theorem sN(A:Af K "need_name" (Ó 24) f)(t:HA P w K mg base T19)(a:ý P w K mg base TE2):ý P w K mg base TE3:=bt (cg XI Gn ["thing"] ["thing"] gW A aK (by delta gW;fin2)) a
def fN:Ù:=(aN (eW (aG bp 1 (aq (Y 0)))) (aN (eW (aG fL 1 (aq (Y 1)))) (aO (â gO (aq (du [("house",1)] (gl (Y 0)) (Z (cQ (fB (ag aE 2 (bJ (R Î (Y 0) (X 2)) (Y 1)))))) (Y 0)))))))
def fP:Ö:=gJ 2 fN
def TE4:cq:=("forgotten",7,["jar","house"],fP)::TE3
theorem sO(A:Af K "forgotten" (Ó 107) f)(t:HA P w K mg base T19)(a:ý P w K mg base TE3):ý P w K mg base TE4:=bt (cg XI Gn ["jar","house"] ["jar","house"] fN A aK (by delta fN;fin2)) a
def dk:cu:=(jO (cO 1 ci 2 (cr 0) (aT (aC (Ð "forget")) (aT (aC (aG fP 2 (bJ (f1 (jG 1 1) (Y 0)) (Y 1)))) el))))
def dq:ć:=mi 2 dk
def TV7:nW:=("forget",8,1,dq)::TV6
theorem m7(A:Am K C "Desk.forget" "forget" (bx (Ó 121) 5) f)(b:ý P w K mg base TE4)(a:ę P w K mg base 1 C TV6):ę P w K mg base 1 C TV7:=fw (fz ck ["self","house"] ["self","house"] dk A aK (by delta dk;fin2)) a
def al:Ù:=(br (fB (R ņ (â fU (aq (Y 0))) (X 20))) (gp 5 (Ð "these are more notes than a jar has")) ë)
def ah:Ö:=gJ 1 al
def TE5:cq:=("need_no_more_than_a_jar_has",1,["notes"],ah)::TE4
theorem fQ(A:Af K "need_no_more_than_a_jar_has" (Ó 104) f)(a:ý P w K mg base TE4):ý P w K mg base TE5:=bt (cg XI Gn ["notes"] ["notes"] al A aK (by delta al;fin2)) a
def kJ:Ù:=(aN (br (cQ (fB (ag bX 2 (bJ (Y 0) (X 4))))) (aO (fC (.bl D))) ë) (aO (â pL (aq (gK (q8 (f1 (j8 gm) (R Î (Y 0) (X 0))) (ag bH 1 (aq (R Î (Y 0) (X 1)))) (ag cU 1 (aq (R Î (Y 0) (X 2)))) (Ķ (R Ď (R Î (Y 0) (X 3)) (fC .non)) (ag bH 1 (aq (R Î (Y 0) (X 3)))))))))))
def iN:Ö:=bR 1 kJ
def T20:cq:=("is_ask",4,["thing"],iN)::T19
theorem AD(A:Af K "is_ask" (Ó 49) f)(t:HA P w K mg base T19):HA P w K mg base T20:=aB (aS XI Gn ["thing"] ["thing"] kJ A aK (by delta kJ;fin2)) t
def iO:Ù:=(br (cQ (fB (ag iN 1 (aq (Y 0))))) (gp 3 (Ð "this is no ask")) ë)
def cV:Ö:=gJ 1 iO
def TE6:cq:=("need_ask",5,["thing"],cV)::TE5
theorem uK(A:Af K "need_ask" (Ó 50) f)(t:HA P w K mg base T20)(a:ý P w K mg base TE5):ý P w K mg base TE6:=bt (cg XI Gn ["thing"] ["thing"] iO A aK (by delta iO;fin2)) a
def fA:Ù:=(br (cQ (fB (ag bf 1 (aq (Y 0))))) (gp 6 (Ð "this is no moment")) ë)
def bM:Ö:=gJ 1 fA
def TE7:cq:=("need_moment",3,["thing"],bM)::TE6
theorem oa(A:Af K "need_moment" (Ó 48) f)(t:HA P w K mg base T20)(a:ý P w K mg base TE6):ý P w K mg base TE7:=bt (cg XI Gn ["thing"] ["thing"] fA A aK (by delta fA;fin2)) a
def dv:Ù:=(aO (ag dJ 4 (q8 (Y 0) (Ð "0123456789") (X 1) (X 4))))
def dw:Ö:=bR 1 dv
def T21:cq:=("is_written_moment",2,["text"],dw)::T20
theorem jK(A:Af K "is_written_moment" (Ó 72) f)(t:HA P w K mg base T20):HA P w K mg base T21:=aB (aS XI Gn ["text"] ["text"] dv A aK (by delta dv;fin2)) t
def h8:Ù:=(aN (br (fB (R Þ (Y 0) (Ð "safe"))) (aO (dH (bJ (X 6) (fC (.bl L))))) ë) (aN (br (fB (ag fm 1 (aq (Y 0)))) (aO (dH (bJ (X 7) (Y 0)))) ë) (aN (cG 1 (fM (pN) (Y 0) (aq (Ð " ")))) (aN (cG 2 (R Î (Y 1) (X 0))) (aN (cG 3 (R Î (Y 1) (X 2))) (aN (br (mI (fB (R Þ (Y 2) (Ð "for"))) (fB (ag bH 1 (aq (Y 3))))) (aO (dH (bJ (X 2) (Y 3)))) ë) (aN (br (mI (fB (R Þ (Y 2) (Ð "under"))) (fB (ag cU 1 (aq (Y 3))))) (aO (dH (bJ (X 3) (Y 3)))) ë) (aN (br (mI (fB (R Þ (Y 2) (Ð "until"))) (fB (ag dw 1 (aq (Y 3))))) (aO (dH (bJ (X 4) (â Ph (aq (Y 3)))))) ë) (aN (br (mI (fB (R Þ (Y 2) (Ð "lasts"))) (fB (ag dw 1 (aq (Y 3))))) (aO (dH (bJ (X 5) (â Ph (aq (Y 3)))))) ë) (aO (fC .non)))))))))))
def bN:Ö:=bR 4 h8
def T22:cq:=("what_is_told",4,["part"],bN)::T21
theorem ng(A:Af K "what_is_told" (Ó 73) f)(t:HA P w K mg base T21):HA P w K mg base T22:=aB (aS XI Gn ["part","pieces","word","rest"] ["part"] h8 A aK (by delta h8;fin2)) t
def bu:kj:=(gf (gQ 5 (ag bN 1 (aq (Y 4)))) (oIf (fB (R oE (Y 5) (fC .non))) (vO (R Î (Y 5) (X 0)) (R Î (Y 5) (X 1))) Kf))
def eD:Ù:=(aN (br (cQ (fB (f1 (j8 rK) (Y 0)))) (gp 4 (Ð "this is no text")) ë) (aN (cG 1 (dc 1 [] (gl (fM (iV) (Y 0) (aq (Ð ";")))) (gN 0) U (fM (mL) (Y 0) (aq (Ð " "))))) (aN (cG 2 (fM (pN) (R Î (Y 1) (X 0)) (aq (Ð "=")))) (aN (br (Ċ (fB (R Þ (R Î (Y 2) (X 1)) (Ð ""))) (Ċ (cQ (fB (ag aP 1 (aq (R Î (Y 2) (X 0)))))) (cQ (fB (ag bP 1 (aq (R Î (Y 2) (X 2)))))))) (gp 4 (Ð "the first part is no note's name, = and worth")) ë) (y9 3 (aR (R Î (Y 2) (X 0)) (aR (R Î (Y 2) (X 2)) (vt (fC .non) (fC .non) (fC .non) (fC .non) (fC (.bl D)) (Ð "any")))) (gf (za 4 [4,5] (gl (xS (Y 1) (eZ (X 1)) ii)) bu) (y6 3 (â gO (aq (Y 3))))))))))
def aW:Ö:=gJ 6 eD
def TE8:cq:=("read_given",5,["text"],aW)::TE7
theorem qg(A:Af K "read_given" (Ó 74) f)(t:HA P w K mg base T22)(a:ý P w K mg base TE7):ý P w K mg base TE8:=bt (cg XI Gn ["text","parts","first","given","part","told"] ["text"] eD A aK (by delta eD bu;fin2)) a
def bz:Ù:=(aN (eW (aG aY 1 (aq (Y 0)))) (aN (eW (aG bp 1 (aq (Y 1)))) (aN (eW (aG cV 1 (aq (Y 2)))) (aN (cG 5 (aG aW 1 (aq (Y 3)))) (aN (eW (aG bM 1 (aq (Y 4)))) (aO (Y 5)))))))
def ax:Ö:=gJ 6 bz
def TE9:cq:=("read_what_is_given",7,["table","jar","ask","text","now"],ax)::TE8
theorem ji(A:Af K "read_what_is_given" (Ó 109) f)(a:ý P w K mg base TE8):ý P w K mg base TE9:=bt (cg XI Gn ["table","jar","ask","text","now","given"] ["table","jar","ask","text","now"] bz A aK (by delta bz;fin2)) a
def jj:Ù:=(aN (br (fB (R Ď (R Î (Y 0) (X 5)) (fC .non))) (aO (R Î (Y 0) (X 4))) ë) (aO (â Mj (bJ (R cD (Y 1) (R Î (Y 0) (X 5))) (X 9999)))))
def jk:Ö:=bR 2 jj
def T23:cq:=("end_for",1,["given","now"],jk)::T22
theorem xA(A:Af K "end_for" (Ó 94) f)(t:HA P w K mg base T22):HA P w K mg base T23:=aB (aS XI Gn ["given","now"] ["given","now"] jj A aK (by delta jj;fin2)) t
def gz:Ù:=(aN (br (fB (R Ď (R Î (Y 1) (X 2)) (fC .non))) (aO (R Î (Y 0) (X 1))) ë) (aO (R Î (Y 1) (X 2))))
def gA:Ö:=bR 2 gz
def T24:cq:=("house_for",1,["ask","given"],gA)::T23
theorem sP(A:Af K "house_for" (Ó 92) f)(t:HA P w K mg base T23):HA P w K mg base T24:=aB (aS XI Gn ["ask","given"] ["ask","given"] gz A aK (by delta gz;fin2)) t
def eE:Ù:=(aO (R Î (fM (pN) (Y 0) (aq (Ð "."))) (X 2)))
def eI:Ö:=bR 1 eE
def T25:cq:=("behind_first_dot",1,["end"],eI)::T24
theorem jZ(A:Af K "behind_first_dot" (Ó 28) f)(t:HA P w K mg base T24):HA P w K mg base T25:=aB (aS XI Gn ["end"] ["end"] eE A aK (by delta eE;fin2)) t
def dg:Ù:=(aN (cG 1 (fM (iV) (Y 0) (aq (Ð ".")))) (aO (du [("parts",1)] (λa=>Ø ((aq (â fU (aq (Y 1)))) a) xR) U (fM (Cg) (Ð ".") (aq (xS (Y 1) (eZ (Y 0)) ii))))))
def dh:Ö:=bR 2 dg
def T26:cq:=("ends_longest_first",1,["name"],dh)::T25
theorem jm(A:Af K "ends_longest_first" (Ó 27) f)(t:HA P w K mg base T25):HA P w K mg base T26:=aB (aS XI Gn ["name","parts"] ["name"] dg A aK (by delta dg;fin2)) t
def ib:Ù:=(aN (br (fB (R ĵ (Y 1) (Y 0))) (aO (fC (.bl L))) ë) (aO (jS (R ĵ (Ð ".") (Y 1)) (R ĵ (R cD (Ð "*.") (ag eI 1 (aq (Y 1)))) (Y 0)))))
def jP:Ö:=bR 2 ib
def T27:cq:=("is_told_open",2,["table","end"],jP)::T26
theorem nh(A:Af K "is_told_open" (Ó 29) f)(t:HA P w K mg base T26):HA P w K mg base T27:=aB (aS XI Gn ["table","end"] ["table","end"] ib A aK (by delta ib;fin2)) t
def ik:Ù:=(br (fB (R ĵ (R cD (Ð "!") (Y 3)) (Y 0))) (aO (ag eI 1 (aq (Y 3)))) ë)
def il:Ù:=(br (fB (ag jP 2 (bJ (Y 0) (Y 3)))) (aO (Y 3)) ë)
def gB:Ù:=(aN (cG 2 (ag dh 1 (aq (Y 1)))) (aN (Lu 3 [] (gl (Y 2)) ik) (aN (Lu 3 [3] (gl (Y 2)) il) (aO (R Î (Y 2) (f1 LB (X 1)))))))
def cW:Ö:=bR 4 gB
def T28:cq:=("find_open_end",3,["table","name"],cW)::T27
theorem lW(A:Af K "find_open_end" (Ó 30) f)(t:HA P w K mg base T27):HA P w K mg base T28:=aB (aS XI Gn ["table","name","ends","end"] ["table","name"] gB A aK (by delta gB ik il;fin2)) t
def kK:Ù:=(aO (R Þ (ag cW 2 (bJ (Y 0) (Y 1))) (Y 1)))
def gC:Ö:=bR 2 kK
def T29:cq:=("is_open",4,["table","house"],gC)::T28
theorem xB(A:Af K "is_open" (Ó 87) f)(t:HA P w K mg base T28):HA P w K mg base T29:=aB (aS XI Gn ["table","house"] ["table","house"] kK A aK (by delta kK;fin2)) t
def io:Ù:=(aN (cG 3 (R Î (Y 2) (X 2))) (aN (br (fB (R Ď (Y 3) (fC .non))) (aO (fC (.bl L))) ë) (aO (jS (R Þ (Y 3) (R Î (Y 1) (X 1))) (ag gC 2 (bJ (Y 0) (Y 3)))))))
def c6:Ö:=bR 4 io
def T30:cq:=("is_exact",5,["table","ask","given"],c6)::T29
theorem uL(A:Af K "is_exact" (Ó 88) f)(t:HA P w K mg base T29):HA P w K mg base T30:=aB (aS XI Gn ["table","ask","given","house"] ["table","ask","given"] io A aK (by delta io;fin2)) t
def jA:Ù:=(aN (br (cQ (fB (ag bX 2 (bJ (Y 0) (X 8))))) (aO (fC (.bl D))) ë) (aO (â pL (aq (gK (aR (ag aP 1 (aq (R Î (Y 0) (X 0)))) (aR (ag bP 1 (aq (R Î (Y 0) (X 1)))) (vt (Ķ (R Ď (R Î (Y 0) (X 2)) (fC .non)) (ag bH 1 (aq (R Î (Y 0) (X 2))))) (Ķ (R Ď (R Î (Y 0) (X 3)) (fC .non)) (ag cU 1 (aq (R Î (Y 0) (X 3))))) (ag aD 1 (aq (R Î (Y 0) (X 4)))) (ag aD 1 (aq (R Î (Y 0) (X 5)))) (f1 (j8 gm) (R Î (Y 0) (X 6))) (ag fm 1 (aq (R Î (Y 0) (X 7))))))))))))
def ip:Ö:=bR 1 jA
def T31:cq:=("is_given",4,["thing"],ip)::T30
theorem uM(A:Af K "is_given" (Ó 70) f)(t:HA P w K mg base T30):HA P w K mg base T31:=aB (aS XI Gn ["thing"] ["thing"] jA A aK (by delta jA;fin2)) t
def fY:Ù:=(br (cQ (fB (ag ip 1 (aq (Y 0))))) (gp 4 (Ð "this can't be given")) ë)
def c7:Ö:=gJ 1 fY
def Rc:cq:=("need_given",5,["thing"],c7)::TE9
theorem qh(A:Af K "need_given" (Ó 71) f)(t:HA P w K mg base T31)(a:ý P w K mg base TE9):ý P w K mg base Rc:=bt (cg XI Gn ["thing"] ["thing"] fY A aK (by delta fY;fin2)) a
def jn:Ù:=(br (cQ (fB (ag cU 1 (aq (Y 0))))) (gp 2 (Ð "this is no path")) ë)
def lQ:Ö:=gJ 1 jn
def Re:cq:=("need_path",3,["thing"],lQ)::Rc
theorem sQ(A:Af K "need_path" (Ó 36) f)(t:HA P w K mg base T31)(a:ý P w K mg base Rc):ý P w K mg base Re:=bt (cg XI Gn ["thing"] ["thing"] jn A aK (by delta jn;fin2)) a
def ni:Ù:=(aN (eW (aG lQ 1 (aq (Y 0)))) (aN (cG 1 (fM (Pc acE) (Y 0) (aq (Ð "/")))) (aN (br (fB (R Þ (Y 1) (X 0))) (aO (Ð "/")) ë) (aO (xS (Y 0) ii (eZ (Y 1)))))))
def kL:Ö:=gJ 2 ni
def Rf:cq:=("folder",4,["path"],kL)::Re
theorem AE(A:Af K "folder" (Ó 37) f)(a:ý P w K mg base Re):ý P w K mg base Rf:=bt (cg XI Gn ["path","place"] ["path"] ni A aK (by delta ni;fin2)) a
def gD:Ù:=(aN (br (fB (R Ď (R Î (Y 1) (X 3)) (fC .non))) (aO (aG kL 1 (aq (R Î (Y 0) (X 2))))) ë) (aO (R Î (Y 1) (X 3))))
def fq:Ö:=gJ 2 gD
def Rg:cq:=("path_for",5,["ask","given"],fq)::Rf
theorem uN(A:Af K "path_for" (Ó 93) f)(a:ý P w K mg base Rf):ý P w K mg base Rg:=bt (cg XI Gn ["ask","given"] ["ask","given"] gD A aK (by delta gD;fin2)) a
def ic:Ù:=(aN (cG 2 (ag cW 2 (bJ (Y 0) (Y 1)))) (aN (cG 3 (ag dh 1 (aq (Y 1)))) (aN (cG 4 (fML Qn (Y 3) (aq (Y 2)))) (aN (br (fB (R Þ (Y 4) (X 0))) (aO (fC .non)) ë) (aO (R Î (Y 3) (R uj (Y 4) (X 1))))))))
def dr:Ö:=bR 5 ic
def T32:cq:=("find_own_end",4,["table","name"],dr)::T31
theorem nj(A:Af K "find_own_end" (Ó 31) f)(t:HA P w K mg base T31):HA P w K mg base T32:=aB (aS XI Gn ["table","name","end","ends","place"] ["table","name"] ic A aK (by delta ic;fin2)) t
def bc:Ù:=(aN (cG 2 (R Î (Y 1) (X 1))) (aN (cG 3 (R Î (Y 1) (X 3))) (aN (br (Ċ (fB (R Ď (Y 3) (fC .non))) (fB (R Þ (Y 3) (Y 2)))) (aO (fC (.bl L))) ë) (aN (cG 4 (ag dr 2 (bJ (Y 0) (Y 2)))) (aO (jS (R oE (Y 4) (fC .non)) (R Þ (Y 4) (ag dr 2 (bJ (Y 0) (Y 3))))))))))
def aV:Ö:=bR 5 bc
def T33:cq:=("comes_from_near",5,["table","ask"],aV)::T32
theorem kN(A:Af K "comes_from_near" (Ó 51) f)(t:HA P w K mg base T32):HA P w K mg base T33:=aB (aS XI Gn ["table","ask","house","origin","own"] ["table","ask"] bc A aK (by delta bc;fin2)) t
def bT:Ù:=(aN (cG 3 (R Î (Y 2) (X 0))) (aN (br (fB (fM (rL UO) (Y 3) (aq (Ð "safe-")))) (aO (R Î (Y 2) (X 6))) ë) (aN (br (fB (fM (rL UO) (Y 3) (aq (Ð "own-")))) (aO (jS (R Î (Y 2) (X 6)) (jS (ag c6 3 (bS (Y 0) (Y 1) (Y 2))) (R Þ (R Î (Y 2) (X 3)) (Ð "/"))))) ë) (aO (fC (.bl L))))))
def bh:Ö:=bR 4 bT
def T34:cq:=("keeps_its_mark",6,["table","ask","given"],bh)::T33
theorem lE(A:Af K "keeps_its_mark" (Ó 89) f)(t:HA P w K mg base T33):HA P w K mg base T34:=aB (aS XI Gn ["table","ask","given","name"] ["table","ask","given"] bT A aK (by delta bT;fin2)) t
def fD:Ù:=(aN (eW (aG aY 1 (aq (Y 0)))) (aN (eW (aG cV 1 (aq (Y 1)))) (aN (eW (aG c7 1 (aq (Y 2)))) (aN (cG 3 (R Î (Y 2) (X 2))) (aN (br (mI (fB (R oE (Y 3) (fC .non))) (cQ (fB (ag aE 2 (bJ (R Î (Y 1) (X 1)) (Y 3)))))) (aO (Ð "foreign")) ë) (aN (br (mI (fB (R oE (Y 3) (fC .non))) (mI (fB (R ė (Y 3) (R Î (Y 1) (X 1)))) (fB (ag gC 2 (bJ (Y 0) (Y 3)))))) (aO (Ð "open")) ë) (aN (br (mI (fB (R Î (Y 2) (X 6))) (cQ (fB (R Î (Y 1) (X 0))))) (aO (Ð "unsafe")) ë) (aN (br (cQ (fB (ag bh 3 (bS (Y 0) (Y 1) (Y 2))))) (aO (Ð "marked")) ë) (aN (br (mI (fB (R Þ (R Î (Y 2) (X 7)) (Ð "near"))) (cQ (fB (ag aV 2 (bJ (Y 0) (Y 1)))))) (aO (Ð "far")) ë) (aO (fC .non)))))))))))
def bw:Ö:=gJ 4 fD
def Rh:cq:=("why_refused",7,["table","ask","given"],bw)::Rg
theorem og(A:Af K "why_refused" (Ó 90) f)(t:HA P w K mg base T34)(a:ý P w K mg base Rg):ý P w K mg base Rh:=bt (cg XI Gn ["table","ask","given","house"] ["table","ask","given"] fD A aK (by delta fD;fin2)) a
def qi:Ù:=(aN (eW (aG aY 1 (aq (Y 0)))) (aN (eW (aG cV 1 (aq (Y 1)))) (aN (eW (aG c7 1 (aq (Y 2)))) (aN (eW (aG bM 1 (aq (Y 3)))) (aN (br (fB (R oE (aG bw 3 (bS (Y 0) (Y 1) (Y 2))) (fC .non))) (gp 4 (Ð "this may not be given by this ask")) ë) (aO (dH (aR (R Î (Y 2) (X 0)) (aR (R Î (Y 2) (X 1)) (aR (ag gA 2 (bJ (Y 1) (Y 2))) (aR (ag c6 3 (bS (Y 0) (Y 1) (Y 2))) (vt (aG fq 2 (bJ (Y 1) (Y 2))) (ag jk 2 (bJ (Y 2) (Y 3))) (R Î (Y 2) (X 6)) (R Î (Y 2) (X 7)) (Y 3) (Y 3)))))))))))))
def dz:Ö:=gJ 4 qi
def Ri:cq:=("made",8,["table","ask","given","now"],dz)::Rh
theorem Ja(A:Af K "made" (Ó 95) f)(t:HA P w K mg base T34)(a:ý P w K mg base Rh):ý P w K mg base Ri:=bt (cg XI Gn ["table","ask","given","now"] ["table","ask","given","now"] qi A aK (by delta qi;fin2)) a
def uO:Ù:=(aN (cG 2 (dc 1 [("note",1)] (gl (Y 0)) (gN 0) (Z (fB (R Þ (ag cP 1 (aq (Y 0))) (ag cP 1 (aq (Y 1)))))) (Y 0))) (aN (br (fB (R Þ (Y 2) (gK bQ))) (aO (R cw (Y 0) (dH (aq (Y 1))))) ë) (aN (cG 3 (R cw (R cw (lU (Y 1) ii (eZ (X 8))) (dH (aq (R Î (R Î (Y 2) (X 0)) (X 8))))) (lU (Y 1) (eZ (R cw (X 8) (X 1))) ii))) (aO (â gO (aq (du [("note",1),("newer",3)] (gl (Y 0)) U (Ł (fB (R Þ (ag cP 1 (aq (Y 0))) (ag cP 1 (aq (Y 1))))) (Y 2) (Y 0)))))))))
def DQ:Ö:=bR 4 uO
def T35:cq:=("put",2,["jar","note"],DQ)::T34
theorem NR(A:Af K "put" (Ó 108) f)(t:HA P w K mg base T34):HA P w K mg base T35:=aB (aS XI Gn ["jar","note","same","newer"] ["jar","note"] uO A aK (by delta uO;fin2)) t
def iP:Ù:=(aO (jS (R oE (R Î (Y 0) (X 5)) (fC .non)) (R Ļ (R Î (Y 0) (X 5)) (Y 1))))
def bF:Ö:=bR 2 iP
def T36:cq:=("has_ended",1,["note","now"],bF)::T35
theorem sS(A:Af K "has_ended" (Ó 97) f)(t:HA P w K mg base T35):HA P w K mg base T36:=aB (aS XI Gn ["note","now"] ["note","now"] iP A aK (by delta iP;fin2)) t
def cX:Ù:=(aO (â gO (aq (du [("now",1)] (gl (Y 0)) (Z (cQ (fB (ag bF 2 (bJ (Y 0) (Y 1)))))) (Y 0)))))
def bC:Ö:=bR 2 cX
def T37:cq:=("without_ended",2,["notes","now"],bC)::T36
theorem lX(A:Af K "without_ended" (Ó 106) f)(t:HA P w K mg base T36):HA P w K mg base T37:=aB (aS XI Gn ["notes","now"] ["notes","now"] cX A aK (by delta cX;fin2)) t
def jo:Ù:=(aN (br (fB (R Þ (Y 0) (Y 1))) (aO (fC (.bl L))) ë) (aN (br (cQ (fB (fM (rL UO) (Y 0) (aq (Y 1))))) (aO (fC (.bl D))) ë) (aO (Ķ (fM (rL Y7) (Y 1) (aq (Ð "/"))) (R Þ (R Î (Y 0) (â fU (aq (Y 1)))) (Ð "/"))))))
def bY:Ö:=bR 2 jo
def T38:cq:=("lies_under",1,["path","top"],bY)::T37
theorem qj(A:Af K "lies_under" (Ó 38) f)(t:HA P w K mg base T37):HA P w K mg base T38:=aB (aS XI Gn ["path","top"] ["path","top"] jo A aK (by delta jo;fin2)) t
def jp:Ù:=(aN (br (Ċ (cQ (fB (R Î (Y 0) (X 6)))) (Ċ (fB (ag bF 2 (bJ (Y 0) (Y 2)))) (fB (R ė (R Î (Y 0) (X 0)) (R Î (Y 1) (X 0)))))) (aO (fC (.bl D))) ë) (aN (br (mI (cQ (fB (ag aE 2 (bJ (R Î (Y 1) (X 2)) (R Î (Y 0) (X 2)))))) (cQ (fB (ag aE 2 (bJ (R Î (Y 0) (X 2)) (R Î (Y 1) (X 2))))))) (aO (fC (.bl D))) ë) (aO (ag bY 2 (bJ (R Î (Y 1) (X 4)) (R Î (Y 0) (X 4)))))))
def jq:Ö:=bR 3 jp
def T39:cq:=("shadows",2,["old","note","now"],jq)::T38
theorem xC(A:Af K "shadows" (Ó 112) f)(t:HA P w K mg base T38):HA P w K mg base T39:=aB (aS XI Gn ["old","note","now"] ["old","note","now"] jp A aK (by delta jp;fin2)) t
def fu:Ù:=(aN (cG 5 (aG bw 3 (bS (Y 0) (Y 2) (Y 3)))) (aN (br (fB (R oE (Y 5) (fC .non))) (aO (Y 5)) ë) (aN (cG 6 (aG dz 4 (q8 (Y 0) (Y 2) (Y 3) (Y 4)))) (aN (br (mI (cQ (fB (R Î (Y 2) (X 0)))) (fB (â HK (aq (du [("now",4),("note",6)] (gl (Y 1)) U (ag jq 3 (bS (Y 0) (Y 2) (Y 1)))))))) (aO (Ð "shadowed")) ë) (aN (br (fB (ag bF 2 (bJ (Y 6) (Y 4)))) (aO (Ð "gone")) ë) (aO (Ð "kept")))))))
def bq:Ö:=gJ 7 fu
def Rj:cq:=("word_of",9,["table","jar","ask","given","now"],bq)::Ri
theorem xD(A:Af K "word_of" (Ó 111) f)(t:HA P w K mg base T39)(a:ý P w K mg base Ri):ý P w K mg base Rj:=bt (cg XI Gn ["table","jar","ask","given","now","refused","note"] ["table","jar","ask","given","now"] fu A aK (by delta fu;fin2)) a
def c8:Ù:=(aN (cG 5 (aG bq 5 (nR (Y 0) (Y 1) (Y 2) (Y 3) (Y 4)))) (aN (cG 6 (ag bC 2 (bJ (Y 1) (Y 4)))) (aN (br (fB (R Þ (Y 5) (Ð "kept"))) (aO (ag DQ 2 (bJ (Y 6) (aG dz 4 (q8 (Y 0) (Y 2) (Y 3) (Y 4)))))) ë) (aN (br (fB (R Þ (Y 5) (Ð "gone"))) (aN (cG 7 (ag cP 1 (aq (aG dz 4 (q8 (Y 0) (Y 2) (Y 3) (Y 4)))))) (aO (â gO (aq (du [("ended",7)] (gl (Y 6)) (Z (fB (R ė (ag cP 1 (aq (Y 0))) (Y 1)))) (Y 0)))))) ë) (aO (Y 6))))))
def bU:Ö:=gJ 8 c8
def Rk:cq:=("take_in",10,["table","jar","ask","given","now"],bU)::Rj
theorem xE(A:Af K "take_in" (Ó 114) f)(t:HA P w K mg base T39)(a:ý P w K mg base Rj):ý P w K mg base Rk:=bt (cg XI Gn ["table","jar","ask","given","now","word","notes","ended"] ["table","jar","ask","given","now"] c8 A aK (by delta c8;fin2)) a
def iQ:Ù:=(aN (cG 5 (aG ax 5 (nR (Y 0) (Y 1) (Y 2) (Y 3) (Y 4)))) (aN (br (fB (â HK (aq (du [("now",4)] (gl (Y 1)) U (R ņ (R Î (Y 0) (X 9)) (Y 1)))))) (gp 6 (Ð "some note was used later than this moment")) ë) (aN (cG 6 (aG bU 5 (nR (Y 0) (Y 1) (Y 2) (Y 5) (Y 4)))) (aN (eW (aG ah 1 (aq (Y 6)))) (aO (Y 6))))))
def fE:Ö:=gJ 7 iQ
def Rl:cq:=("taken",11,["table","jar","ask","text","now"],fE)::Rk
theorem DR(A:Af K "taken" (Ó 113) f)(a:ý P w K mg base Rk):ý P w K mg base Rl:=bt (cg XI Gn ["table","jar","ask","text","now","given","notes"] ["table","jar","ask","text","now"] iQ A aK (by delta iQ;fin2)) a
def iq:Ù:=(aN (cG 5 (aG ax 5 (nR (Y 0) (Y 1) (Y 2) (Y 3) (Y 4)))) (aO (aG bq 5 (nR (Y 0) (Y 1) (Y 2) (Y 5) (Y 4)))))
def gh:Ö:=gJ 6 iq
def Pl:cq:=("verdict",10,["table","jar","ask","text","now"],gh)::Rl
theorem xF(A:Af K "verdict" (Ó 110) f)(a:ý P w K mg base Rl):ý P w K mg base Pl:=bt (cg XI Gn ["table","jar","ask","text","now","given"] ["table","jar","ask","text","now"] iq A aK (by delta iq;fin2)) a
def cY:cu:=(eV (lP 4 (aC (aG fE 5 (nR (f1 (jG 1 0) (Y 0)) (f1 (jG 1 1) (Y 0)) (Y 1) (Y 2) (Y 3))))) (eV (lP 5 (aC (aG gh 5 (nR (f1 (jG 1 0) (Y 0)) (f1 (jG 1 1) (Y 0)) (Y 1) (Y 2) (Y 3))))) (eV (jI (cO 1 cp 2 (cr 0) (aT (aC (Ð "give")) (aT (aC (Y 4)) el)))) (jO (aC (Y 5))))))
def dL:ć:=mi 6 cY
def TV8:nW:=("give",12,3,dL)::TV7
theorem qk(A:Am K C "Desk.give" "give" (bx (Ó 121) 3) f)(b:ý P w K mg base Pl)(a:ę P w K mg base 1 C TV7):ę P w K mg base 1 C TV8:=fw (fz ck ["self","ask","text","now","notes","word"] ["self","ask","text","now"] cY A aK (by delta cY;fin2)) a
def iR:Ù:=(aO (dH (bJ (R Î (Y 0) (X 9)) (R Î (Y 0) (X 8)))))
def cA:Ö:=bR 1 iR
def T40:cq:=("when_last",1,["note"],cA)::T39
theorem sU(A:Af K "when_last" (Ó 119) f)(t:HA P w K mg base T39):HA P w K mg base T40:=aB (aS XI Gn ["note"] ["note"] iR A aK (by delta iR;fin2)) t
def iu:Ù:=(aN (br (fB (R gtT (ag cA 1 (aq (Y 1))) (ag cA 1 (aq (Y 0))))) (aO (Y 1)) ë) (aO (Y 0)))
def iw:Ö:=bR 2 iu
def T41:cq:=("later_of",2,["mine","its"],iw)::T40
theorem uP(A:Af K "later_of" (Ó 118) f)(t:HA P w K mg base T40):HA P w K mg base T41:=aB (aS XI Gn ["mine","its"] ["mine","its"] iu A aK (by delta iu;fin2)) t
def iy:Ù:=(aO (dH (bJ (R Î (Y 0) (X 8)) (ag cP 1 (aq (Y 0))))))
def dO:Ö:=bR 1 iy
def T42:cq:=("place_of",2,["note"],dO)::T41
theorem uQ(A:Af K "place_of" (Ó 117) f)(t:HA P w K mg base T41):HA P w K mg base T42:=aB (aS XI Gn ["note"] ["note"] iy A aK (by delta iy;fin2)) t
def dP:Ņ:=(Il (ag cP 1 (aq (Y 3))) (vE (Y 3)))
def dR:Ņ:=(Il (ag cP 1 (aq (Y 3))) (oY iw (Ik (ag cP 1 (aq (Y 3))) (Y 3)) (Y 3)))
def jr:Ù:=(aN (eW (aG bp 1 (aq (Y 0)))) (aN (eW (aG bp 1 (aq (Y 1)))) (Ae 2 (Im 3 (Y 0) dP) (Im 3 (Y 1) dR) (M1 4 (oZ dO) (aN (eW (aG ah 1 (aq (Y 4)))) (aO (â gO (aq (Y 4)))))))))
def eM:Ö:=gJ 5 jr
def Pm:cq:=("merged",7,["one","other"],eM)::Pl
theorem AF(A:Af K "merged" (Ó 116) f)(t:HA P w K mg base T42)(a:ý P w K mg base Pl):ý P w K mg base Pm:=bt (cg XI Gn ["one","other","chosen","note","notes"] ["one","other"] jr A aK (by delta jr dP dR;fin2)) a
def cB:cu:=(eV (lP 2 (aC (aG eM 2 (bJ (f1 (jG 1 1) (Y 0)) (Y 1))))) (eV (jI (cO 1 cp 2 (cr 0) (aT (aC (Ð "merge")) (aT (aC (Y 2)) el)))) (jO (aC (â fU (aq (Y 2)))))))
def eP:ć:=mi 3 cB
def TV9:nW:=("merge",8,1,eP)::TV8
theorem oh(A:Am K C "Desk.merge" "merge" (bx (Ó 121) 7) f)(b:ý P w K mg base Pm)(a:ę P w K mg base 1 C TV8):ę P w K mg base 1 C TV9:=fw (fz ck ["self","jar","notes"] ["self","jar"] cB A aK (by delta cB;fin2)) a
def kO:Ù:=(aN (eW (aG bp 1 (aq (Y 0)))) (aN (eW (aG bM 1 (aq (Y 1)))) (aO (ag bC 2 (bJ (Y 0) (Y 1))))))
def kP:Ö:=gJ 2 kO
def SG:cq:=("swept",7,["jar","now"],kP)::Pm
theorem DS(A:Af K "swept" (Ó 105) f)(t:HA P w K mg base T42)(a:ý P w K mg base Pm):ý P w K mg base SG:=bt (cg XI Gn ["jar","now"] ["jar","now"] kO A aK (by delta kO;fin2)) a
def eQ:cu:=(jO (cO 1 ci 2 (cr 0) (aT (aC (Ð "sweep")) (aT (aC (aG kP 2 (bJ (f1 (jG 1 1) (Y 0)) (Y 1)))) el))))
def eU:ć:=mi 2 eQ
def Rm:nW:=("sweep",8,1,eU)::TV9
theorem oj(A:Am K C "Desk.sweep" "sweep" (bx (Ó 121) 4) f)(b:ý P w K mg base SG)(a:ę P w K mg base 1 C TV9):ę P w K mg base 1 C Rm:=fw (fz ck ["self","now"] ["self","now"] eQ A aK (by delta eQ;fin2)) a
def gE:Ù:=(aN (br (fB (R Pd (Y 0) (gK bQ))) (aO (R jM (X 7) (Y 1))) ë) (aO (R cD (R Î (Y 0) (R j7 (Y 1) (â fU (aq (Y 0))))) (R jM (X 6553) (R kg (Y 1) (â fU (aq (Y 0))))))))
def dD:Ö:=bR 2 gE
def T43:cq:=("_law_cell",1,["_law_script","_law_k"],dD)::T42
theorem sV(A:Af K "_law_cell" (Ó 123) f)(t:HA P w K mg base T42):HA P w K mg base T43:=aB (aS XI Gn ["_law_script","_law_k"] ["_law_script","_law_k"] gE A aK (by delta gE;fin2)) t
def dU:Ù:=(aN (cG 3 (R j7 (R cD (R jM (R j7 (ag dD 2 (bJ (Y 0) (Y 1))) (X 2147483563)) (X 69069)) (R jM (X 104723) (R cD (Y 1) (X 1)))) (X 2147483563))) (aN (cG 3 (R j7 (R cD (R jM (Y 3) (Y 3)) (R kg (Y 3) (X 3))) (X 2147483399))) (aO (R j7 (R kg (R j7 (R cD (R jM (Y 3) (Y 3)) (R kg (Y 3) (X 7))) (X 2147483647)) (X 11)) (Y 2)))))
def ac:Ö:=bR 4 dU
def T44:cq:=("_law_drawn",2,["_law_script","_law_k","_law_many"],ac)::T43
theorem ql(A:Af K "_law_drawn" (Ó 124) f)(t:HA P w K mg base T43):HA P w K mg base T44:=aB (aS XI Gn ["_law_script","_law_k","_law_many","_law_cell_here"] ["_law_script","_law_k","_law_many"] dU A aK (by delta dU;fin2)) t
def j4:Ù:=(aN (cG 2 (gK (aR (Ð "a.b") (aR (Ð "b") (vt (Ð "x.a.b") (Ð "y.x.a.b") (Ð "c.uk") (Ð "uk") (Ð "d.c.uk") (Ð "e.d.c.uk")))))) (aN (cG 2 (R cD (Y 2) (gK (vt (Ð "w.ck") (Ð "v.w.ck") (Ð "ck") (Ð "g-1.a.b") (Ð "7.b") (Ð "p.q"))))) (aO (R Î (Y 2) (ag ac 3 (bS (Y 0) (Y 1) (â fU (aq (Y 2)))))))))
def aQ:Ö:=bR 3 j4
def T45:cq:=("_law_name",3,["_law_script","_law_at"],aQ)::T44
theorem sW(A:Af K "_law_name" (Ó 125) f)(t:HA P w K mg base T44):HA P w K mg base T45:=aB (aS XI Gn ["_law_script","_law_at","_law_some"] ["_law_script","_law_at"] j4 A aK (by delta j4;fin2)) t
def j5:Ù:=(aN (cG 2 (gK (aR (Ð "/") (aR (Ð "/x") (aR (Ð "/x/") (vt (Ð "/x/y") (Ð "/xy") (Ð "/x/y/z.q") (Ð "//") (Ð "/-_.9") (Ð "/x/y/"))))))) (aO (R Î (Y 2) (ag ac 3 (bS (Y 0) (Y 1) (â fU (aq (Y 2))))))))
def cC:Ö:=bR 3 j5
def T46:cq:=("_law_path",3,["_law_script","_law_at"],cC)::T45
theorem sX(A:Af K "_law_path" (Ó 127) f)(t:HA P w K mg base T45):HA P w K mg base T46:=aB (aS XI Gn ["_law_script","_law_at","_law_some"] ["_law_script","_law_at"] j5 A aK (by delta j5;fin2)) t
def iz:Ù:=(aN (cG 2 (R Î (gK (bS (fC .non) (ag aQ 2 (bJ (Y 0) (R cD (Y 1) (X 3)))) (ag aQ 2 (bJ (Y 0) (R cD (Y 1) (X 3)))))) (ag ac 3 (bS (Y 0) (R cD (Y 1) (X 2)) (X 3))))) (aO (dH (q8 (R Þ (ag ac 3 (bS (Y 0) (Y 1) (X 2))) (X 0)) (ag aQ 2 (bJ (Y 0) (R cD (Y 1) (X 1)))) (ag cC 2 (bJ (Y 0) (R cD (Y 1) (X 4)))) (Y 2)))))
def iA:Ö:=bR 3 iz
def T47:cq:=("_law_ask",4,["_law_script","_law_at"],iA)::T46
theorem uR(A:Af K "_law_ask" (Ó 128) f)(t:HA P w K mg base T46):HA P w K mg base T47:=aB (aS XI Gn ["_law_script","_law_at","_law_origin"] ["_law_script","_law_at"] iz A aK (by delta iz;fin2)) t
def gX:Ù:=(aN (cG 3 (R Î (gK (aR (Ð "n") (vt (Ð "safe-a") (Ð "own-b") (Ð "N_2") (Ð "m-1") (Ð "safe-") (Ð "n")))) (ag ac 3 (bS (Y 0) (Y 1) (X 7))))) (aN (cG 4 (R Î (gK (nR (Ð "5") (Ð "") (Ð "a!b~") (Ð "x/y?z") (Ð "123456789012"))) (ag ac 3 (bS (Y 0) (R cD (Y 1) (X 1)) (X 5))))) (y9 5 (nR (fC .non) (fC .non) (Y 2) (R Î (fM (iV) (Y 2) (aq (Ð "."))) (f1 LB (X 1))) (ag aQ 2 (bJ (Y 0) (R cD (Y 1) (X 3))))) (gf (CB (Ł (fB (R ĵ (Ð ".") (Y 2))) (xS (Y 2) (eZ (R cD (fM Mb (Y 2) (aq (Ð "."))) (X 1))) ii) (Y 2))) (gf (gQ 6 (R Î (gK (bS (fC .non) (Ð "/") (ag cC 2 (bJ (Y 0) (R cD (Y 1) (X 5)))))) (ag ac 3 (bS (Y 0) (R cD (Y 1) (X 4)) (X 3))))) (gf (gQ 7 (R Î (gK (bS (fC .non) (fC .non) (ag ac 3 (bS (Y 0) (R cD (Y 1) (X 7)) (X 60))))) (ag ac 3 (bS (Y 0) (R cD (Y 1) (X 6)) (X 3))))) (gf (gQ 8 (R Î (gK (bS (fC .non) (fC .non) (ag ac 3 (bS (Y 0) (R cD (Y 1) (X 9)) (X 30))))) (ag ac 3 (bS (Y 0) (R cD (Y 1) (X 8)) (X 3))))) (gf (gQ 9 (R Î (gK (bJ (Ð "any") (Ð "near"))) (ag ac 3 (bS (Y 0) (R cD (Y 1) (X 11)) (X 2))))) (gf (gQ 10 (R Þ (ag ac 3 (bS (Y 0) (R cD (Y 1) (X 10)) (X 2))) (X 0))) (y6 5 (dH (aR (Y 3) (aR (Y 4) (vt (R Î (Y 5) (ag ac 3 (bS (Y 0) (R cD (Y 1) (X 2)) (X 6)))) (Y 6) (Y 7) (Y 8) (Y 10) (Y 9)))))))))))))))
def dZ:Ö:=bR 11 gX
def T48:cq:=("_law_given",4,["_law_script","_law_at","_law_house"],dZ)::T47
theorem qm(A:Af K "_law_given" (Ó 130) f)(t:HA P w K mg base T47):HA P w K mg base T48:=aB (aS XI Gn ["_law_script","_law_at","_law_house","_law_name_here","_law_worth","_law_some","_law_path_here","_law_until","_law_lasts","_law_reach","_law_safe"] ["_law_script","_law_at","_law_house"] gX A aK (by delta gX;fin2)) t
def bO:kj:=(gf (gQ 6 (R cw (R cw (Y 1) (X 1)) (R jM (X 14) (Y 5)))) (gf (gQ 4 (R cw (Y 4) (ag ac 3 (bS (Y 0) (Y 6) (X 4))))) (gf (gQ 7 (R Î (gK (q8 (Ð "n") (Ð "m-1") (Ð "safe-a") (Ð "N_2"))) (ag ac 3 (bS (Y 0) (R cw (Y 6) (X 1)) (X 4))))) (gf (gQ 8 (R Î (gK (bS (Ð "5") (Ð "") (Ð "a!b~"))) (ag ac 3 (bS (Y 0) (R cw (Y 6) (X 2)) (X 3))))) (gf (gQ 9 (R Î (gK (bJ (fC .non) (ag ac 3 (bS (Y 0) (R cw (Y 6) (X 7)) (X 60))))) (ag ac 3 (bS (Y 0) (R cw (Y 6) (X 6)) (X 2))))) (gf (gQ 10 (R Þ (ag ac 3 (bS (Y 0) (R cw (Y 6) (X 4)) (X 2))) (X 0))) (gf (gQ 11 (dH (nR (Y 7) (Y 8) (ag aQ 2 (bJ (Y 0) (R cw (Y 6) (X 3)))) (Y 10) (ag cC 2 (bJ (Y 0) (R cw (Y 6) (X 5))))))) (gf (gQ 12 (R Î (gK (bS (Ð "any") (Ð "any") (Ð "near"))) (ag ac 3 (bS (Y 0) (R cw (Y 6) (X 9)) (X 3))))) (gf (gQ 13 (R Þ (ag ac 3 (bS (Y 0) (R cw (Y 6) (X 8)) (X 2))) (X 0))) (gf (gQ 14 (R cw (Y 4) (ag ac 3 (bS (Y 0) (R cw (Y 6) (X 10)) (X 5))))) (gf (gQ 15 (R cw (Y 11) (dH (nR (Y 9) (Y 13) (Y 12) (Y 4) (Y 14))))) (Hs 3 (fB (R Þ (du [("_law_note",15)] (gl (Y 3)) (Z (fB (R Þ (dH (bS (R Î (Y 0) (X 0)) (R Î (Y 0) (X 2)) (R Î (Y 0) (X 4)))) (dH (bS (R Î (Y 1) (X 0)) (R Î (Y 1) (X 2)) (R Î (Y 1) (X 4))))))) (Y 0)) (gK bQ))) (CB (Y 15)) Kf))))))))))))
def lF:Ù:=(y9 3 bQ (gf (gQ 4 (X 0)) (gf (za 5 [5,6,7,8,9,10,11,12,13,14,15] (λa=>Ø ((aq (ag ac 3 (bS (Y 0) (Y 1) (R cw (Y 2) (X 1))))) a) xR) bO) (y6 3 (â gO (aq (Y 3)))))))
def gk:Ö:=bR 16 lF
def T49:cq:=("_law_jar",4,["_law_script","_law_at","_law_many"],gk)::T48
theorem uS(A:Af K "_law_jar" (Ó 129) f)(t:HA P w K mg base T48):HA P w K mg base T49:=aB (aS XI Gn ["_law_script","_law_at","_law_many","_law_found","_law_now","_law_k","_law_here","_law_name_here","_law_worth","_law_ends","_law_exact","_law_head","_law_reach","_law_safe","_law_late","_law_note"] ["_law_script","_law_at","_law_many"] lF A aK (by delta lF bO;fin2)) t
def aL:Ù:=(br (fB (R oE (Y 11) (fC .non))) (cG 9 (R cw (R cw (R cw (R cw (Y 9) (Ð "; ")) (Y 10)) (Ð " ")) (â Ki (aq (Y 11))))) ë)
def gF:Ù:=(aN (LY [1,2,3,4] (lU (Y 0) ii (eZ (X 4)))) (aN (LY [5,6,7,8] (lU (Y 0) (eZ (X 4)) ii)) (aN (cG 9 (R cw (R cw (Y 1) (Ð "=")) (Y 2))) (aN (xb (gP 10 11) [11,10] (λa=>Ø ((bJ (dH (q8 (Ð "for") (Ð "under") (Ð "until") (Ð "lasts"))) (lU (Y 0) (eZ (X 2)) (eZ (X 6)))) a) Kh) aL) (aO (R cw (R cw (Y 9) (Ł (fB (Y 7)) (Ð "; safe") (Ð ""))) (Ł (fB (R Þ (Y 8) (Ð "near"))) (Ð "; near") (Ð ""))))))))
def cZ:Ö:=bR 12 gF
def T50:cq:=("_law_text",1,["_law_given_here"],cZ)::T49
theorem sY(A:Af K "_law_text" (Ó 131) f)(t:HA P w K mg base T49):HA P w K mg base T50:=aB (aS XI Gn ["_law_given_here","_law_name_here","_law_worth","_law_house","_law_path_here","_law_until","_law_lasts","_law_safe","_law_reach","_law_text_here","_law_word","_law_thing"] ["_law_given_here"] gF A aK (by delta gF aL;fin2)) t
def bg:cu:=(eV (ĩ (ei (fB (R G' (Y 4) (X 3)))) (eV (lP 7 (aC (ag iA 2 (bJ (Y 0) (R cD (Y 1) (X 1)))))) (eV (lP 8 (aC (ag dZ 3 (bS (Y 0) (R cD (Y 1) (X 8)) (R Î (Y 7) (X 1)))))) (jO (gL ĵ (cO 1 dL 3 (cr 2) (aT (aC (Y 7)) (aT (aC (ag cZ 1 (aq (Y 8)))) (aT (aC (Y 3)) el)))) (Y 6))))) sJ) (eV (ĩ (ei (fB (R Þ (Y 4) (X 3)))) (jO (gL Þ (cO 1 eU 1 (cr 2) (aT (aC (Y 3)) el)) (R uj (Y 5) (â fU (aq (cz 1 ak 0 (Y 2) bQ)))))) sJ) (eV (ĩ (ei (fB (R Þ (Y 4) (X 4)))) (jO (gL Þ (cO 1 dq 1 (cr 2) (aT (aC (ag aQ 2 (bJ (Y 0) (R cD (Y 1) (X 2))))) el)) (R uj (Y 5) (â fU (aq (cz 1 ak 0 (Y 2) bQ)))))) sJ) (jO (gL Þ (cO 1 eP 1 (cr 2) (aT (aC (ag gk 3 (bS (Y 0) (R cD (Y 1) (X 25)) (X 3)))) el)) (â fU (aq (cz 1 ak 0 (Y 2) bQ))))))))
def fR:cu:=(eV (lP 4 (aC (ag ac 3 (bS (Y 0) (Y 1) (X 6))))) (eV (lP 5 (aC (â fU (aq (cz 1 ak 0 (Y 2) bQ))))) (eV (lP 6 (aC (dH (aR (Ð "foreign") (aR (Ð "open") (vt (Ð "unsafe") (Ð "marked") (Ð "far") (Ð "shadowed") (Ð "gone") (Ð "kept"))))))) (Fy 5 9 bg (fC (.bl L))))))
def c5:ć:=mi 9 fR
def TW1:nW:=("_law_step",13,4,c5)::TW0
theorem qo(A:Af K "_law_step" (Ó 132) f)(t:HA P w K mg base T50)(d:ŕ P w K mg base 1 C TO2)(b:ę P w K mg base 1 C Rm)(a:ŭ P w K mg base TW0):ŭ P w K mg base TW1:=wc (Ay XI Gn ["_law_script","_law_at","_law_desk","_law_now","_law_way","_law_before","_law_words","_law_ask_here","_law_given_here"] ["_law_script","_law_at","_law_desk","_law_now"] fR A aK (by delta fR bg;fin2)) a
def c9:cu:=(jI (nV c5 4 (aT (aC (Y 0)) (aT (aC (R cD (X 900) (R jM (X 90) (Y 3)))) (aT (cr 1) (aT (aC (R cD (Y 2) (Y 3))) el))))))
def fT:cu:=(eV (xo 3 [3] (aq (X 3)) c9) (jO (aC (dH (bJ (cz 1 ak 0 (Y 1) bQ) (cz 1 aI 0 (Y 1) bQ))))))
def gY:ć:=mi 4 fT
def TW2:nW:=("_law_done",14,3,gY)::TW1
theorem qp(A:Af K "_law_done" (Ó 133) f)(b:ŕ P w K mg base 1 C TO2)(a:ŭ P w K mg base TW1):ŭ P w K mg base TW2:=wc (Ay XI Gn ["_law_script","_law_desk","_law_now","_law_k"] ["_law_script","_law_desk","_law_now"] fT A aK (by delta fT c9;fin2)) a
def jt:Ù:=(aN (cG 2 (gK (aR (Ð "!w.ck") (aR (Ð "*.ck") (vt (Ð "*.uk") (Ð "a.b") (Ð "b") (Ð "c.uk") (Ð "q") (Ð "uk")))))) (aO (â gO (aq (dc 2 [("_law_script",0),("_law_at",1)] (λa=>Ø ((aq (Y 2)) a) Co) (gP 0 1) (Z (fB (R Þ (ag ac 3 (bS (Y 2) (R cD (Y 3) (Y 0)) (X 2))) (X 0)))) (Y 1))))))
def d5:Ö:=bR 3 jt
def T51:cq:=("_law_table",3,["_law_script","_law_at"],d5)::T50
theorem qr(A:Af K "_law_table" (Ó 126) f)(t:HA P w K mg base T50):HA P w K mg base T51:=aB (aS XI Gn ["_law_script","_law_at","_law_some"] ["_law_script","_law_at"] jt A aK (by delta jt;fin2)) t
def uT:cu:=(lP 2 (aC (R cw (R cw (Y 2) (X 10)) (ag ac 3 (bS (Y 0) (R cw (X 16) (Y 3)) (X 4))))))
def nq:cu:=(eV uT (jI (nV c5 4 (aT (aC (Y 0)) (aT (aC (R cw (X 30) (R jM (X 90) (Y 3)))) (aT (cr 1) (aT (aC (Y 2)) el)))))))
def AG:cu:=(jI (cO 1 bV 0 (cr 1) el))
def uU:è:=(fB (R ė (du [] (gl (dH (bJ (Y 6) (Y 7)))) U (dH (bJ (lO 1 ak (Y 0)) (lO 1 aI (Y 0))))) (R QL (gK (aq (Y 5))) (X 2))))
def uV:è:=(fB (R ė (dH (bJ (cz 1 ak 0 (Y 6) bQ) (cz 1 aI 0 (Y 6) bQ))) (Y 5)))
def uW:è:=(fB (R ė (dH (bJ (cz 1 ak 0 (Y 7) bQ) (cz 1 aI 0 (Y 7) bQ))) (Y 5)))
def AH:cu:=(jI (cO 1 fW 0 (cr 7) el))
def qt:è:=(fB (R ė (cz 1 ak 0 (Y 6) bQ) (cz 1 ak 0 (Y 1) bQ)))
def qu:cu:=(ĩ (uOr (uB (xn ė (cO 1 bV 0 (cr 6) el) (cO 1 bV 0 (cr 1) el))) (ei qt)) (jO (aC (fC (.bl D)))) sJ)
def AI:cu:=(jI (cO 1 bV 0 (cr 7) el))
def qv:cu:=(xo 4 [4] (aq (R Î (cz 1 aI 0 (Y 7) bQ) (X 0))) AI)
def qw:cu:=(xo 4 [] (aq (R Î (cz 1 aI 0 (Y 6) bQ) (X 0))) qu)
def qz:cu:=(xo 4 [] (aq (R Î (cz 1 aI 0 (Y 7) bQ) (X 1))) AH)
def qA:cu:=(ĩ (ei uW) (jO (aC (fC (.bl D)))) sJ)
def qB:cu:=(ĩ (uB (gL ė (nV gY 3 (aT (aC (Y 0)) (aT (cr 6) (aT (aC (R cw (Y 2) (X 20))) el)))) (Y 8))) (jO (aC (fC (.bl D)))) sJ)
def qC:cu:=(ĩ (ei uV) (jO (aC (fC (.bl D)))) sJ)
def qD:cu:=(lP 8 (nV gY 3 (aT (aC (Y 0)) (aT (cr 1) (aT (aC (R cw (Y 2) (X 20))) el)))))
def qE:cu:=(ĩ (ei uU) (jO (aC (fC (.bl D)))) sJ)
def uX:cu:=(lP 7 (cO 1 gU 0 (cr 6) el))
def qF:cu:=(lP 6 (cO 1 gU 0 (cr 1) el))
def qG:cu:=(lP 5 (aC (dH (bJ (cz 1 ak 0 (Y 1) bQ) (cz 1 aI 0 (Y 1) bQ)))))
def mj:cu:=(xo 4 [] (aq (â Mj (bJ (R Î (cz 1 aI 0 (Y 1) bQ) (X 0)) (ag ac 3 (bS (Y 0) (X 26) (X 4)))))) AG)
def mo:cu:=(xo 3 [3] (aq (R cw (X 3) (ag ac 3 (bS (Y 0) (X 15) (X 5))))) nq)
def qH:cu:=(lP 2 (aC (X 0)))
def qI:cu:=(lP 1 (xq 1 bE 1 (aT (aC (ag d5 2 (bJ (Y 0) (X 0)))) el)))
def xG:cu:=(eV qI (eV qH (eV mo (eV mj (eV qG (eV qF (eV uX (eV qE (eV qD (eV qC (eV qB (eV qA (eV qz (eV qw (eV qv (jO (aC (jS (R Þ (cz 1 ak 0 (Y 7) bQ) (dH bQ)) (jS (R Þ (cz 1 ak 0 (Y 6) bQ) (dH bQ)) (R Þ (cz 1 aI 0 (Y 1) bQ) (cz 1 aI 0 (Y 6) bQ)))))))))))))))))))))
def xH:Ö:=Pk 9 xG
theorem NS{a:Vg}(A:ļ K "law" "law" (Ó 134) f a)(t:HA P w K mg base T51)(e:ŕ P w K mg base 1 C TO2)(d:ę P w K mg base 1 C Rm)(b:ŭ P w K mg base TW2)(g:Kl P w K mg base 1 C 7 1 bE):í P w K mg base Į 15 f a ["_law_script"] (ŋ K xH 1):=No ["_law_script","_law_desk","_law_now","_law_k","_law_turn","_law_before","_law_twin","_law_third","_law_there"] ["_law_script"] xG (by lk) (by lk) A (Ic (by lk)) (by delta xG uT nq AG uU uV uW AH qt qu AI qv qw qz qA qB qC qD qE uX qF qG mj mo qH qI;fin2)
end
theorem af{K:d_}{x:Str}{b:U8}(f:O)(m:String:="law_notejar_k75_whole_twins")(t:Nat:=1047)(c:Nat:=Nat.pred f)(a:nsM K x=Z (Z (.ref f)):=by lk)(l:K.lookup f=Z ⟨q_ "function",U,.func (V8 x x (iG b) (bZ b) (av b) .none .none .none (kS m t) U (kR c) .none),#[]⟩:=by lk)(d:Yi K (kR c) x=L:=by lk)(k:Vk K (.ref f)=L:=by lk):Af K x b f:=⟨a,⟨_,EF l d k⟩,k⟩
theorem amf{K:d_}{x q:Str}{a:U8}(f:O)(m:String)(t c:Nat)(l:K.lookup f=Z ⟨q_ "function",U,.func (V8 x q (iG a) (bZ a) (av a) .none .none .none (kS m t) U (kR c) .none),#[]⟩:=by lk)(d:Yi K (kR c) q=L:=by lk)(k:Vk K (.ref f)=L:=by lk):∃b,ļ K x q a f b:=⟨_,EF l d k⟩
theorem am{K:d_}{C:O}{x q:Str}{b:U8}{f:O}(e:∃d,ļ K x q b f d)(a:Vt K (.ref C) x=Z (Z (.ref f)):=by lk)(i:Z8 K (.ref f)=L:=by lk)(k:Vk K (.ref f)=L:=by lk):Am K C q x b f:=⟨⟨a,i,k⟩,e⟩
theorem all_mk{l:aao}{w:xy}{K:d_}{h:N_}{f:Str->Option B}{fa:O}(X:K.In h)(G:h.Ns C_ f)(c3:f "law"=Z (.ref fa)){f1 R f3 f4 f5 f6 f7 f8 f9 n5 n4 n3 n2 n1 n0 m9 m8 m6 m4 m3 m2 m1 m0 l9 l6 l5 l3 l2 l1 l0 k8 k7 k6 k5 k4 k3 k2 k1 k0 j3 j2 j1 j0 i9 i8 i3 i1 h9 h7 h6 h5 h4 h3 h2 h1 h0 g0 f0 e9 e8 e7 e6 e5 e4 e3 e2 e1 e0 d9 d8 d7 d6 d4 d3 fl:O}(A1:Af K "is_text_of" (Ó 11) f1)(A2:Af K "is_label" (Ó 20) R)(A3:Af K "is_name" (Ó 21) f3)(A4:Af K "is_rule" (Ó 22) f4)(A5:Af K "is_table" (Ó 23) f5)(A6:Af K "need_table" (Ó 25) f6)(A7:Af K "lies_within" (Ó 26) f7)(A8:Af K "key" (Ó 96) f8)(A9:Af K "has_no_key_twice" (Ó 102) f9)(x9:Af K "is_by_made" (Ó 101) n5)(x8:Af K "is_whole_number" (Ó 12) n4)(x7:Af K "is_moment" (Ó 46) n3)(x6:Af K "is_moment_or_none" (Ó 47) n2)(x5:Af K "is_note_name" (Ó 67) n1)(x4:Af K "is_path" (Ó 35) n0)(x3:Af K "is_reach" (Ó 69) m9)(x2:Af K "is_tuple_of" (Ó 13) m8)(x1:Af K "is_worth" (Ó 68) m6)(x0:Af K "is_note" (Ó 91) m4)(w7:Af K "is_jar" (Ó 100) m3)(w3:Af K "need_jar" (Ó 103) m2)(w2:Af K "need_name" (Ó 24) m1)(w1:Af K "forgotten" (Ó 107) m0)(w0:Af K "need_no_more_than_a_jar_has" (Ó 104) l9)(v9:Af K "is_ask" (Ó 49) l6)(v6:Af K "need_ask" (Ó 50) l5)(v5:Af K "need_moment" (Ó 48) l3)(v3:Af K "is_written_moment" (Ó 72) l2)(v1:Af K "what_is_told" (Ó 73) l1)(v0:Af K "read_given" (Ó 74) l0)(u7:Af K "read_what_is_given" (Ó 109) k8)(u6:Af K "end_for" (Ó 94) k7)(u3:Af K "house_for" (Ó 92) k6)(u2:Af K "behind_first_dot" (Ó 28) k5)(u1:Af K "ends_longest_first" (Ó 27) k4)(s9:Af K "is_told_open" (Ó 29) k3)(s8:Af K "find_open_end" (Ó 30) k2)(s7:Af K "is_open" (Ó 87) k1)(s6:Af K "is_exact" (Ó 88) k0)(s5:Af K "is_given" (Ó 70) j3)(s4:Af K "need_given" (Ó 71) j2)(s3:Af K "need_path" (Ó 36) j1)(s2:Af K "folder" (Ó 37) j0)(s1:Af K "path_for" (Ó 93) i9)(s0:Af K "find_own_end" (Ó 31) i8)(r8:Af K "comes_from_near" (Ó 51) i3)(r7:Af K "keeps_its_mark" (Ó 89) i1)(r6:Af K "why_refused" (Ó 90) h9)(r5:Af K "made" (Ó 95) h7)(r4:Af K "put" (Ó 108) h6)(r3:Af K "has_ended" (Ó 97) h5)(r2:Af K "without_ended" (Ó 106) h4)(r1:Af K "lies_under" (Ó 38) h3)(r0:Af K "shadows" (Ó 112) h2)(q7:Af K "word_of" (Ó 111) h1)(q6:Af K "take_in" (Ó 114) h0)(q5:Af K "taken" (Ó 113) g0)(q4:Af K "verdict" (Ó 110) f0)(q3:Af K "when_last" (Ó 119) e9)(q2:Af K "later_of" (Ó 118) e8)(q1:Af K "place_of" (Ó 117) e7)(q0:Af K "merged" (Ó 116) e6)(p7:Af K "swept" (Ó 105) e5)(p6:Af K "_law_cell" (Ó 123) e4)(p5:Af K "_law_drawn" (Ó 124) e3)(p4:Af K "_law_name" (Ó 125) e2)(p3:Af K "_law_path" (Ó 127) e1)(p2:Af K "_law_ask" (Ó 128) e0)(p1:Af K "_law_given" (Ó 130) d9)(o4:Af K "_law_jar" (Ó 129) d8)(o3:Af K "_law_text" (Ó 131) d7)(o2:Af K "_law_step" (Ó 132) d6)(o1:Af K "_law_done" (Ó 133) d4)(o0:Af K "_law_table" (Ó 126) d3){C g1 g2 g3 g4 g5 g6 g7 g8 g9 d2 d1 d0 c4:O}(b:CK K 1 C)(G1:∃u,ļ K "__init__" "Desk.__init__" (bx (Ó 121) 0) g1 u)(mk:Mk K C g1)(G2:Am K C "Desk.move" "move" (bx (Ó 121) 10) g2)(G3:Am K C "Desk.back" "back" (bx (Ó 121) 8) g3)(G4:Am K C "Desk.forth" "forth" (bx (Ó 121) 9) g4)(G5:Am K C "Desk.notes" "notes" (bx (Ó 121) 1) g5)(G6:Am K C "Desk.steps" "steps" (bx (Ó 121) 11) g6)(G7:Am K C "Desk.twin" "twin" (bx (Ó 121) 12) g7)(G8:Am K C "Desk.do_step" "do_step" (bx (Ó 121) 2) g8)(G9:Am K C "Desk.do_and_count" "do_and_count" (bx (Ó 121) 6) g9)(n9:Am K C "Desk.forget" "forget" (bx (Ó 121) 5) d2)(n8:Am K C "Desk.give" "give" (bx (Ó 121) 3) d1)(n7:Am K C "Desk.merge" "merge" (bx (Ó 121) 7) d0)(n6:Am K C "Desk.sweep" "sweep" (bx (Ó 121) 4) c4)(AL:Af K "law" (Ó 134) fl)(ma:CC.all (QR K)=L){C0 C1 C2 C3 C4 C5 C6 C8 CJ:O}(cb:caB K [0,1,2,3,4,5,6,8] [C0,C1,C2,C3,C4,C5,C6,0,C8] CJ 9=L):∃u:Vg,(∀(s:ge)(v:B),abA s u ⟨[v],[]⟩ [("_law_script",v)])/\∀base:N_,K.In base->base.Ns C_ f->í l.prog w K f base Į 15 fa u ["_law_script"] (ŋ K xH 1):=by
 have e:=c3.symm.trans (Xk X G AL.a);cases e;have M:=MP X G CC ma;obtain⟨u,Fn⟩:=AL.F;refine⟨u,?_,λbase _ _=>?_⟩;·obtain⟨oc,od,kV,y2,pm,an,y5,ct,y0,rfl,lk,y1⟩:=Fn.ex;exactλs v=>.of_eq rfl
 obtain⟨a,d⟩:=QY X G cb;have w':ŕ l.prog w K f base 1 C TO0:=Ix;have u':ę l.prog w K f base 1 C TV0:=IN;have k':ŭ l.prog w K f base TW0:=IM;have t0:HA l.prog w K f base T0:=MO;have E':ý l.prog w K f base TE0:=HV;have t1:=pZ b X G M a d A1 t0;have t2:=uF b X G M a d A2 t1;have t3:=xt b X G M a d A3 t2;have t4:=xu b X G M a d A4 t3;have t5:=uG b X G M a d A5 t4;have z:=p0 b X G M a d A6 t5 E';have tj:=lB b X G M a d G1 mk z;have t':=p8 b X G M a d G2 u';have s':=p9 b X G M a d G3 t';have r':=nX b X G M a d G4 s';have v':=qc b X G M a d G5 w';have m:=qd b X G M a d G6 v';have q':=qe b X G M a d G7 r' tj;have p':=lV b X G M a d G8 q';have o':=jg b X G M a d G9 p';have t6:=nY b X G M a d A7 t5;have t7:=NQ b X G M a d A8 t6;have t8:=jY b X G M a d A9 t7;have t9:=qf b X G M a d x9 t8;have c2:=kA b X G M a d x8 t9;have c1:=sM b X G M a d x7 c2;have c0:=jJ b X G M a d x6 c1;have b9:=mZ b X G M a d x5 c0;have b8:=xx b X G M a d x4 b9;have b7:=uH b X G M a d x3 b8;have b6:=nZ b X G M a d x2 b7;have b5:=uI b X G M a d x1 b6;have b4:=xz b X G M a d x0 b5;have g:=AC b X G M a d w7 b4;have D':=uJ b X G M a d w3 g z;have C':=sN b X G M a d w2 g D';have y:=sO b X G M a d w1 g C';have n':=m7 b X G M a d n9 y o';have B':=fQ b X G M a d w0 y;have r:=AD b X G M a d v9 g;have A':=uK b X G M a d v6 r B';have z':=oa b X G M a d v5 r A';have b3:=jK b X G M a d v3 r;have E:=ng b X G M a d v1 b3;have y':=qg b X G M a d v0 E z';have x':=ji b X G M a d u7 y';have b2:=xA b X G M a d u6 E;have b1:=sP b X G M a d u3 b2;have b0:=jZ b X G M a d u2 b1;have a9:=jm b X G M a d u1 b0;have a8:=nh b X G M a d s9 a9;have a7:=lW b X G M a d s8 a8;have a6:=xB b X G M a d s7 a7;have a5:=uL b X G M a d s6 a6;have q:=uM b X G M a d s5 a5;have g':=qh b X G M a d s4 q x';have f':=sQ b X G M a d s3 q g';have e':=AE b X G M a d s2 f';have d':=uN b X G M a d s1 e';have a4:=nj b X G M a d s0 q;have a3:=kN b X G M a d r8 a4;have p:=lE b X G M a d r7 a3;have c':=og b X G M a d r6 p d';have b':=Ja b X G M a d r5 p c';have a2:=NR b X G M a d r4 p;have a1:=sS b X G M a d r3 a2;have a0:=lX b X G M a d r2 a1;have U':=qj b X G M a d r1 a0;have o:=xC b X G M a d r0 U';have a':=xD b X G M a d q7 o b';have N:=xE b X G M a d q6 o a';have I:=DR b X G M a d q5 N;have k:=xF b X G M a d q4 I;have m':=qk b X G M a d n8 k n';have T':=sU b X G M a d q3 o;have S':=uP b X G M a d q2 T';have n:=uQ b X G M a d q1 S';have j:=AF b X G M a d q0 n k;have l':=oh b X G M a d n7 j m';have H:=DS b X G M a d p7 n j;have i:=oj b X G M a d n6 H l';have R':=sV b X G M a d p6 n;have Q':=ql b X G M a d p5 R';have O':=sW b X G M a d p4 Q';have N':=sX b X G M a d p3 O';have J':=uR b X G M a d p2 N';have I':=qm b X G M a d p1 J';have H':=uS b X G M a d o4 I';have A:=sY b X G M a d o3 H';have i':=qo b X G M a d o2 A m i k';have h':=qp b X G M a d o1 m i';have F':=qr b X G M a d o0 A;exact NS b X G M a d Fn F' m i h' tj
end G
set_option maxHeartbeats 4000000
namespace FD
open PySem.StrLaws PySem.Builtin PySem.Builtin.Str
noncomputable def J(S:List Nat):List Nat->List (List Nat)->List Nat|p,[]=>p|p,q::r=>p++(S++J S q r)
theorem Ū:At d p d.length b↔b+p.length<=d.length/\(d.cps.toList.drop b).take p.length=p.cps.toList:=by unfold At;rw[subAt_eq];simp
theorem AJ{a:List Nat}(f:p.cps.toList=b::a){k:Nat}(h:At d p d.length k):d.cps.toList[k]?=Z b:=by
 obtain⟨_,g⟩:=Ū.mp h;rw[f]at g;have e:=congrArg (λl=>l[0]?) g;simp only[List.getElem?_cons_zero]at e;have i:0<p.length:=by show 0<p.cps.size;rw[<-Ve,f];simp
 rw[ZM i,Zs]at e;simpa using e
theorem Jb{g:List Nat}(o:p.cps.toList=b::g){f j:List Nat}{a k:Nat}(n:d.cps.toList.drop a=f++j)(m:b∉f)(r:a<=k)(q:k<a+f.length):¬At d p d.length k:=by
 intro h;have e:=AJ o h;have i:(d.cps.toList.drop a)[k-a]?=Z b:=by rw[Zs,show a+(k-a)=k by omega];exact e
 rw[n,M_ (by omega)]at i;exact m (UG i)
theorem wf{x b:Str}{c:Nat}{w:List Nat}(A:b.cps.toList=c::w):∀(g:List (List Nat))(p:List Nat)(a:Nat)(d:List Nat)(f:Nat),(∀q∈p::g,c∉q)->x.cps.toList.drop a=J b.cps.toList p g->a<=x.length->ChainG x b x.length a d f->(∀k,f<=k->¬At x b x.length k)->(partsFrom x b.length a d).map (λs=>s.cps.toList)=p::g
 |[],p,a,d,f,y,o,ha,u,H=>by
  have i:x.cps.toList.length=x.length:=by simp[Zl]
  have I:∀k,a<=k->¬At x b x.length k:=λk hk h=>by
   have e:=AJ A h;have e2:(x.cps.toList.drop a)[k-a]?=Z c:=by rw[Zs,show a+(k-a)=k by omega];exact e
   rw[o]at e2;exact y p pi (UG e2)
  cases d with|nil=>
   show[(strSub x a x.length).cps.toList]=[p];rw[strSub_toList,o];show[p.take (x.length-a)]=[p];have:p.length=x.length-a:=by have:=congrArg YR o;rw[YH,i]at this;exact this.symm
   rw[Yu (by omega)]|cons k E=>exact absurd u.2.1 (I k u.1)
 |q::r,p,a,d,f,y,o,ha,u,H=>by
  have i:x.cps.toList.length=x.length:=by simp[Zl]
  have j:b.cps.toList.length=b.length:=by simp[Zl]
  have n:x.cps.toList.drop a=p++(b.cps.toList++J b.cps.toList q r):=o;have m:x.cps.toList.drop (a+p.length)=b.cps.toList++J b.cps.toList q r:=by rw[<-List.drop_drop,n,List.drop_left]
  have N:=congrArg YR m;rw[YH,i,UX,j]at N;have b':0<b.length:=by rw[<-j,A];simp
  have v:At x b x.length (a+p.length):=Ū.mpr ⟨by omega,by rw[m,<-j,List.take_left]⟩;have a':∀k,a<=k->k<a+p.length->¬At x b x.length k:=λk h1 h2=>Jb A n (y p pi) h1 h2;cases d with|nil=>exact absurd v (H _ (by have:f=a:=u;omega))|cons k E=>
   obtain⟨g1,g2,g3,g4⟩:=u;have ek:k=a+p.length:=by
    rcases Zz k (a+p.length)with h|h|h;·exact absurd g2 (a' k g1 h)
    ·exact h
    ·exact absurd v (g3 _ (by omega) h)
   subst ek;show(strSub x a (a+p.length)).cps.toList::(partsFrom x b.length (a+p.length+b.length) E).map (λs=>s.cps.toList)=p::q::r;rw[wf A r q (a+p.length+b.length) E f (λz hz=>y z (rl _ hz)) (by rw[<-List.drop_drop,m,<-j,List.drop_left]) (by omega) g4 H,strSub_toList,n,show a+p.length-a=p.length by omega,List.take_left]
theorem AK(h:d.cps.toList=p.cps.toList):d=p:=by obtain⟨⟨d⟩⟩:=d;obtain⟨⟨p⟩⟩:=p;simp at h;rw[h]
theorem j6:∀{l m:List Str},l.map (λs=>s.cps.toList)=m.map (λs=>s.cps.toList)->l=m|[],[],_=>rfl|a::l,b::m,h=>by simp only[G_,aau]at h;rw[AK h.1,j6 h.2]|[],_::_,h=>by simp at h|_::_,[],h=>by simp at h
theorem uY{j:List Nat}(w:p.cps.toList=b::j)(N:Wi p=1){a:Str}{e:List Str}(u:∀q∈a::e,b∉q.cps.toList)(m:d.cps.toList=J p.cps.toList a.cps.toList (e.map λs=>s.cps.toList)):Wy d p=a::e:=by
 have i:p.cps.toList.length=p.length:=by simp[Zl]
 have k:d.cps.toList.length=d.length:=by simp[Zl]
 obtain⟨f,E,z⟩:=occ_tight d p (by rw[<-i,w];simp);have g:=wf w (e.map λs=>s.cps.toList) a.cps.toList 0 _ f (by
  intro q n;rcases uk.mp n with rfl|n;·exact u a pi
  ·obtain⟨s,y,rfl⟩:=Ux.mp n;exact u s (rl _ y)) (by rw[aaP];exact m) (UQ _) E z;have I:1<=Wi d:=by unfold Wi;split;omega;split<;>omega
 unfold Wy;split
 · rename_i v;rw[acd,decide_eq_true_eq,decide_eq_true_eq]at v;rcases v with h|h;·cases e with|nil=>rw[AK (d:=d) (p:=a) m]|cons q r=>have:=congrArg YR m;rw[k]at this;simp only[G_,J,UX,i]at this;omega
   ·omega
 · split;·rename_i A;have H:occurrences d p 0 d.length (d.length+1)=[]:=List.isEmpty_iff.mp A;rw[H]at g;have o:[(strSub d 0 d.length).cps.toList]=a.cps.toList::(e.map λs=>s.cps.toList):=g;rw[sub_whole]at o;exact j6 (l:=[d]) (m:=a::e) o
   ·rw[partsBetween_eq];exact j6 (by rw[g];rfl)
open L2
theorem wg{d:Ò}{e:Ev}{g:Type}(i:g->Q)(f:g->Q):∀{l:List g},(∀a∈l,d (e.set 0 (Z (i a)))=Z (.ok (f a)))->yM U d e (l.map i)=Z (l.map f)|[],_=>rfl|a::l,h=>by have j:=wg (d:=d) (e:=e) i f (l:=l) λb k=>h b (rl _ k);rw[G_,G_];unfold yM;dsimp only;rw[h a pi,j]
theorem sZ{e:è}{g:Ò}{d:Ev}{i:Type}(j:i->Q)(p:i->Bool)(f:i->Q):∀{l:List i},(∀a∈l,e (d.set 0 (Z (j a)))=Z (.ok (p a))/\g (d.set 0 (Z (j a)))=Z (.ok (f a)))->yM (Z e) g d (l.map j)=Z ((l.filter p).map f)|[],_=>rfl|a::l,h=>by have k:=sZ (e:=e) (g:=g) (d:=d) j p f (l:=l) λb m=>h b (rl _ m);obtain⟨o,n⟩:=h a pi;rw[G_];unfold yM;dsimp only;rw[o,k];cases q:p a with|true=>dsimp only;rw[n,W1 q];rfl|false=>dsimp only;rw[Wf (by rw[q];decide)]
theorem wj{d:Ò}{e:Ev}{i:Type}(g:i->Q)(f:i->Q):∀{l:List i},(∀a∈l,d (e.set 0 (Z (g a)))=Z (.ok (f a)))->lN (gN 0) U d e (l.map g)=Z (l.map f)|[],_=>rfl|a::l,h=>by have j:=wj (d:=d) (e:=e) g f (l:=l) λb k=>h b (rl _ k);rw[G_,G_];unfold lN;show(match d (e.set 0 (Z (g a)))with|some (.ok y)=>_|_=>_)=_;rw[h a pi,j]
theorem tf{e:è}{g:Ò}{d:Ev}{j:Type}(i:j->Q)(p:j->Bool)(f:j->Q):∀{l:List j},(∀a∈l,e (d.set 0 (Z (i a)))=Z (.ok (p a))/\g (d.set 0 (Z (i a)))=Z (.ok (f a)))->lN (gN 0) (Z e) g d (l.map i)=Z ((l.filter p).map f)|[],_=>rfl|a::l,h=>by have k:=tf (e:=e) (g:=g) (d:=d) i p f (l:=l) λb m=>h b (rl _ m);obtain⟨o,n⟩:=h a pi;rw[G_];unfold lN;show(match e (d.set 0 (Z (i a)))with|some (.ok L)=>_|some (.ok D)=>_|_=>_)=_;rw[o,k];cases q:p a with|true=>dsimp only;rw[n,W1 q];rfl|false=>dsimp only;rw[Wf (by rw[q];decide)]
theorem jC{d:List (Str×Nat)}(b f:δ->Q){l:List δ}(g:ν ε=Z (.ok (l.map b)))(e:l.length<=100000)(h:∀a∈l,z ((EM d ε).set 0 (Z (b a)))=Z (.ok (f a))):du d ν U z ε=Z (.ok (.lst (l.map f))):=by unfold du;rw[g];show(match yM U z (EM d ε) (l.map b)with|some i=>_|none=>_)=_;rw[wg b f h];dsimp only;rw[if_pos ⟨by simpa using e,by simpa using e⟩]
theorem kQ{d:List (Str×Nat)}(b:δ->Q)(p:δ->Bool)(f:δ->Q){l:List δ}(e:ν ε=Z (.ok (l.map b)))(g:l.length<=100000)(h:∀a∈l,Ξ ((EM d ε).set 0 (Z (b a)))=Z (.ok (p a))/\z ((EM d ε).set 0 (Z (b a)))=Z (.ok (f a))):du d ν (Z Ξ) z ε=Z (.ok (.lst ((l.filter p).map f))):=by unfold du;rw[e];show(match yM (Z Ξ) z (EM d ε) (l.map b)with|some i=>_|none=>_)=_;rw[sZ b p f h];dsimp only;have:=V4 p l;rw[if_pos ⟨by simp;omega,by simpa using g⟩]
theorem tq{d:List (Str×Nat)}(b f:δ->Q){l:List δ}(g:ν ε=Z (.ok (l.map b)))(e:l.length<=100000)(h:∀a∈l,z ((i5 1 d ε).set 0 (Z (b a)))=Z (.ok (f a))):dc 1 d ν (gN 0) U z ε=Z (.ok (.lst (l.map f))):=by unfold dc;rw[g];show(match lN (gN 0) U z (i5 1 d ε) (l.map b)with|some i=>_|none=>_)=_;rw[wj b f h];dsimp only;rw[if_pos ⟨by simpa using e,by simpa using e⟩]
theorem xI{d:List (Str×Nat)}(b:δ->Q)(p:δ->Bool)(f:δ->Q){l:List δ}(e:ν ε=Z (.ok (l.map b)))(g:l.length<=100000)(h:∀a∈l,Ξ ((i5 1 d ε).set 0 (Z (b a)))=Z (.ok (p a))/\z ((i5 1 d ε).set 0 (Z (b a)))=Z (.ok (f a))):dc 1 d ν (gN 0) (Z Ξ) z ε=Z (.ok (.lst ((l.filter p).map f))):=by unfold dc;rw[e];show(match lN (gN 0) (Z Ξ) z (i5 1 d ε) (l.map b)with|some i=>_|none=>_)=_;rw[tf b p f h];dsimp only;have:=V4 p l;rw[if_pos ⟨by simp;omega,by simpa using g⟩]
theorem Jc(h:-(2^62)<=n/\n<2^62/\-(2^62)<=Á/\Á<2^62):BF [.int n,.int Á]=Z (.ok (rng n (Á-n).toNat)):=by rw[BF,if_pos h]
theorem Je(h:-(2^62)<=n/\n<2^62):xR [.int n]=Z (.ok (rng 0 n.toNat)):=by rw[xR,if_pos h]
theorem Jf(h:b<=1000):-(2^62)<=(1:Int)/\(1:Int)<2^62/\-(2^62)<=(b:Int)/\(b:Int)<2^62:=by omega
theorem NT(h:b<=1000):BF [.int 1,.int (b:Int)]=Z (.ok (rng 1 ((b:Int)-1).toNat)):=Jc (Jf h)
theorem NU(h:b<=1000):xR [.int (b:Int)]=Z (.ok (rng 0 b)):=by rw[Je (by omega)];rfl
theorem nu{b:Type}(p:b->Bool):∀l:List b,ki (l.map λa=>Q.bl (p a))=Z (l.map p)|[]=>rfl|a::l=>by show(match ki (l.map λa=>Q.bl (p a))with|some bs=>Z (p a::bs)|none=>U)=_;rw[nu p l];rfl
mutual
def ŗ:Q->Bool|.exn _=>D|.obj _ _=>D|.tup a=>ĺ a|.lst a=>ĺ a|_=>L
def ĺ:List Q->Bool|[]=>L|d::a=>ŗ d&&ĺ a
end
mutual
theorem qJ:∀d:Q,ŗ d=L->Vr (gI d) (gI d)=L
 |.non,_=>by simp[gI,Vr]|.bl b,_=>by simp[gI,Vr]|.int b,_=>by simp[gI,Vr]|.str b,_=>by simp[gI,Vr]|.tup a,h=>by simp only[gI,Vr];exact Ĝ a (by simpa[ŗ]using h)|.lst a,h=>by simp only[gI,Vr];exact Ĝ a (by simpa[ŗ]using h)|.scr e,_=>by simp only[gI,Vr];induction e with|nil=>simp[Wp]|cons n e g=>simp[Wp,Vr];exact g rfl
 |.exn _,h=>by simp[ŗ]at h|.obj _ _,h=>by simp[ŗ]at h
theorem Ĝ:∀a:List Q,ĺ a=L->Wp (ó a) (ó a)=L
 |[],_=>by simp[ó,Wp]|d::a,h=>by
  have f:ŗ d=L/\ĺ a=L:=by simpa[ĺ]using h
  simp only[ó,Wp,m_];exact⟨qJ d f.1,Ĝ a f.2⟩end
theorem kT(a b:Str):Ś (.str a) (.str b)=Z (seq a b):=rfl
theorem wm(a:Str):Ś (.str a) .non=Z D:=rfl
theorem tt(a b:Int):Ś (.int a) (.int b)=Z (a==b):=rfl
theorem wn:∀d:Q,Ś d d=Z L\/Ś d d=U|.non=>.inl rfl|.bl b=>.inl (by cases b<;>rfl)|.int i=>.inl (congrArg Z (by simp))|.str x=>.inl (congrArg Z (by unfold seq;simp))|.tup _=>.inr rfl|.lst _=>.inr rfl|.scr _=>.inr rfl|.exn _=>.inr rfl|.obj _ _=>.inr rfl
theorem uZ(b:okP j=L)(a:ŗ j=L):ė j j=Z (.ok (.bl D)):=by
 unfold ė;rcases wn j with e|e<;>rw[e];·rfl
 ·show(if(okP j&&okP j)=L then Z (Rs.ok (Q.bl (!Vr (gI j) (gI j))))else U)=_;rw[b,qJ j a];rfl
theorem Jg(b:okP j=L)(a:ŗ j=L):Þ j j=Z (.ok (.bl L)):=by unfold Þ;rcases wn j with e|e<;>rw[e];show(if(okP j&&okP j)=L then Z (Rs.ok (Q.bl (Vr (gI j) (gI j))))else U)=_;rw[b,qJ j a];rfl
structure ě(k:Nat)(d:Q):Prop where
 c:UV (gI d)=L
 dp:(gI d).depth<=k
 p:ŗ d=L
theorem Jh{k:Nat}:∀{ds:List Q},(∀d∈ds,ě k d)->WD (ó ds)=L/\aap (ó ds)<=k/\ĺ ds=L|[],_=>by simp[ó,WD,aap,ĺ]|d::ds,h=>by obtain⟨f,i,e⟩:=Jh (ds:=ds) λg b=>h g (rl _ b);have a:=h d pi;simp only[ó,WD,aap,ĺ,m_];exact⟨⟨a.c,f⟩,by have:=a.dp;omega,a.p,e⟩
theorem nv(h:∀d∈H,ě b d):ě (b+1) (.tup H):=by obtain⟨f,e,a⟩:=Jh h;exact⟨by simpa[gI,UV]using f,by simp[gI,Yj];exact e,by simpa[ŗ]using a⟩
theorem wo(h:∀d∈H,ě b d):ě (b+1) (.lst H):=by obtain⟨f,e,a⟩:=Jh h;exact⟨by simpa[gI,UV]using f,by simp[gI,Yj];exact e,by simpa[ŗ]using a⟩
theorem ě.okP(h:ě b j)(a:b<=64):okP j=L:=by unfold FD.okP SeqAt.shaped;rw[h.c];have:=h.dp;simp;omega
theorem ě.le(h:ě b j)(a:b<=k):ě k j:=⟨h.c,UD h.dp a,h.p⟩
theorem jQ(h:UV (.str d)=L):ě 0 (.str d):=⟨h,by simp[gI,Yj],rfl⟩
theorem tu:ě 0 (.int n):=⟨rfl,by simp[gI,Yj],rfl⟩
theorem NV:ě 0 (.bl E):=⟨rfl,by simp[gI,Yj],rfl⟩
theorem NW:ě 0 .non:=⟨rfl,by simp[gI,Yj],rfl⟩
end FD
namespace G
open L2 FD
theorem lY(h:Φ (H.map Z++u_ (b-H.length) U)=Z (.rt j)):gJ b Φ H=Z (.ok j):=by unfold gJ;rw[h]
theorem Rn(h:Φ (H.map Z++u_ (b-H.length) U)=Z (.exc k)):gJ b Φ H=Z (.exc k):=by unfold gJ;rw[h]
theorem cE(F:Ö){n:Nat}{g:á}{b:Ev}{a:List Q}{r:Option (Rs Q)}(h:g b=Z (.ok a))(d:a.length=n)(e:F a=r):aG F n g b=r:=by unfold aG;rw[h,<-e];exact if_pos d
theorem TJ(h:z ε=Z (.exc b)):eW z ε=Z (.exc b):=by unfold eW;rw[h];rfl
theorem SH{a:Ù}(h:Φ ε=Z (.exc b)):aN Φ a ε=Z (.exc b):=by unfold aN;rw[h];rfl
theorem Fz(h:Φ ε=Z (.rt j)):CZ b k υ Φ z ε=Z (.rt j):=by unfold CZ;rw[h]
theorem NX{c:Nat}(h:Φ ε=Z (.exc c))(d:c<b)(a:z ((u_ υ U).set k (Z (.exn c)))=Z (.ok j)):CZ b k υ Φ z ε=Z (.rt j):=by unfold CZ;rw[h];dsimp only;rw[if_pos d,a]
theorem Ro{g:Ù}(h:Ξ ε=Z (.ok L))(a:Φ ε=Z (.exc b)):br Ξ Φ g ε=Z (.exc b):=by rw[xr h,a]
theorem Ji(a:List Int)(s:a.length<=63)(k:Int):∃c,dD [.scr a,.int k]=Z (.ok (.int c)):=by cases a with|nil=>exact⟨7*k,by lk⟩|cons n r=>
 have v:0<(n::r).length:=by simp
 have b:(0:Int)<((n::r).length:Int):=by omega
 have p:((n::r).length:Int)<1073741824:=by omega
 have o:0<=k%((n::r).length:Int):=WB _ (by omega);have u:k%((n::r).length:Int)<((n::r).length:Int):=VR _ b;have m:(k%((n::r).length:Int)).toNat<(n::r).length:=by omega
 refine⟨(n::r)[(k%((n::r).length:Int)).toNat]+6553*(k/((n::r).length:Int)),?_⟩;have f:ą (n::r) (k%((n::r).length:Int))=Z (n::r)[(k%((n::r).length:Int)).toNat]:=by unfold ą;rw[if_pos o,I_ m]
 have g:j7 (.int k) (.int ((n::r).length:Int))=Z (.ok (.int (k%((n::r).length:Int)))):=by show(if 0<((n::r).length:Int)then _ else _)=_;rw[if_pos b]
 have j:kg (.int k) (.int ((n::r).length:Int))=Z (.ok (.int (k/((n::r).length:Int)))):=by show(if 0<((n::r).length:Int)/\((n::r).length:Int)<1073741824 then _ else _)=_;rw[if_pos ⟨b,p⟩]
 have h:Î (.scr (n::r)) (.int (k%((n::r).length:Int)))=Z (.ok (.int (n::r)[(k%((n::r).length:Int)).toNat])):=by show(match ą (n::r) (k%((n::r).length:Int))with|some d=>_|none=>_)=_;rw[f]
 show(match gE [Z (.scr (n::r)),Z (.int k)]with|some (.nx _)=>_|some (.rt d)=>_|_=>_)=_;have e:gE [Z (.scr (n::r)),Z (.int k)]=db (Ø (Ø (j7 (.int k) (.int ((n::r).length:Int))) λi=>Î (.scr (n::r)) i) λx=>Ø (Ø (kg (.int k) (.int ((n::r).length:Int))) λq=>jM (.int 6553) q) λy=>cD x y) λd=>Z (.rt d):=by lk
 rw[e,g,j];show(match db (Ø (Î (.scr (n::r)) (.int (k%((n::r).length:Int)))) λx=>_) _ with|some (.nx _)=>_|some (.rt d)=>_|_=>_)=_;rw[h];lk
noncomputable def dr1(c k:Int):Int:=(c%2147483563*69069+104723*(k+1))%2147483563
noncomputable def dr2(c:Int):Int:=(c*c+c/3)%2147483399
noncomputable def dr3(c m:Int):Int:=(c*c+c/7)%2147483647/11%m
theorem ny(h:(-18446744073709551616<n/\n<18446744073709551616)\/(-18446744073709551616<Á/\Á<18446744073709551616)):jM (.int n) (.int Á)=Z (.ok (.int (n*Á))):=by show(if _ then _ else _)=_;rw[if_pos h]
theorem tz(h:0<Á):j7 (.int n) (.int Á)=Z (.ok (.int (n%Á))):=by show(if _ then _ else _)=_;rw[if_pos h]
theorem aX(a:List Int)(j:a.length<=63)(k m:Int)(g:0<m):∃d:Int,0<=d/\d<m/\ac [.scr a,.int k,.int m]=Z (.ok (.int d)):=by
 obtain⟨c,n⟩:=Ji a j k;refine⟨dr3 (dr2 (dr1 c k)) m,WB _ (by omega),VR _ g,?_⟩;have v:0<=dr1 c k/\dr1 c k<2147483563:=⟨WB _ (by omega),VR _ (by omega)⟩;have u:0<=dr2 (dr1 c k)/\dr2 (dr1 c k)<2147483399:=⟨WB _ (by omega),VR _ (by omega)⟩;have w:0<=c%2147483563/\c%2147483563<2147483563:=⟨WB _ (by omega),VR _ (by omega)⟩;show bR 4 dU [.scr a,.int k,.int m]=_;have i:(ag dD 2 (bJ (Y 0) (Y 1))) [Z (.scr a),Z (.int k),Z (.int m),U]=Z (.ok (.int c)):=by show(match dD [.scr a,.int k]with|some (.ok d)=>(Z (.ok d):Option (Rs Q))|_=>U)=_;rw[n]
 have q:(cG 3 (R j7 (R cD (R jM (R j7 (ag dD 2 (bJ (Y 0) (Y 1))) (X 2147483563)) (X 69069)) (R jM (X 104723) (R cD (Y 1) (X 1)))) (X 2147483563))) [Z (.scr a),Z (.int k),Z (.int m),U]=Z (.nx [Z (.scr a),Z (.int k),Z (.int m),Z (.int (dr1 c k))]):=by show db (Ø (Ø (Ø (Ø ((ag dD 2 (bJ (Y 0) (Y 1))) [Z (.scr a),Z (.int k),Z (.int m),U]) λx=>j7 x (.int 2147483563)) λx=>jM x (.int 69069)) λx=>Ø (jM (.int 104723) (.int (k+1))) λy=>cD x y) λx=>j7 x (.int 2147483563)) (λd=>Z (.nx [Z (.scr a),Z (.int k),Z (.int m),Z d]))=_;rw[i];show db (Ø (Ø (Ø (j7 (.int c) (.int 2147483563)) λx=>jM x (.int 69069)) λx=>Ø (jM (.int 104723) (.int (k+1))) λy=>cD x y) λx=>j7 x (.int 2147483563)) _=_;rw[tz (by omega),ny (n:=104723) (.inl (by omega))];show db (Ø (Ø (jM (.int (c%2147483563)) (.int 69069)) λx=>cD x (.int (104723*(k+1)))) λx=>j7 x (.int 2147483563)) _=_;rw[ny (.inl (by omega))];show db (j7 (.int (c%2147483563*69069+104723*(k+1))) (.int 2147483563)) _=_;rw[tz (by omega)];rfl
 generalize s:dr1 c k=f at*;have p:(cG 3 (R j7 (R cD (R jM (Y 3) (Y 3)) (R kg (Y 3) (X 3))) (X 2147483399))) [Z (.scr a),Z (.int k),Z (.int m),Z (.int f)]=Z (.nx [Z (.scr a),Z (.int k),Z (.int m),Z (.int (dr2 f))]):=by show db (Ø (Ø (jM (.int f) (.int f)) λx=>cD x (.int (f/3))) λx=>j7 x (.int 2147483399)) (λd=>Z (.nx [Z (.scr a),Z (.int k),Z (.int m),Z d]))=_;rw[ny (.inl (by omega))];show db (j7 (.int (f*f+f/3)) (.int 2147483399)) _=_;rw[tz (by omega)];rfl
 generalize r:dr2 f=b at*;have o:(aO (R j7 (R kg (R j7 (R cD (R jM (Y 3) (Y 3)) (R kg (Y 3) (X 7))) (X 2147483647)) (X 11)) (Y 2))) [Z (.scr a),Z (.int k),Z (.int m),Z (.int b)]=Z (.rt (.int (dr3 b m))):=by show db (Ø (Ø (Ø (Ø (jM (.int b) (.int b)) λx=>cD x (.int (b/7))) λx=>j7 x (.int 2147483647)) λx=>kg x (.int 11)) λx=>j7 x (.int m)) (λd=>Z (.rt d))=_;rw[ny (.inl (by omega))];show db (Ø (Ø (j7 (.int (b*b+b/7)) (.int 2147483647)) λx=>kg x (.int 11)) λx=>j7 x (.int m)) _=_;rw[tz (by omega)];show db (j7 (.int ((b*b+b/7)%2147483647/11)) (.int m)) _=_;rw[tz g];rfl
 show(match dU [Z (.scr a),Z (.int k),Z (.int m),U]with|some (.nx _)=>_|some (.rt d)=>_|_=>_)=_;have e:dU [Z (.scr a),Z (.int k),Z (.int m),U]=Z (.rt (.int (dr3 b m))):=by show sq ((cG 3 _) _) (λh=>sq ((cG 3 _) h) _)=_;rw[q];show sq ((cG 3 _) [Z (.scr a),Z (.int k),Z (.int m),Z (.int f)]) _=_;rw[p];exact o
 rw[e]
noncomputable def ĝ:List Str:=[b_ "a.b",b_ "b",b_ "x.a.b",b_ "y.x.a.b",b_ "c.uk",b_ "uk",b_ "d.c.uk",b_ "e.d.c.uk",b_ "w.ck",b_ "v.w.ck",b_ "ck",b_ "g-1.a.b",b_ "7.b",b_ "p.q"]
noncomputable def é:List Q:=[.str "!w.ck",.str "*.ck",.str "*.uk",.str "a.b",.str "b",.str "c.uk",.str "q",.str "uk"]
noncomputable def k9:List Q->List (List Q)|[]=>[[]]|x::r=>(k9 r).map (x::·)++k9 r
noncomputable def okO(o:Option (Rs Q)):Option (Rs Q):=match o with|some (.ok d)=>Z (.ok d)|_=>U
theorem iY(b:0<=n)(d:n<H.length):∃x∈H,Î (.lst H) (.int n)=Z (.ok x):=by
 have a:n.toNat<H.length:=by omega
 refine⟨H[n.toNat],XH a,?_⟩;show(match ą H n with|some n=>_|none=>_)=_;unfold ą;rw[if_pos b,I_ a]
def drL(o:Option (Rs Q))(l:List Str):Option (Rs Q):=match db (Ø (match o with|some (.ok d)=>(Z (.ok d):Option (Rs Q))|_=>U) λi=>Î (.lst (l.map Q.str)) i) λd=>Z (.rt d)with|some (.nx _)=>Z (.ok .non)|some (.rt d)=>Z (.ok d)|_=>U
theorem FB{o:Option (Rs Q)}(g:0<=n)(f:n<y.length)(d:o=Z (.ok (.int n))):∃p∈y,drL o y=Z (.ok (.str p)):=by obtain⟨x,a,e⟩:=iY (H:=y.map Q.str) g (by rw[S_];exact f);obtain⟨p,b,rfl⟩:=Ux.1 a;subst d;refine⟨p,b,?_⟩;unfold drL Ø;dsimp only;rw[e];rfl
theorem nA(a:List Int)(b:a.length<=63)(k:Int):∃p∈ĝ,aQ [.scr a,.int k]=Z (.ok (.str p)):=by obtain⟨d,g,f,e⟩:=aX a b k 14 (by omega);rw[show aQ [.scr a,.int k]=drL (ac [.scr a,.int k,.int 14]) ĝ by lk];exact FB g f e
def Jj:è:=fB (R Þ (ag ac 3 (bS (Y 2) (R cD (Y 3) (Y 0)) (X 2))) (X 0))
theorem FF(a:List Int)(g:a.length<=63)(z:Int):∀(l:List Q)(k:Nat),∃t∈k9 l,lN (gP 0 1) (Z Jj) (Y 1) [U,U,Z (.scr a),Z (.int z)] (lh k l)=Z t
 |[],k=>⟨[],by simp[k9],rfl⟩|x::r,k=>by
  obtain⟨t,f,e⟩:=FF a g z r (k+1);obtain⟨d,o,n,j⟩:=aX a g (z+k) 2 (by omega);have b:Jj [Z (.int k),Z x,Z (.scr a),Z (.int z)]=Ø (Ø (okO (ac [.scr a,.int (z+k),.int 2])) λx=>Þ x (.int 0)) ă:=by lk
  have i:lN (gP 0 1) (Z Jj) (Y 1) [U,U,Z (.scr a),Z (.int z)] (lh k (x::r))=(match Jj [Z (.int k),Z x,Z (.scr a),Z (.int z)]with|some (.ok L)=>(match lN (gP 0 1) (Z Jj) (Y 1) [U,U,Z (.scr a),Z (.int z)] (lh (k+1) r)with|some h=>Z (x::h)|none=>U)|some (.ok D)=>lN (gP 0 1) (Z Jj) (Y 1) [U,U,Z (.scr a),Z (.int z)] (lh (k+1) r)|_=>U):=by lk
  rw[i,b,j,e];have m:d=0\/d=1:=by omega
  rcases m with rfl|rfl;·exact⟨x::t,by simp[k9,f],by lk⟩
  ·exact⟨t,by simp[k9,f],by lk⟩
theorem qK:∀{l t:List Q},t∈k9 l->t.length<=l.length
 |[],t,h=>by simp[k9]at h;simp[h]|x::r,t,h=>by
  simp only[k9,R_,Ux]at h;rcases h with⟨u,a,rfl⟩|h;·have:=qK a;simp;omega
  ·have:=qK h;simp;omega
theorem DT(a:List Int)(i:a.length<=63):∃t∈k9 é,d5 [.scr a,.int 0]=Z (.ok (.tup t)):=by
 obtain⟨t,g,e⟩:=FF a i 0 é 0;refine⟨t,g,?_⟩;have f:t.length<=100000:=by have:=qK g;have:é.length=8:=rfl;omega
 have h:d5 [.scr a,.int 0]=(match db (Ø (Ø (match lN (gP 0 1) (Z Jj) (Y 1) [U,U,Z (.scr a),Z (.int 0)] (lh 0 é)with|some b=>if b.length<=100000/\(lh 0 é).length<=100000 then(Z (.ok (.lst b)):Option (Rs Q))else U|none=>U) λx=>Ø (Z (.ok [])) λb=>Z (.ok (x::b))) gO) λd=>Z (.rt d)with|some (.nx _)=>Z (.ok .non)|some (.rt d)=>Z (.ok d)|_=>U):=by lk
 rw[h,e];dsimp only;rw[if_pos ⟨f,by decide⟩];rfl
noncomputable def ï:List Str:=[b_ "/",b_ "/x",b_ "/x/",b_ "/x/y",b_ "/xy",b_ "/x/y/z.q",b_ "//",b_ "/-_.9",b_ "/x/y/"]
theorem u0(a:List Int)(b:a.length<=63)(k:Int):∃p∈ï,cC [.scr a,.int k]=Z (.ok (.str p)):=by obtain⟨d,g,f,e⟩:=aX a b k 9 (by omega);rw[show cC [.scr a,.int k]=drL (ac [.scr a,.int k,.int 9]) ï by lk];exact FB g f e
theorem om(F:Ö){f g k:Ò}{e:Ev}{a b c d:Q}(h:f e=Z (.ok a))(m:g e=Z (.ok b))(i:k e=Z (.ok c))(j:F [a,b,c]=Z (.ok d)):ag F 3 (bS f g k) e=Z (.ok d):=pO (ae h (ae m (ae i au))) rfl j
theorem Jk(h:z ε=Z (.ok (.tup H))):gl z ε=Z (.ok H):=by unfold gl;rw[h];rfl
theorem DU(a:List Int)(b:a.length<=63)(z:Int):∃s h p O,h∈ĝ/\p∈ï/\(O=Q.non\/∃o∈ĝ,O=.str o)/\iA [.scr a,.int z]=Z (.ok (.tup [.bl s,.str h,.str p,O])):=by
 obtain⟨f,H,E,m⟩:=aX a b (z+2) 3 (by omega);obtain⟨o,q,d⟩:=nA a b (z+3);obtain⟨w,A,y,n⟩:=aX a b z 2 (by omega);obtain⟨h,u,j⟩:=nA a b (z+1);obtain⟨p,r,i⟩:=u0 a b (z+4);have g:∃O,(O=Q.non\/∃o∈ĝ,O=.str o)/\Î (.lst [.non,.str o,.str o]) (.int f)=Z (.ok O):=by
  have v:f=0\/f=1\/f=2:=by omega
  rcases v with rfl|rfl|rfl;·exact⟨.non,.inl rfl,rfl⟩
  ·exact⟨.str o,.inr ⟨o,q,rfl⟩,rfl⟩
  ·exact⟨.str o,.inr ⟨o,q,rfl⟩,rfl⟩
 obtain⟨O,g,k⟩:=g;refine⟨(w==0),h,p,O,u,r,g,iW ?_⟩;show iz [Z (.scr a),Z (.int z),U]=_;unfold iz;have e:R Î (gK (bS (fC .non) (ag aQ 2 (bJ (Y 0) (R cD (Y 1) (X 3)))) (ag aQ 2 (bJ (Y 0) (R cD (Y 1) (X 3)))))) (ag ac 3 (bS (Y 0) (R cD (Y 1) (X 2)) (X 3))) [Z (.scr a),Z (.int z),U]=Z (.ok O):=by rw[bi (uq (ae rfl (ae (hX aQ rfl rfl d) (ae (hX aQ rfl rfl d) au))) (by show 3<=100000;decide)) (om ac rfl rfl rfl m)];exact k
 rw[ay (a:=[Z (.scr a),Z (.int z),Z O]) (cf e rfl)];refine fg (lj (ae ?_ (ae (hX aQ rfl rfl j) (ae (hX cC rfl rfl i) (ae rfl au)))) (by show 4<=100000;decide));rw[bi (om ac rfl rfl rfl n) rfl];rfl
abbrev bo(k:Bool):Option (Rs Q):=Z (.ok (.bl k))
def En:List Str:=ĝ++[b_ "q"]
theorem iS(h:seq d p=L):d=p:=by unfold seq at h;obtain⟨⟨a⟩⟩:=d;obtain⟨⟨b⟩⟩:=p;simp at h;rw[h]
theorem di{l:List δ}{p:δ->Bool}(n:Nat)(b:(l.take n).all p=L)(a:(l.drop n).all p=L):l.all p=L:=by rw[<-List.take_append_drop n l,List.all_append,b,a];rfl
def Rp(t:List Q)(n:Str):Bool:=match cW [.tup t,.str n],dr [.tup t,.str n]with|some (.ok (.str _)),Z (.ok .non)=>L|some (.ok (.str _)),Z (.ok (.str z))=>UV (.str z)|_,_=>D
def iZ(t:List Q):Bool:=En.all λn=>Rp t n
def da:Nat->List (List Q)|0=>k9 é|k+1=>(da k).drop 16
theorem TM:((da 0).take 16).all iZ=L:=by lk
theorem TN:((da 1).take 16).all iZ=L:=by lk
theorem TQ:((da 2).take 16).all iZ=L:=by lk
theorem TU:((da 3).take 16).all iZ=L:=by lk
theorem TV:((da 4).take 16).all iZ=L:=by lk
theorem TW:((da 5).take 16).all iZ=L:=by lk
theorem TX:((da 6).take 16).all iZ=L:=by lk
theorem TY:((da 7).take 16).all iZ=L:=by lk
theorem TZ:((da 8).take 16).all iZ=L:=by lk
theorem Ua:((da 9).take 16).all iZ=L:=by lk
theorem Rq:((da 10).take 16).all iZ=L:=by lk
theorem Rr:((da 11).take 16).all iZ=L:=by lk
theorem Rt:((da 12).take 16).all iZ=L:=by lk
theorem Rv:((da 13).take 16).all iZ=L:=by lk
theorem Rw:((da 14).take 16).all iZ=L:=by lk
theorem Rx:((da 15).take 16).all iZ=L:=by lk
theorem NY:(k9 é).all iZ=L:=(di (l:=da 0) 16 TM (di (l:=da 1) 16 TN (di (l:=da 2) 16 TQ (di (l:=da 3) 16 TU (di (l:=da 4) 16 TV (di (l:=da 5) 16 TW (di (l:=da 6) 16 TX (di (l:=da 7) 16 TY (di (l:=da 8) 16 TZ (di (l:=da 9) 16 Ua (di (l:=da 10) 16 Rq (di (l:=da 11) 16 Rr (di (l:=da 12) 16 Rt (di (l:=da 13) 16 Rv (di (l:=da 14) 16 Rw (di (l:=da 15) 16 Rx (show(da 16).all iZ=L by lk)))))))))))))))))
theorem Jl(d:H∈k9 é){n:Str}(e:n∈En):∃m o,cW [.tup H,.str n]=Z (.ok (.str m))/\(o=Q.non\/∃z,o=.str z)/\dr [.tup H,.str n]=Z (.ok o):=by
 have h:=aZ (show(En.all λn=>Rp H n)=L from aZ NY d) e;unfold Rp at h;split at h;·rename_i m b a;exact⟨m,_,b,.inl rfl,a⟩
 ·rename_i m z b a;exact⟨m,_,b,.inr ⟨z,rfl⟩,a⟩
 ·cases h
noncomputable def ń:Option (Rs Q)->Bool|some (.ok (.bl L))=>L|_=>D
theorem nF{o:Option (Rs Q)}(h:ń o=L):o=Z (.ok (.bl L)):=by
 unfold ń at h;split at h;·rfl
 ·cases h
noncomputable def Ž:Option (Rs Q)->Bool|some (.ok (.bl _))=>L|_=>D
theorem FH{o:Option (Rs Q)}(h:Ž o=L):∃k,o=bo k:=by
 unfold Ž at h;split at h;·exact⟨_,rfl⟩
 ·cases h
noncomputable def okF:Option (Rs Q)->Bool|some (.ok (.bl D))=>L|_=>D
theorem AM:((k9 é).all λt=>ń (cj [.tup t]))=L:=by lk
theorem ju(a:H∈k9 é):cj [.tup H]=bo L:=nF (aZ (p:=λH=>ń (cj [.tup H])) AM a)
noncomputable def ĭ:List Str:=[b_ "n",b_ "safe-a",b_ "own-b",b_ "N_2",b_ "m-1",b_ "safe-",b_ "own"]
noncomputable def İ:List Str:=[b_ "5",b_ "",b_ "a!b~",b_ "x/y?z",b_ "123456789012",b_ "1"]
theorem NZ:(ĭ.all λn=>ń (aP [.str n]))=L:=by lk
theorem N0:(ĭ.all λn=>!(UO n (b_ "safe-")&&UO n (b_ "own-")))=L:=by lk
theorem N1:(İ.all λn=>ń (bP [.str n]))=L:=by lk
theorem N2:(En.all λn=>ń (bH [.str n]))=L:=by lk
theorem N3:(ï.all λn=>ń (cU [.str n]))=L:=by lk
theorem N4:(En.all λp=>En.all λq=>Ž (aE [.str p,.str q]))=L:=by lk
def Ry(p:Str):Bool:=match kL [.str p]with|some (.ok (.str f))=>ï.any (λq=>seq q f)|_=>D
theorem N5:(ï.all Ry)=L:=by lk
theorem SI(h:d∈ĭ):aP [.str d]=bo L:=nF (aZ (p:=λd=>ń (aP [.str d])) NZ h)
theorem Ub(h:d∈ĭ):UO d (b_ "safe-")=D\/UO d (b_ "own-")=D:=by have:=aZ (p:=λd=>!(UO d (b_ "safe-")&&UO d (b_ "own-"))) N0 h;simpa using this
theorem SJ(h:d∈İ):bP [.str d]=bo L:=nF (aZ (p:=λd=>ń (bP [.str d])) N1 h)
theorem N6(h:d∈En):bH [.str d]=bo L:=nF (aZ (p:=λd=>ń (bH [.str d])) N2 h)
theorem Rz(h:d∈ï):cU [.str d]=bo L:=nF (aZ (p:=λd=>ń (cU [.str d])) N3 h)
theorem SK(h:d∈En)(a:p∈En):∃k,aE [.str d,.str p]=bo k:=FH (aZ (p:=λp=>Ž (aE [.str d,.str p])) (aZ (p:=λd=>En.all λp=>Ž (aE [.str d,.str p])) N4 h) a)
theorem Uc(h:d∈ï):∃f∈ï,kL [.str d]=Z (.ok (.str f)):=by
 have q:=aZ (p:=Ry) N5 h;unfold Ry at q;split at q;·rename_i f b;obtain⟨y,a,g⟩:=W3.mp q;have e:=iS g;subst e;exact⟨y,a,b⟩
 ·cases q
theorem RA(h:cj [j]=bo L):aY [j]=Z (.ok .non):=by simp[aY,gJ,ez,br,db,Ø,cQ,fB,ă,ag,aR,bQ,Y,h]
theorem RB(h:iN [j]=bo L):cV [j]=Z (.ok .non):=by simp[cV,gJ,iO,br,db,Ø,cQ,fB,ă,ag,aR,bQ,Y,h]
theorem SL(h:ip [j]=bo L):c7 [j]=Z (.ok .non):=by simp[c7,gJ,fY,br,db,Ø,cQ,fB,ă,ag,aR,bQ,Y,h]
theorem Jm(h:bf [j]=bo L):bM [j]=Z (.ok .non):=by simp[bM,gJ,fA,br,db,Ø,cQ,fB,ă,ag,aR,bQ,Y,h]
theorem tE(b:0<=n)(a:n<=9999):bf [.int n]=bo L:=by
 have e:aU [.int n,.int 0,.int 9999]=bo L:=by simp[aU,bR,ba,aN,sq,br,aO,db,Ø,Ċ,cQ,fB,ă,Y,f1,R,jS,j8,gm,rT,Ļ,b,a]
 simp[bf,bR,fj,aO,db,Ø,ag,aR,bQ,Y,fC,e]
def Mo(u:Q):Prop:=u=.non\/∃i:Int,0<=i/\i<=9999/\u=.int i
theorem AN(h:Mo j):aD [j]=bo L:=by
 rcases h with rfl|⟨i,b,a,rfl⟩;·simp[aD,bR,bj,aO,db,Ø,ă,Y,fC,R,Ķ,Ď]
 ·simp[aD,bR,bj,aO,db,Ø,ă,ag,aR,bQ,Y,fC,R,Ķ,Ď,tE b a]
structure Ak(h p:Str)(O:Q):Prop where
 h:h∈En
 p:p∈ï
 o:O=.non\/∃o∈ĝ,O=.str o
theorem me(q:d∈ĝ):d∈En:=K_ _ q
abbrev û(s:Bool)(h p:Str)(O:Q):Q:=.tup [.bl s,.str h,.str p,O]
theorem DV(a:Ak d p j):iN [û E d p j]=bo L:=by
 have f:bX [.tup [.bl E,.str d,.str p,j],.int 4]=bo L:=by lk
 have e:=N6 (a.h);have b:=Rz a.p;rcases a.o with rfl|⟨o,g,rfl⟩;·simp[iN,bR,kJ,aN,sq,br,aO,db,Ø,cQ,fB,ă,ag,aR,bQ,Y,fC,f1,R,Î,ą,Ķ,gK,â,Ď,j8,gm,f,e,b,pL,ki]
 ·have h:=N6 (me g);simp[iN,bR,kJ,aN,sq,br,aO,db,Ø,cQ,fB,ă,ag,aR,bQ,Y,fC,f1,R,Î,ą,Ķ,gK,â,Ď,j8,gm,f,e,b,h,pL,ki]
theorem N7(d:H∈k9 é){h p:Str}{O:Q}(a:Ak h p O):∃k,∀s,aV [.tup H,û s h p O]=bo k:=by
 rcases a.o with rfl|⟨o,i,rfl⟩;·exact⟨L,λs=>by simp[aV,bR,bc,aN,sq,br,aO,cG,db,Ø,Ċ,fB,ă,Y,fC,R,Î,ą,Ď]⟩
 ·obtain⟨v,r,_,m,b⟩:=Jl d (a.h);obtain⟨u,n,_,j,e⟩:=Jl d (me i);cases q:seq o h with|true=>exact⟨L,λs=>by simp[aV,bR,bc,aN,sq,br,aO,cG,db,Ø,Ċ,fB,ă,Y,fC,R,Î,ą,Ď,Þ,kT,wm,q]⟩|false=>
 rcases m with rfl|⟨g,rfl⟩;·exact⟨D,λs=>by simp[aV,bR,bc,aN,sq,br,aO,cG,db,Ø,Ċ,fB,ă,ag,aR,bQ,Y,fC,R,Î,ą,jS,Ď,oE,Þ,kT,wm,q,b]⟩
 · rcases j with rfl|⟨f,rfl⟩;·exact⟨D,λs=>by simp[aV,bR,bc,aN,sq,br,aO,cG,db,Ø,Ċ,fB,ă,ag,aR,bQ,Y,fC,R,Î,ą,jS,Ď,oE,Þ,kT,wm,q,b,e]⟩
   ·exact⟨seq g f,λs=>by simp[aV,bR,bc,aN,sq,br,aO,cG,db,Ø,Ċ,fB,ă,ag,aR,bQ,Y,fC,R,Î,ą,jS,Ď,oE,Þ,kT,wm,q,b,e]⟩
structure Gv(nm w:Str)(H P u l:Q)(S:Bool)(R:Str):Prop where
 nm:nm∈ĭ
 w:w∈İ
 hh:H=.non\/∃n∈En,H=.str n
 pp:P=.non\/∃p∈ï,P=.str p
 u:u=.non\/∃i:Int,0<=i/\i<60/\u=.int i
 l:l=.non\/∃i:Int,0<=i/\i<30/\l=.int i
 r:R=b_ "any"\/R=b_ "near"
abbrev Ā(a w:Str)(H P u l:Q)(S:Bool)(R:Str):Q:=.tup [.str a,.str w,H,P,u,l,.bl S,.str R]
def Km:Option (Rs Q)->Bool|some (.ok (.str z))=>En.any λq=>seq q z|_=>D
theorem AO{o:Option (Rs Q)}(h:Km o=L):∃n∈En,o=Z (.ok (.str n)):=by
 unfold Km at h;split at h;·rename_i z;obtain⟨y,a,b⟩:=W3.mp h;have e:=iS b;subst e;exact⟨y,a,rfl⟩
 ·cases h
def DW:Ò:=(R Î (fM (iV) (Y 2) (aq (Ð "."))) (f1 LB (X 1)))
def DX:Ò:=(Ł (fB (R ĵ (Ð ".") (Y 2))) (xS (Y 2) (eZ (R cD (fM Mb (Y 2) (aq (Ð "."))) (X 1))) ii) (Y 2))
theorem DY:(ĝ.all λh=>Km (DW [U,U,Z (.str h)]))=L:=by lk
theorem DZ:(ĝ.all λh=>Km (DX [U,U,Z (.str h)]))=L:=by lk
theorem N8(q:d∈ĝ){a b:Option Q}{r:Ev}:∃n∈En,DW (a::b::Z (.str d)::r)=Z (.ok (.str n)):=AO (aZ (p:=λd=>Km (DW [U,U,Z (.str d)])) DY q)
theorem N9(q:d∈ĝ){a b:Option Q}{r:Ev}:∃n∈En,DX (a::b::Z (.str d)::r)=Z (.ok (.str n)):=AO (aZ (p:=λd=>Km (DX [U,U,Z (.str d)])) DZ q)
theorem D6(d:List Int)(e:d.length<=63)(z:Int){h:Str}(r:h∈ĝ):∃f w H P u l S a,Gv f w H P u l S a/\dZ [.scr d,.int z,.str h]=Z (.ok (Ā f w H P u l S a)):=by
 obtain⟨d0,a0,b0,e0⟩:=aX d e z 7 (by omega);obtain⟨d1,a1,b1,e1⟩:=aX d e (z+1) 5 (by omega);obtain⟨d2,a2,b2,e2⟩:=aX d e (z+2) 6 (by omega);obtain⟨d4,a4,b4,e4⟩:=aX d e (z+4) 3 (by omega);obtain⟨d6,a6,b6,e6⟩:=aX d e (z+6) 3 (by omega);obtain⟨d7,a7,b7,e7⟩:=aX d e (z+7) 60 (by omega);obtain⟨d8,a8,b8,e8⟩:=aX d e (z+8) 3 (by omega);obtain⟨d9,a9,b9,e9⟩:=aX d e (z+9) 30 (by omega);obtain⟨b',g',f',a'⟩:=aX d e (z+10) 2 (by omega);obtain⟨e',d',c',N⟩:=aX d e (z+11) 2 (by omega);obtain⟨n3,E,e3⟩:=nA d e (z+3);obtain⟨p5,y,e5⟩:=u0 d e (z+5);obtain⟨q,m0,i0⟩:=iY (H:=[.str "n",.str "safe-a",.str "own-b",.str "N_2",.str "m-1",.str "safe-",.str "n"]) a0 b0;obtain⟨p,m1,i1⟩:=iY (H:=[.str "5",.str "",.str "a!b~",.str "x/y?z",.str "123456789012"]) a1 b1;obtain⟨b,hL,eL⟩:=N8 r (a:=Z (.scr d)) (b:=Z (.int z)) (r:=[Z q,Z p,U,U,U,U,U,U]);obtain⟨TL,hT,eT⟩:=N9 r (a:=Z (.scr d)) (b:=Z (.int z)) (r:=[Z q,Z p,U,U,U,U,U,U]);obtain⟨o,m2,i2⟩:=iY (H:=[.non,.non,.str h,.str b,.str n3,.str TL]) a2 b2;obtain⟨m,m4,i4⟩:=iY (H:=[.non,.str "/",.str p5]) a4 b4;obtain⟨k,m6,i6⟩:=iY (H:=[.non,.non,.int d7]) a6 b6;obtain⟨j,m8,i8⟩:=iY (H:=[.non,.non,.int d9]) a8 b8;obtain⟨s,g,v⟩:=iY (H:=[.str "any",.str "near"]) d' c';have g0:∃f∈ĭ,q=.str f:=by simp only[uk,O_,or_false]at m0;rcases m0 with rfl|rfl|rfl|rfl|rfl|rfl|rfl<;>exact⟨_,by simp[ĭ],rfl⟩
 have g1:∃f∈İ,p=.str f:=by simp only[uk,O_,or_false]at m1;rcases m1 with rfl|rfl|rfl|rfl|rfl<;>exact⟨_,by simp[İ],rfl⟩
 have g2:o=.non\/∃n∈En,o=.str n:=by
  simp only[uk,O_,or_false]at m2;rcases m2 with rfl|rfl|rfl|rfl|rfl|rfl;·exact .inl rfl
  ·exact .inl rfl
  ·exact .inr ⟨_,me r,rfl⟩
  ·exact .inr ⟨_,hL,rfl⟩
  ·exact .inr ⟨_,me E,rfl⟩
  ·exact .inr ⟨_,hT,rfl⟩
 have g4:m=.non\/∃n∈ï,m=.str n:=by
  simp only[uk,O_,or_false]at m4;rcases m4 with rfl|rfl|rfl;·exact .inl rfl
  ·exact .inr ⟨_,by simp[ï],rfl⟩
  ·exact .inr ⟨_,y,rfl⟩
 have g6:k=.non\/∃i:Int,0<=i/\i<60/\k=.int i:=by
  simp only[uk,O_,or_false]at m6;rcases m6 with rfl|rfl|rfl;·exact .inl rfl
  ·exact .inl rfl
  ·exact .inr ⟨_,a7,b7,rfl⟩
 have g8:j=.non\/∃i:Int,0<=i/\i<30/\j=.int i:=by
  simp only[uk,O_,or_false]at m8;rcases m8 with rfl|rfl|rfl;·exact .inl rfl
  ·exact .inl rfl
  ·exact .inr ⟨_,a9,b9,rfl⟩
 have I:∃a,(a=b_ "any"\/a=b_ "near")/\s=.str a:=by
  simp only[uk,O_,or_false]at g;rcases g with rfl|rfl;·exact⟨_,.inl rfl,rfl⟩
  ·exact⟨_,.inr rfl,rfl⟩
 obtain⟨f,A,rfl⟩:=g0;obtain⟨w,hw,rfl⟩:=g1;obtain⟨a,hR,rfl⟩:=I;refine⟨f,w,o,m,k,j,b'==0,a,⟨A,hw,g2,g4,g6,g8,hR⟩,?_⟩;have eB:gX=(aN (cG 3 (R Î (gK (aR (Ð "n") (vt (Ð "safe-a") (Ð "own-b") (Ð "N_2") (Ð "m-1") (Ð "safe-") (Ð "n")))) (ag ac 3 (bS (Y 0) (Y 1) (X 7))))) (aN (cG 4 (R Î (gK (nR (Ð "5") (Ð "") (Ð "a!b~") (Ð "x/y?z") (Ð "123456789012"))) (ag ac 3 (bS (Y 0) (R cD (Y 1) (X 1)) (X 5))))) (y9 5 (nR (fC .non) (fC .non) (Y 2) DW (ag aQ 2 (bJ (Y 0) (R cD (Y 1) (X 3))))) (gf (CB DX) (gf (gQ 6 (R Î (gK (bS (fC .non) (Ð "/") (ag cC 2 (bJ (Y 0) (R cD (Y 1) (X 5)))))) (ag ac 3 (bS (Y 0) (R cD (Y 1) (X 4)) (X 3))))) (gf (gQ 7 (R Î (gK (bS (fC .non) (fC .non) (ag ac 3 (bS (Y 0) (R cD (Y 1) (X 7)) (X 60))))) (ag ac 3 (bS (Y 0) (R cD (Y 1) (X 6)) (X 3))))) (gf (gQ 8 (R Î (gK (bS (fC .non) (fC .non) (ag ac 3 (bS (Y 0) (R cD (Y 1) (X 9)) (X 30))))) (ag ac 3 (bS (Y 0) (R cD (Y 1) (X 8)) (X 3))))) (gf (gQ 9 (R Î (gK (bJ (Ð "any") (Ð "near"))) (ag ac 3 (bS (Y 0) (R cD (Y 1) (X 11)) (X 2))))) (gf (gQ 10 (R Þ (ag ac 3 (bS (Y 0) (R cD (Y 1) (X 10)) (X 2))) (X 0))) (y6 5 (dH (aR (Y 3) (aR (Y 4) (vt (R Î (Y 5) (ag ac 3 (bS (Y 0) (R cD (Y 1) (X 2)) (X 6)))) (Y 6) (Y 7) (Y 8) (Y 10) (Y 9))))))))))))))):=rfl;unfold dZ bR;rw[eB];simp[aN,sq,cG,db,Ø,ag,aR,bQ,Y,fC,R,dH,gK,y9,gf,CB,gQ,y6,w8,cD,e0,e1,e2,e3,e4,e5,e6,e7,e8,e9,a',N,i0,i1,i2,i4,i6,i8,v,eL,eT,Þ,kT,tt]
theorem qL(h:d=b_ "any"\/d=b_ "near"):fm [.str d]=bo L/\∃r,Þ (.str d) (.str "near")=bo (!r):=by
 rcases h with rfl|rfl;·exact⟨by lk,L,by lk⟩
 ·exact⟨by lk,D,by lk⟩
variable{Μ:Q}{η:Str}
theorem Gv.mu(g:Gv d p j θ Δ Μ E η):Mo Δ:=by
 rcases g.u with h|⟨i,b,e,a⟩;·exact .inl h
 ·exact .inr ⟨i,b,by omega,a⟩
theorem Gv.ml(g:Gv d p j θ Δ Μ E η):Mo Μ:=by
 rcases g.l with h|⟨i,b,e,a⟩;·exact .inl h
 ·exact .inr ⟨i,b,by omega,a⟩
theorem qM{b:è}(a:Ξ ε=Z (.ok E))(d:b ε=Z (.ok Ã)):mI Ξ b ε=Z (.ok (E&&Ã)):=by
 cases E;·exact yV a
 ·rw[yU a,d];rfl
theorem xJ(a:Ξ ε=Z (.ok E)):aN (br Ξ (aO (fC j)) ë) Φ ε=if E=L then Z (.rt j)else Φ ε:=by
 cases E;·rw[ay (cy a)];rfl
 ·exact mJ (by rw[xr a];rfl)
theorem Jn(e:H.map Z++u_ (b-H.length) U=ε)(h:Φ ε=Z (.rt j)):gJ b Φ H=Z (.ok j):=by unfold gJ;rw[e,h]
theorem AQ(F:Ö){f:Ò}{b:Ev}{a d:Q}(h:f b=Z (.ok a))(e:F [a]=Z (.ok d)):aG F 1 (aq f) b=Z (.ok d):=cE F (ae h au) rfl e
theorem Jp(e:H.map Z++u_ (b-H.length) U=ε)(h:Φ ε=Z (.rt j)):bR b Φ H=Z (.ok j):=by unfold bR;rw[e,h]
theorem Oa(h:z ε=Z (.ok j)):aO z ε=Z (.rt j):=by unfold aO;rw[h];rfl
theorem Ea(x:Str){k:Bool}(o:aP [.str x]=bo k)(g:Gv d p j θ Δ Μ E η):ip [Ā x p j θ Δ Μ E η]=bo k:=by
 have q:bX [Ā x p j θ Δ Μ E η,.int 8]=bo L:=by lk
 have m:=SJ g.w;have i:=AN g.mu;have h:=AN g.ml;have f:=(qL g.r).1;have e:Ķ (R Ď (R Î (Y 0) (X 2)) (fC .non)) (ag bH 1 (aq (R Î (Y 0) (X 2)))) [Z (Ā x p j θ Δ Μ E η)]=bo L:=by
  rcases g.hh with rfl|⟨n,a,rfl⟩;·exact L1 rfl
  ·exact(L0 rfl).trans (fV bH rfl (N6 a))
 have b:Ķ (R Ď (R Î (Y 0) (X 3)) (fC .non)) (ag cU 1 (aq (R Î (Y 0) (X 3)))) [Z (Ā x p j θ Δ Μ E η)]=bo L:=by
  rcases g.pp with rfl|⟨n,a,rfl⟩;·exact L1 rfl
  ·exact(L0 rfl).trans (fV cU rfl (Rz a))
 refine Jp (ε:=[Z (Ā x p j θ Δ Μ E η)]) rfl ?_;unfold jA;refine(xJ (E:=D) (li (bK (hX bX (b:=.int 8) rfl rfl q)))).trans ?_;refine Oa ((dj (ae (uq (ae (fV aP rfl o) (ae (fV bP rfl m) (ae e (ae b (ae (fV aD rfl i) (ae (fV aD rfl h) (ae (j:=.bl L) rfl (ae (fV fm rfl f) au)))))))) (by show 8<=100000;decide)) au)).trans ?_);cases k<;>rfl
theorem AR(g:Gv d p j θ Δ Μ E η):ip [Ā d p j θ Δ Μ E η]=bo L:=Ea d (SI g.nm) g
noncomputable def ũ(f b a d e:Bool):Q:=if f then .str "foreign"else if b then .str "open"else if a then .str "unsafe"else if d then .str "marked"else if e then .str "far"else .non
theorem Ő{h b:Str}{O:Q}(y:H∈k9 é)(a:Ak h b O)(g:Gv d p j θ Δ Μ E η){f e m i r:Bool}{s:Bool}(I:bh [.tup H,û s h b O,Ā d p j θ Δ Μ E η]=bo m)(A:aV [.tup H,û s h b O]=bo i)(z:Þ (.str η) (.str "near")=bo (!r))(o:(j=.non/\f=D/\e=D)\/∃n q k,j=.str n/\aE [.str h,.str n]=bo (!f)/\ė (.str n) (.str h)=bo q/\gC [.tup H,.str n]=bo k/\e=(q&&k)):bw [.tup H,û s h b O,Ā d p j θ Δ Μ E η]=Z (.ok (ũ f e (E&&!s) (!m) (!r&&!i))):=by
 have e1:=RA (ju y);have N:=SL (AR g);have e2:=RB (DV (E:=s) a);refine Jn (ε:=[Z (.tup H),Z (û s h b O),Z (Ā d p j θ Δ Μ E η),U]) rfl ?_;unfold fD;rw[ay (l4 (AQ aY (a:=.tup H) rfl e1)),ay (l4 (AQ cV (a:=û s h b O) rfl e2)),ay (l4 (AQ c7 (a:=Ā d p j θ Δ Μ E η) rfl N)),ay (cf (j:=j) (a:=[Z (.tup H),Z (û s h b O),Z (Ā d p j θ Δ Μ E η),Z j]) rfl rfl)];refine(xJ (E:=f) ?_).trans ?_
 · rcases o with⟨rfl,rfl,rfl⟩|⟨n,q,k,rfl,w,v,u,rfl⟩;·exact yV (bK rfl)
   ·rw[yU (bK rfl)];exact(li (bK (hX aE rfl rfl w))).trans (by rw[aaj])
 unfold ũ;cases f;rotate_left;·rfl
 refine(xJ (E:=e) ?_).trans ?_
 · rcases o with⟨rfl,_,rfl⟩|⟨n,q,k,rfl,w,v,u,rfl⟩;·exact yV (bK rfl)
   ·rw[yU (bK rfl)];exact qM (bK ((bi rfl rfl).trans v)) (bK (hX gC rfl rfl u))
 cases e;rotate_left;·rfl
 refine(xJ (E:=E&&!s) (qM (bK rfl) (li (bK rfl)))).trans ?_;cases E&&!s;rotate_left;·rfl
 refine(xJ (li (bK (om bh rfl rfl rfl I)))).trans ?_;cases !m;rotate_left;·rfl
 refine(xJ (qM (bK ((bi rfl rfl).trans z)) (li (bK (hX aV rfl rfl A))))).trans ?_;cases !r&&!i<;>rfl
noncomputable def mark(b a S e d:Bool):Bool:=(b&&!S)||(a&&!(S&&(e&&d)))
theorem AS{h a:Str}{O:Q}{f:Bool}{s:Bool}(g:d∈ĭ)(m:Þ θ (.str "/")=bo Ã)(k:c6 [.tup H,û s h a O,Ā d p j θ Δ Μ E η]=bo f):bh [.tup H,û s h a O,Ā d p j θ Δ Μ E η]=bo (!mark (UO d (b_ "safe-")) (UO d (b_ "own-")) E f Ã):=by have i:=Ub g;cases e:UO d (b_ "safe-")with
 |true=>
 rw[e]at i;have b:UO d (b_ "own-")=D:=by simpa using i
 rw[b];cases E<;>simp[bh,bR,bT,aN,sq,br,aO,cG,db,Ø,fB,ă,aR,bQ,Y,fC,R,Î,ą,fM,rL,e,mark]|false=>cases b:UO d (b_ "own-")with|true=>cases E<;>cases f<;>cases Ã<;>simp[bh,bR,bT,aN,sq,br,aO,cG,db,Ø,fB,ă,ag,aR,bQ,Y,fC,R,Î,ą,jS,fM,rL,e,b,k,m,mark]|false=>simp[bh,bR,bT,aN,sq,br,aO,cG,db,Ø,fB,ă,aR,bQ,Y,fC,R,Î,ą,fM,rL,e,b,mark]
structure Wt(t:List Q)(h p:Str)(O:Q)(nm w:Str)(H P u l:Q)(S:Bool)(R:Str)(s:Bool)(house path:Str)(ex:Bool)(wd:Q):Prop where
 hs:house∈En
 ph:path∈ï
 win:wd=.non\/∃x∈["foreign","open","unsafe","marked","far"],wd=.str (b_ x)why:bw [.tup t,û s h p O,Ā nm w H P u l S R]=Z (.ok wd)hf:gA [û s h p O,Ā nm w H P u l S R]=Z (.ok (.str house))hl:(H=.non/\house=h)\/H=.str house
 ix:c6 [.tup t,û s h p O,Ā nm w H P u l S R]=bo ex
 pf:fq [û s h p O,Ā nm w H P u l S R]=Z (.ok (.str path))un:wd=.non->s=D->S=D
theorem AT(f b a d e:Bool):ũ f b a d e=.non\/∃x∈["foreign","open","unsafe","marked","far"],ũ f b a d e=.str (b_ x):=by cases f<;>cases b<;>cases a<;>cases d<;>cases e<;>first|exact .inl rfl|exact .inr ⟨"foreign",by simp,rfl⟩|exact .inr ⟨"open",by simp,rfl⟩|exact .inr ⟨"unsafe",by simp,rfl⟩|exact .inr ⟨"marked",by simp,rfl⟩|exact .inr ⟨"far",by simp,rfl⟩
theorem AU{a d S s:Bool}(h:ũ E Ã (S&&!s) a d=.non)(b:s=D):S=D:=by
 subst b;cases S;·rfl
 ·cases E<;>cases Ã<;>cases h
theorem RC{h b:Str}{O:Q}(A:H∈k9 é)(a:Ak h b O)(g:Gv d p j θ Δ Μ E η)(s:Bool):∃k e ex wd,Wt H h b O d p j θ Δ Μ E η s k e ex wd:=by
 obtain⟨nr,hN⟩:=N7 A a;obtain⟨_,r,r2⟩:=qL g.r;have I:∃pe,Þ θ (.str "/")=bo pe:=by
  rcases g.pp with rfl|⟨q,_,rfl⟩;·exact⟨D,rfl⟩
  ·exact⟨_,rfl⟩
 obtain⟨pe,I⟩:=I;have i:∃e∈ï,fq [û s h b O,Ā d p j θ Δ Μ E η]=Z (.ok (.str e)):=by
  rcases g.pp with rfl|⟨q,hq,rfl⟩;·obtain⟨f,hf,k2⟩:=Uc a.p;exact⟨f,hf,by simp[fq,gJ,gD,aN,sq,br,aO,db,Ø,fB,ă,aG,aR,bQ,Y,fC,R,Î,ą,Ď,k2]⟩
  ·exact⟨q,hq,by simp[fq,gJ,gD,aN,sq,br,aO,db,Ø,fB,ă,Y,fC,R,Î,ą,Ď]⟩
 obtain⟨e,w,y⟩:=i;rcases g.hh with rfl|⟨n,N,rfl⟩
 · have v:c6 [.tup H,û s h b O,Ā d p .non θ Δ Μ E η]=bo L:=by simp[c6,bR,io,aN,sq,br,aO,cG,db,Ø,fB,ă,Y,fC,R,Î,ą,Ď]
   have u:=Ő (f:=D) (e:=D) A a g (AS g.nm I v) (hN s) r2 (.inl ⟨rfl,rfl,rfl⟩);rw[aaj]at u;exact⟨h,e,L,_,a.h,w,AT _ _ _ _ _,u,by simp[gA,bR,gz,aN,sq,br,aO,db,Ø,fB,ă,Y,fC,R,Î,ą,Ď],.inl ⟨rfl,rfl⟩,v,y,AU⟩
 · obtain⟨m,o,hm,_,_⟩:=Jl A N;obtain⟨wi,a'⟩:=SK (a.h) N;have z:gC [.tup H,.str n]=bo (seq m n):=by simp[gC,bR,kK,aO,db,Ø,ag,aR,bQ,Y,R,hm,Þ,kT,tt]
   have v:c6 [.tup H,û s h b O,Ā d p (.str n) θ Δ Μ E η]=bo (seq n h&&seq m n):=by simp[c6,bR,io,aN,sq,br,aO,cG,db,Ø,fB,ă,ag,aR,bQ,Y,fC,R,Î,ą,jS,Ď,z,Þ,kT,tt];cases seq n h<;>simp[aN]
   have u:=Ő (f:=!wi) (e:=!seq n h&&seq m n) A a g (AS g.nm I v) (hN s) r2 (.inr ⟨n,!seq n h,seq m n,rfl,by rw[a',aaj],by simp[ė,kT,tt],z,rfl⟩);rw[aaj]at u;exact⟨n,e,_,_,N,w,AT _ _ _ _ _,u,by simp[gA,bR,gz,aN,sq,br,aO,db,Ø,fB,ă,Y,fC,R,Î,ą,Ď],.inr rfl,v,y,AU⟩
theorem iT(a b:Str):(a++b).length=a.length+b.length:=ZE
theorem qN(a b c:Str):a++b++c=a++(b++c):=by show Str.mk (a.cps++b.cps++c.cps)=Str.mk (a.cps++(b.cps++c.cps));rw[abm]
theorem Ob(a:Str):a++b_ ""=a:=by show Str.mk (a.cps++#[])=a;rw[Array.append_empty]
noncomputable def step(t:Str)(o:Option Str):Str:=match o with|none=>t|some y=>t++b_ "; "++y
theorem kU(t:Str)(o:Option Str)(B:Nat)(h:∀y,o=Z y->y.length<=B):(step t o).length<=t.length+2+B:=by cases o with|none=>show t.length<=_;omega|some y=>
 have:=h y rfl;show(t++b_ "; "++y).length<=_;rw[iT,iT];have e:(b_ "; ").length=2:=by decide
 omega
theorem nG(a:Str):∀(l:List Str)(x:Str),Xs a (x::l)=l.foldl (λt y=>t++a++y) x|[],x=>rfl|y::l,x=>nG a l (x++a++y)
theorem jE(t:Str)(o:Option Str)(l:List Str):(o.toList++l).foldl (λt y=>t++b_ "; "++y) t=l.foldl (λt y=>t++b_ "; "++y) (step t o):=by cases o<;>rfl
noncomputable def eS:Option Str->Q|none=>.non|some x=>.str x
noncomputable def eO:Option Int->Q|none=>.non|some x=>.int x
noncomputable def is(i:Int):Str:=b_ (toString i)
theorem FJ(b:0<=n)(a:n<=9999):(is n).length<=10001:=by have:=PyProof.Rows.len_str_of_int n;unfold is;omega
theorem RD(b:0<=n)(a:n<=9999):QD [.int n]=Z (.ok (.str (is n))):=by
 show(if n.natAbs.log2<1920 then _ else U)=_;rw[if_pos];·rfl
 · have e:n.natAbs<2^1920:=Uz (show n.natAbs<2^14 by omega) (Nat.pow_le_pow_right (by decide) (by decide));by_cases z:n.natAbs=0;·rw[z];decide
   ·exact(Nat.log2_lt z).mpr e
structure Vv(nm w:Str)(h p:Option Str)(u l:Option Int)(R:Str):Prop where nm:nm.length<=50w:w.length<=50h:∀x,h=Z x->x.length<=50p:∀x,p=Z x->x.length<=50u:∀i,u=Z i->0<=i/\i<=9999l:∀i,l=Z i->0<=i/\i<=9999
abbrev gv(a w:Str)(h p:Option Str)(u l:Option Int)(S:Bool)(R:Str):Q:=.tup [.str a,.str w,eS h,eS p,eO u,eO l,.bl S,.str R]
noncomputable def oS(a:String)(h:Option Str):Option Str:=h.map λx=>b_ a++x
def oI(a:String)(h:Option Int):Option Str:=h.map λx=>b_ a++is x
noncomputable def oB(x:String)(b:Bool):Option Str:=if b then Z (b_ x)else U
noncomputable def Ą(a w:Str):Str:=a++b_ "="++w
def lG(R:Str):Bool:=seq R (b_ "near")
def T(a w:Str)(h p:Option Str)(u l:Option Int)(S:Bool)(R:Str):Str:=step (step (step (step (step (step (Ą a w) (oS "for " h)) (oS "under " p)) (oI "until " u)) (oI "lasts " l)) (oB "safe" S)) (oB "near" (lG R))
theorem RE(h:d.length+p.length<=100000):cD (.str d) (.str p)=Z (.ok (.str (d++p))):=by show(if d.length+p.length<=100000 then _ else U)=_;rw[if_pos h]
theorem lR(h:d.length+p.length<=100000):cw (.str d) (.str p)=Z (.ok (.str (d++p))):=RE h
theorem o8(o:Option Str):o.toList.length<=1:=by cases o<;>simp
variable{Υ:Option Str}
theorem SM{a:String}(e:(b_ a).length<=10)(d:∀x,Υ=Z x->x.length<=50):∀y,oS a Υ=Z y->y.length<=60:=by intro y b;cases Υ with|none=>cases b|some x=>cases b;rw[iT];have:=d x rfl;omega
theorem SN{a:String}(e:(b_ a).length<=10)(d:∀x,Ζ=Z x->0<=x/\x<=9999):∀y,oI a Ζ=Z y->y.length<=10020:=by intro y b;cases Ζ with|none=>cases b|some x=>cases b;rw[iT];have:=FJ (d x rfl).1 (d x rfl).2;omega
theorem Ud{x:String}(b:(b_ x).length<=10):∀y,oB x E=Z y->y.length<=60:=by intro y a;cases E with|false=>cases a|true=>cases a;omega
theorem Oc(h:z ε=Z (.ok j)):aO z ε=Z (.rt j):=by unfold aO;rw[h];rfl
def EL(d w:Str)(h p:Option Str)(u l:Option Int)(S:Bool)(R:Str)(t:Str)(a b:Option Q):Ev:=[Z (gv d w h p u l S R),Z (.str d),Z (.str w),Z (eS h),Z (eS p),Z (eO u),Z (eO l),Z (.bl S),Z (.str R),Z (.str t),a,b]
theorem tG{e:Option Str}{t f:Str}{a b:Option Q}:jF (gP 10 11) [11,10] aL (.tup [.str f,.non]::H) (EL d p Υ e Ζ Ν E η t a b)=jF (gP 10 11) [11,10] aL H (EL d p Υ e Ζ Ν E η t (Z (.str f)) (Z .non)):=rfl
theorem o9{e:Option Str}{t f y:Str}{a b:Option Q}(i:oE j .non=bo L)(h:Ki [j]=Z (.ok (.str y)))(m:t.length+2+f.length+1+y.length<=100000):jF (gP 10 11) [11,10] aL (.tup [.str f,j]::H) (EL d p Υ e Ζ Ν E η t a b)=jF (gP 10 11) [11,10] aL H (EL d p Υ e Ζ Ν E η (t++b_ "; "++f++b_ " "++y) (Z (.str f)) (Z j)):=by
 have n:(b_ "; ").length=2:=by decide
 have q:(b_ " ").length=1:=by decide
 have k:aL (EL d p Υ e Ζ Ν E η t (Z (.str f)) (Z j))=Z (.nx (EL d p Υ e Ζ Ν E η (t++b_ "; "++f++b_ " "++y) (Z (.str f)) (Z j))):=by
  have c:fB (R oE (Y 11) (fC .non)) (EL d p Υ e Ζ Ν E η t (Z (.str f)) (Z j))=Z (.ok L):=bK i;have z:R cw (R cw (R cw (R cw (Y 9) (Ð "; ")) (Y 10)) (Ð " ")) (â Ki (aq (Y 11))) (EL d p Υ e Ζ Ν E η t (Z (.str f)) (Z j))=Z (.ok (.str (t++b_ "; "++f++b_ " "++y))):=by refine(bi ((bi ((bi ((bi (j:=.str t) (θ:=.str "; ") rfl rfl).trans (lR (by omega))) (θ:=.str f) rfl).trans (lR (by rw[iT];omega))) (θ:=.str " ") rfl).trans (lR (by rw[iT,iT];omega))) ((dj (ae (j:=j) rfl au)).trans h)).trans ?_;exact lR (by rw[iT,iT,iT];omega)
  unfold aL br;rw[c];exact cf z rfl
 show(match aL (EL d p Υ e Ζ Ν E η t (Z (.str f)) (Z j))with|some (.nx g)=>jF (gP 10 11) [11,10] aL H g|o=>o)=_;rw[k]
theorem FK(t b a y:Str)(d:b++b_ " "=a):t++b_ "; "++b++b_ " "++y=t++b_ "; "++(a++y):=by rw[qN (t++b_ "; ") b,d,qN (t++b_ "; ") a]
theorem Oe{e:Option Str}{t g f:Str}{o:Option Str}{a b:Option Q}(h:g++b_ " "=f)(i:∀x,o=Z x->x.length<=50)(n:t.length<=80000)(m:g.length<=10):∃k j,jF (gP 10 11) [11,10] aL (.tup [.str g,eS o]::H) (EL d p Υ e Ζ Ν E η t a b)=jF (gP 10 11) [11,10] aL H (EL d p Υ e Ζ Ν E η (step t (o.map λx=>f++x)) k j):=by cases o with|none=>exact⟨_,_,tG⟩|some x=>have:=i x rfl;refine⟨Z (.str g),Z (.str x),(o9 (j:=.str x) (y:=x) rfl rfl (by omega)).trans ?_⟩;rw[FK t g f x h];rfl
theorem Of{f:Option Str}{t h g:Str}{o:Option Int}{a b:Option Q}(j:h++b_ " "=g)(i:∀x,o=Z x->0<=x/\x<=9999)(q:t.length<=80000)(n:h.length<=10):∃m k,jF (gP 10 11) [11,10] aL (.tup [.str h,eO o]::H) (EL d p Υ f Ζ Ν E η t a b)=jF (gP 10 11) [11,10] aL H (EL d p Υ f Ζ Ν E η (step t (o.map λx=>g++is x)) m k):=by cases o with|none=>exact⟨_,_,tG⟩|some x=>have:=i x rfl;have:=FJ this.1 this.2;have e:Ki [.int x]=Z (.ok (.str (is x))):=RD (i x rfl).1 (i x rfl).2;refine⟨Z (.str h),Z (.int x),(o9 (j:=.int x) (y:=is x) rfl e (by omega)).trans ?_⟩;rw[FK t h g (is x) j];rfl
theorem Jq{a:Option Str}(v:Vv d p Υ a Ζ Ν η):cZ [gv d p Υ a Ζ Ν E η]=Z (.ok (.str (T d p Υ a Ζ Ν E η))):=by
 have l1:=v.nm;have l2:=v.w;have lq:(b_ "=").length=1:=by decide
 have b0:(Ą d p).length<=200:=by unfold Ą;rw[iT,iT];omega
 have b1:=kU (Ą d p) (oS "for " Υ) 60 (SM (by decide) v.h);have b2:=kU (step (Ą d p) (oS "for " Υ)) (oS "under " a) 60 (SM (by decide) v.p);have b3:=kU (step (step (Ą d p) (oS "for " Υ)) (oS "under " a)) (oI "until " Ζ) 10020 (SN (by decide) v.u);have b4:=kU (step (step (step (Ą d p) (oS "for " Υ)) (oS "under " a)) (oI "until " Ζ)) (oI "lasts " Ν) 10020 (SN (by decide) v.l);obtain⟨I,z,u⟩:=Oe (d:=d) (p:=p) (Υ:=Υ) (e:=a) (Ζ:=Ζ) (Ν:=Ν) (E:=E) (η:=η) (t:=Ą d p) (g:=b_ "for") (f:=b_ "for ") (o:=Υ) (a:=U) (b:=U) (H:=[.tup [.str "under",eS a],.tup [.str "until",eO Ζ],.tup [.str "lasts",eO Ν]]) (by lk) v.h (by omega) (by decide);obtain⟨H,y,s⟩:=Oe (d:=d) (p:=p) (Υ:=Υ) (e:=a) (Ζ:=Ζ) (Ν:=Ν) (E:=E) (η:=η) (t:=step (Ą d p) (oS "for " Υ)) (g:=b_ "under") (f:=b_ "under ") (o:=a) (a:=I) (b:=z) (H:=[.tup [.str "until",eO Ζ],.tup [.str "lasts",eO Ν]]) (by lk) v.p (by omega) (by decide);obtain⟨A,w,r⟩:=Of (d:=d) (p:=p) (Υ:=Υ) (f:=a) (Ζ:=Ζ) (Ν:=Ν) (E:=E) (η:=η) (t:=step (step (Ą d p) (oS "for " Υ)) (oS "under " a)) (h:=b_ "until") (g:=b_ "until ") (o:=Ζ) (a:=H) (b:=y) (H:=[.tup [.str "lasts",eO Ν]]) (by lk) v.u (by omega) (by decide);obtain⟨a4,c4,q⟩:=Of (d:=d) (p:=p) (Υ:=Υ) (f:=a) (Ζ:=Ζ) (Ν:=Ν) (E:=E) (η:=η) (t:=step (step (step (Ą d p) (oS "for " Υ)) (oS "under " a)) (oI "until " Ζ)) (h:=b_ "lasts") (g:=b_ "lasts ") (o:=Ν) (a:=A) (b:=w) (H:=[]) (by lk) v.l (by omega) (by decide);let b:Str:=step (step (step (step (Ą d p) (oS "for " Υ)) (oS "under " a)) (oI "until " Ζ)) (oI "lasts " Ν);have N:b.length<=90000:=by show(step (step (step (step (Ą d p) (oS "for " Υ)) (oS "under " a)) (oI "until " Ζ)) (oI "lasts " Ν)).length<=_;omega
 have e:jF (gP 10 11) [11,10] aL [.tup [.str "for",eS Υ],.tup [.str "under",eS a],.tup [.str "until",eO Ζ],.tup [.str "lasts",eO Ν]] (EL d p Υ a Ζ Ν E η (Ą d p) U U)=Z (.nx (EL d p Υ a Ζ Ν E η b U U)):=u.trans (s.trans (r.trans (q.trans rfl)));have f:(λh=>Ø ((bJ (dH (q8 (Ð "for") (Ð "under") (Ð "until") (Ð "lasts"))) (lU (Y 0) (eZ (X 2)) (eZ (X 6)))) h) Kh) (EL d p Υ a Ζ Ν E η (Ą d p) U U)=Z (.ok [.tup [.str "for",eS Υ],.tup [.str "under",eS a],.tup [.str "until",eO Ζ],.tup [.str "lasts",eO Ν]]):=by lk
 have m:R cw (R cw (Y 1) (Ð "=")) (Y 2) [Z (gv d p Υ a Ζ Ν E η),Z (.str d),Z (.str p),Z (eS Υ),Z (eS a),Z (eO Ζ),Z (eO Ν),Z (.bl E),Z (.str η),U,U,U]=Z (.ok (.str (Ą d p))):=(bi ((bi (j:=.str d) (θ:=.str "=") rfl rfl).trans (lR (by omega))) (θ:=.str p) rfl).trans (lR (by rw[iT];omega));have f1:Ł (fB (Y 7)) (Ð "; safe") (Ð "") (EL d p Υ a Ζ Ν E η b U U)=Z (.ok (.str (if E then b_ "; safe"else b_ ""))):=by cases E<;>rfl
 have o:b++(if E then b_ "; safe"else b_ "")=step b (oB "safe" E):=by
  cases E;·exact Ob b
  ·show b++b_ "; safe"=b++b_ "; "++b_ "safe";rw[qN];rfl
 have b5:=kU b (oB "safe" E) 60 (Ud (by decide));have k:R cw (Y 9) (Ł (fB (Y 7)) (Ð "; safe") (Ð "")) (EL d p Υ a Ζ Ν E η b U U)=Z (.ok (.str (step b (oB "safe" E)))):=by
  rw[<-o];refine(bi (j:=.str b) rfl f1).trans (lR ?_);have:(if E then b_ "; safe"else b_ "").length<=10:=by cases E<;>decide
  omega
 have i:Ł (fB (R Þ (Y 8) (Ð "near"))) (Ð "; near") (Ð "") (EL d p Υ a Ζ Ν E η b U U)=Z (.ok (.str (if lG η then b_ "; near"else b_ ""))):=by have c:fB (R Þ (Y 8) (Ð "near")) (EL d p Υ a Ζ Ν E η b U U)=Z (.ok (lG η)):=rfl;unfold Ł;rw[c];cases lG η<;>rfl
 have n:∀t:Str,t++(if lG η then b_ "; near"else b_ "")=step t (oB "near" (lG η)):=by
  intro t;cases lG η;·exact Ob t
  ·show t++b_ "; near"=t++b_ "; "++b_ "near";rw[qN];rfl
 have j:(R cw (R cw (Y 9) (Ł (fB (Y 7)) (Ð "; safe") (Ð ""))) (Ł (fB (R Þ (Y 8) (Ð "near"))) (Ð "; near") (Ð ""))) (EL d p Υ a Ζ Ν E η b U U)=Z (.ok (.str (T d p Υ a Ζ Ν E η))):=by
  refine(bi k i).trans ((lR ?_).trans ?_)
  · have:(if lG η then b_ "; near"else b_ "").length<=10:=by cases lG η<;>decide
    omega
  ·rw[n];rfl
 refine iW ?_;show gF [Z (gv d p Υ a Ζ Ν E η),U,U,U,U,U,U,U,U,U,U,U]=_;unfold gF;rw[ay (show LY [1,2,3,4] (lU (Y 0) ii (eZ (X 4))) [Z (gv d p Υ a Ζ Ν E η),U,U,U,U,U,U,U,U,U,U,U]=Z (.nx [Z (gv d p Υ a Ζ Ν E η),Z (.str d),Z (.str p),Z (eS Υ),Z (eS a),U,U,U,U,U,U,U])by lk)];rw[ay (show LY [5,6,7,8] (lU (Y 0) (eZ (X 4)) ii) [Z (gv d p Υ a Ζ Ν E η),Z (.str d),Z (.str p),Z (eS Υ),Z (eS a),U,U,U,U,U,U,U]=Z (.nx [Z (gv d p Υ a Ζ Ν E η),Z (.str d),Z (.str p),Z (eS Υ),Z (eS a),Z (eO Ζ),Z (eO Ν),Z (.bl E),Z (.str η),U,U,U])by lk)];rw[ay (cf (a:=EL d p Υ a Ζ Ν E η (Ą d p) U U) m rfl)];have g:xb (gP 10 11) [11,10] (λh=>Ø ((bJ (dH (q8 (Ð "for") (Ð "under") (Ð "until") (Ð "lasts"))) (lU (Y 0) (eZ (X 2)) (eZ (X 6)))) h) Kh) aL (EL d p Υ a Ζ Ν E η (Ą d p) U U)=Z (.nx (EL d p Υ a Ζ Ν E η b U U)):=by unfold xb;rw[f];exact e
 rw[ay g];exact Oc j
def qO(p:Str):Option (Nat×Q):=match bN [.str p]with|some (.ok (.tup [.int k,d]))=>Z (k.toNat,d)|_=>U
noncomputable def eT:Option (Nat×Q)->Q|none=>.non|some (k,d)=>.tup [.int k,d]
def ſ(p:Str):Bool:=match bN [.str p]with|some (.ok .non)=>L|some (.ok (.tup [.int k,_]))=>s_ (2<=k)&&s_ (k<8)|_=>D
theorem Jr(h:ſ d=L):bN [.str d]=Z (.ok (eT (qO d)))/\∀k a,qO d=Z (k,a)->2<=k/\k<8:=by
 unfold ſ at h;unfold qO;split at h;·rename_i e;rw[e];exact⟨rfl,λk a z=>by cases z⟩
 · rename_i k a e;rw[e];rw[m_,decide_eq_true_eq,decide_eq_true_eq]at h;refine⟨?_,λb f z=>?_⟩;·show _=Z (Rs.ok (Q.tup [.int (k.toNat:Int),a]));rw[Int.toNat_of_nonneg (by omega)]
   ·cases z;omega
 ·cases h
noncomputable def Ť:Str:=b_ " "
noncomputable def Ŭ:Str:=b_ "  "
def iB(b p a:Str):Bool:=seq (We (b++p++a) Ť) p&&!((b++p++a).cps.toList.contains 59)
noncomputable def Ę:Str:=b_ ""
def okS(p:Str):Bool:=iB Ę p Ę&&(iB Ť p Ę&&(iB Ŭ p Ŭ&&(iB Ę p Ŭ&&(iB Ŭ p Ę&&s_ (p.length<=200)))))
def SO(p:Str):Bool:=ſ p&&okS p
noncomputable def Ue:List Str:=[b_ "x=y",b_ "until",b_ "for A",b_ "under b",b_ "lasts 99999",b_ "SAFE",b_ "",b_ "safe near",b_ "until  7"]
noncomputable def Og:List Str:=[b_ "until 17",b_ "under /q",b_ "lasts 4",b_ "for q.r"]
noncomputable def tH(n:Nat):List Int:=(t_ n).map λi:Nat=>(i:Int)
def Ũ:List Str:=En.map (λh=>b_ "for "++h)++(ï.map (λh=>b_ "under "++h)++((tH 60).map (λi=>b_ "until "++is i)++((tH 30).map (λi=>b_ "lasts "++is i)++([b_ "safe",b_ "near"]++(Ue++Og)))))
theorem Jt:Ũ.all SO=L:=by lk
def tS(p:Str)(k:Nat)(s:Str):Bool:=match qO p with|some (j,.str z)=>j==k&&seq z s|_=>D
def tI(p:Str)(k:Nat)(i:Int):Bool:=match qO p with|some (j,.int z)=>j==k&&z==i|_=>D
theorem Oh(h:tS d b p=L):qO d=Z (b,.str p):=by
 unfold tS at h;generalize qO d=o at h⊢;rcases o with _|⟨j,a⟩;·cases h
 ·cases a with|str z=>have e:(j==b&&seq z p)=L:=h;rw[m_]at e;rw[iS e.2,YI e.1]|_=>cases h
theorem Oi(h:tI d b n=L):qO d=Z (b,.int n):=by
 unfold tI at h;generalize qO d=o at h⊢;rcases o with _|⟨j,a⟩;·cases h
 ·cases a with|int z=>have e:(j==b&&z==n)=L:=h;rw[m_]at e;rw[YI e.2,YI e.1]|_=>cases h
theorem Oj:(En.all λh=>tS (b_ "for "++h) 2 h)=L:=by lk
theorem Ol:(ï.all λh=>tS (b_ "under "++h) 3 h)=L:=by lk
theorem Om:((tH 60).all λi=>tI (b_ "until "++is i) 4 i)=L:=by lk
theorem On:((tH 30).all λi=>tI (b_ "lasts "++is i) 5 i)=L:=by lk
theorem RF(q:d∈En):qO (b_ "for "++d)=Z (2,.str d):=Oh (aZ (p:=λd=>tS (b_ "for "++d) 2 d) Oj q)
theorem RG(q:d∈ï):qO (b_ "under "++d)=Z (3,.str d):=Oh (aZ (p:=λd=>tS (b_ "under "++d) 3 d) Ol q)
theorem RH(q:n∈tH 60):qO (b_ "until "++is n)=Z (4,.int n):=Oi (aZ (p:=λn=>tI (b_ "until "++is n) 4 n) Om q)
theorem RI(q:n∈tH 30):qO (b_ "lasts "++is n)=Z (5,.int n):=Oi (aZ (p:=λn=>tI (b_ "lasts "++is n) 5 n) On q)
theorem Oo:qO (b_ "safe")=Z (6,.bl L):=by lk
theorem Op:qO (b_ "near")=Z (7,.str "near"):=by lk
def put(a:List Q)(p:Str):List Q:=match qO p with|none=>a|some (k,d)=>a.set k d
theorem Ju(a:List Q)(p:Str):(put a p).length=a.length:=by unfold put;split<;>simp
theorem tJ:∀l:List Str,à (l.map Q.str)=L|[]=>rfl|x::l=>by show(ğ (.str x)&&à (l.map Q.str))=L;rw[tJ l];rfl
def ER(x:Str)(d e:Q)(a b:Option Q):Ev:=[Z (.str x),Z d,Z e,U,a,b]
theorem Jv{b:Option Q}(h:ſ p=L)(r:H.length=8):∃q,bu (ER d j θ (Z (.str p)) b) H=Z (.nx (ER d j θ (Z (.str p)) q) (put H p)):=by
 obtain⟨e,m⟩:=Jr h;refine⟨Z (eT (qO p)),?_⟩;have n:gQ 5 (ag bN 1 (aq (Y 4))) (ER d j θ (Z (.str p)) b) H=Z (.nx (ER d j θ (Z (.str p)) (Z (eT (qO p)))) H):=by unfold gQ;rw[fV bN (f:=Y 4) (b:=ER d j θ (Z (.str p)) b) (a:=.str p) rfl e];rfl
 unfold bu;show(match gQ 5 (ag bN 1 (aq (Y 4))) (ER d j θ (Z (.str p)) b) H with|some (.nx f g)=>(oIf (fB (R oE (Y 5) (fC .non))) (vO (R Î (Y 5) (X 0)) (R Î (Y 5) (X 1))) Kf) f g|o=>o)=_;rw[n];unfold put;match i:qO p with|none=>rfl|some (k,a)=>have:=m k a i;show(if 0<=(k:Int)/\(k:Int)<H.length then Z (Fo.nx (ER d j θ (Z (.str p)) (Z (.tup [.int k,a]))) (H.set (k:Int).toNat a))else U)=_;rw[if_pos ⟨by omega,by omega⟩];rfl
theorem AV{x:Str}{d i:Q}:∀(g:List Str)(f:List Q)(a b:Option Q),(∀p∈g,ſ p=L)->f.length=8->nU 4 [4,5] bu (g.map Q.str) (ER x d i a b) f=Z (.nx (ER x d i U U) (g.foldl put f))|[],f,a,b,_,_=>rfl|p::g,f,a,b,h,m=>by obtain⟨r,e⟩:=Jv (d:=x) (j:=d) (θ:=i) (b:=U) (H:=f) (h p pi) m;show(match bu (ER x d i (Z (.str p)) U) f with|some (.nx j k)=>nU 4 [4,5] bu (g.map Q.str) j k|o=>o)=_;rw[e];exact AV g (put f p) (Z (.str p)) r (λq n=>h q (rl _ n)) (by rw[Ju];exact m)
def Jz(d w:Str):Bool:=okS (Ą d w)&&(match pN (Ą d w) [.str "="]with|some (.ok (.tup [.str a,.str b,.str c]))=>seq a d&&(seq b (b_ "=")&&seq c w)|_=>D)&&(ń (aP [.str d])&&ń (bP [.str w]))
theorem wp:(ĭ.all λn=>İ.all λw=>Jz n w)=L:=by lk
noncomputable def ś(a w:Str):List Q:=[.str a,.str w,.non,.non,.non,.non,.bl D,.str "any"]
theorem JA{i:List Str}(hx:d.length<=100000)(v:p∈ĭ)(hw:η∈İ)(A:Wy d (b_ ";")=y)(hq:y.length<=100)(ht:y.map (λq=>We q Ť)=Ą p η::i)(hl:∀q∈y,q.length<=1000)(hp:∀g∈i,ſ g=L):aW [.str d]=Z (.ok (.tup (i.foldl put (ś p η)))):=by
 have r:=aZ (p:=λη=>Jz p η) (aZ (p:=λn=>İ.all λη=>Jz n η) wp v) hw;unfold Jz at r;simp only[m_]at r;obtain⟨⟨_,k⟩,h3,h4⟩:=r;have e3:=nF h3;have e4:=nF h4;have e2:pN (Ą p η) [.str "="]=Z (.ok (.tup [.str p,.str "=",.str η])):=by
  split at k;·rename_i a b c e;simp only[m_]at k;rw[e,iS k.1,iS k.2.1,iS k.2.2]
  ·cases k
 have N:dc 1 [] (gl (fM (iV) (Y 0) (aq (Ð ";")))) (gN 0) U (fM (mL) (Y 0) (aq (Ð " "))) [Z (.str d),U,U,U,U,U]=Z (.ok (.lst ((Ą p η::i).map Q.str))):=by
  have m:gl (fM (iV) (Y 0) (aq (Ð ";"))) [Z (.str d),U,U,U,U,U]=Z (.ok (y.map Q.str)):=by
   have z:fM (iV) (Y 0) (aq (Ð ";")) [Z (.str d),U,U,U,U,U]=Z (.ok (.lst (y.map Q.str))):=by show iV d [.str ";"]=_;show(if(b_ ";").length≠0/\d.length<=100000/\(Wy d (b_ ";")).length<=100000 then _ else U)=_;rw[if_pos ⟨by decide,hx,by rw[A];omega⟩,A]
   unfold gl;rw[z];rfl
  have e:=tq (d:=[]) (z:=fM (mL) (Y 0) (aq (Ð " "))) Q.str (λq=>Q.str (We q Ť)) m (by omega) λq u=>by show mL q [.str " "]=_;show(if q.length<=100000 then _ else U)=_;rw[if_pos (by have:=hl q u;omega)];rfl
  rw[e,<-ht,VE];rfl
 let f:Q:=.lst ((Ą p η::i).map Q.str);let T3:Q:=.tup [.str p,.str "=",.str η];have v2:fM (pN) (R Î (Y 1) (X 0)) (aq (Ð "=")) [Z (.str d),Z f,U,U,U,U]=Z (.ok T3):=e2;have c1:(Ċ (fB (R Þ (R Î (Y 2) (X 1)) (Ð ""))) (Ċ (cQ (fB (ag aP 1 (aq (R Î (Y 2) (X 0)))))) (cQ (fB (ag bP 1 (aq (R Î (Y 2) (X 2)))))))) (ER d f T3 U U)=Z (.ok D):=by
  have H:ag aP 1 (aq (R Î (Y 2) (X 0))) (ER d f T3 U U)=bo L:=fV aP rfl e3;have E:ag bP 1 (aq (R Î (Y 2) (X 2))) (ER d f T3 U U)=bo L:=fV bP rfl e4;have I:fB (R Þ (R Î (Y 2) (X 1)) (Ð "")) (ER d f T3 U U)=Z (.ok D):=by lk
  unfold Ċ;rw[I];show(Ċ (cQ (fB (ag aP 1 (aq (R Î (Y 2) (X 0)))))) (cQ (fB (ag bP 1 (aq (R Î (Y 2) (X 2))))))) (ER d f T3 U U)=_;unfold Ċ cQ;rw[bK H,bK E];rfl
 have j:gl (xS (Y 1) (eZ (X 1)) ii) (ER d f T3 U U)=Z (.ok (i.map Q.str)):=by
  have z:xS (Y 1) (eZ (X 1)) ii (ER d f T3 U U)=Z (.ok (.lst (i.map Q.str))):=by show Z (Rs.ok (Q.lst (EU ((Ą p η::i).map Q.str) (Z 1) U)))=_;congr 3;show(((Ą p η::i).map Q.str).drop (min 1 ((Ą p η::i).map Q.str).length)).take (((Ą p η::i).map Q.str).length-min 1 ((Ą p η::i).map Q.str).length)=_;rw[Nat.min_eq_left (by simp)];rw[G_,List.drop_succ_cons,aaP,Yu (by simp)]
  unfold gl;rw[z];rfl
 have o:za 4 [4,5] (gl (xS (Y 1) (eZ (X 1)) ii)) bu (ER d f T3 U U) (ś p η)=Z (.nx (ER d f T3 U U) (i.foldl put (ś p η))):=by unfold za;rw[j];show(if à (i.map Q.str)=L then _ else U)=_;rw[if_pos (tJ i)];exact AV i (ś p η) U U hp rfl
 refine lY ?_;show eD [Z (.str d),U,U,U,U,U]=_;unfold eD;rw[ay (cy (show cQ (fB (f1 (j8 rK) (Y 0))) [Z (.str d),U,U,U,U,U]=Z (.ok D)from rfl))];rw[ay (cf (a:=[Z (.str d),Z f,U,U,U,U]) N rfl)];rw[ay (cf (a:=ER d f T3 U U) v2 rfl)];rw[ay (cy c1)];unfold y9;rw[show(aR (R Î (Y 2) (X 0)) (aR (R Î (Y 2) (X 2)) (vt (fC .non) (fC .non) (fC .non) (fC .non) (fC (.bl D)) (Ð "any")))) (ER d f T3 U U)=Z (.ok (ś p η))from rfl];show(match(gf (za 4 [4,5] (gl (xS (Y 1) (eZ (X 1)) ii)) bu) (y6 3 (â gO (aq (Y 3))))) (ER d f T3 U U) (ś p η)with|some (.nx s w)=>Z (Fl.nx (s.set 3 (Z (.lst w))))|some (.rt h)=>Z (.rt h)|none=>U)=_;unfold gf;rw[o];rfl
theorem jv(a b:Str):(a++b).cps.toList=a.cps.toList++b.cps.toList:=Array.toList_append
def oo(b a:Str):Str->Str->List Str->List Str|pre,x,[]=>[pre++x++Ę]|pre,x,y::l=>(pre++x++b)::oo b a a y l
theorem wq(b a:Str):∀(l:List Str)(pre x:Str),∃q r,oo b a pre x l=q::r|[],_,_=>⟨_,_,rfl⟩|_::_,_,_=>⟨_,_,rfl⟩
def JS:List Str->List Nat|[]=>[]|q::r=>J [59] q.cps.toList (r.map λs=>s.cps.toList)
theorem AW(a x y:Str)(l:List Str):Xs a (x::y::l)=x++a++Xs a (y::l):=by show abz a (x::y::l)=x++a++abz a (y::l);rw[aay,aay];rfl
theorem Oq{d b a:Str}(g:d.cps.toList=b.cps.toList++59::a.cps.toList):∀(l:List Str)(pre x:Str),pre.cps.toList++(Xs d (x::l)).cps.toList=JS (oo b a pre x l)|[],pre,x=>by show pre.cps.toList++x.cps.toList=(pre++x++Ę).cps.toList;rw[jv,jv];show _=_++[];simp|y::l,pre,x=>by have f:=Oq g l a y;obtain⟨q,r,e⟩:=wq b a l a y;rw[AW,jv,jv,g];show _=JS ((pre++x++b)::oo b a a y l);rw[e]at f⊢;show _=(pre++x++b).cps.toList++([59]++J [59] q.cps.toList (r.map λs=>s.cps.toList));rw[show J [59] q.cps.toList (r.map λs=>s.cps.toList)=JS (q::r)from rfl,<-f,jv,jv];simp
def Ş(b a p:Str):Bool:=iB Ę p b&&(iB Ę p Ę&&(iB a p b&&iB a p Ę))
theorem nH(h:iB d p η=L):We (d++p++η) Ť=p/\59∉(d++p++η).cps.toList:=by unfold iB at h;rw[m_]at h;exact⟨iS h.1,by simpa using h.2⟩
theorem AX{b a:Str}:∀(l:List Str)(pre x:Str),(iB pre x b=L/\iB pre x Ę=L)->(∀p∈l,Ş b a p=L)->(oo b a pre x l).map (λq=>We q Ť)=x::l/\∀q∈oo b a pre x l,59∉q.cps.toList
 |[],pre,x,f,_=>by obtain⟨h,g⟩:=nH f.2;exact⟨by show[We (pre++x++Ę) Ť]=[x];rw[h],λq d=>by rw[Uy.mp d];exact g⟩|y::l,pre,x,f,i=>by
  obtain⟨h,g⟩:=nH f.1;have e:=i y pi;unfold Ş at e;simp only[m_]at e;obtain⟨m,k⟩:=AX l a y ⟨e.2.2.1,e.2.2.2⟩ λp j=>i p (rl _ j);refine⟨by show We (pre++x++b) Ť::(oo b a a y l).map _=_;rw[h,m],λq d=>?_⟩;rcases uk.mp d with rfl|d;·exact g
  ·exact k q d
theorem wt{d a:Str}(i:d.length<=2)(g:a.length<=2):∀(l:List Str)(pre x:Str),pre.length<=2->x.length<=200->(∀p∈l,p.length<=200)->(oo d a pre x l).length=l.length+1/\∀q∈oo d a pre x l,q.length<=300
 |[],pre,x,e,h,_=>⟨rfl,λq b=>by
  rw[Uy.mp b,iT,iT];have:Ę.length=0:=by decide
  omega⟩|y::l,pre,x,e,h,f=>by
  obtain⟨k,j⟩:=wt i g l a y g (f y pi) λp e=>f p (rl _ e);refine⟨by show(oo d a a y l).length+1=_;rw[k];rfl,λq b=>?_⟩;rcases uk.mp b with rfl|b;·rw[iT,iT];omega
  ·exact j q b
theorem wu(a:Str)(d:a.length<=10):∀(l:List Str)(x:Str),(∀p∈l,p.length<=200)->(l.foldl (λt y=>t++a++y) x).length<=x.length+l.length*210|[],x,_=>by simp|y::l,x,h=>by have b:=wu a d l (x++a++y) λp e=>h p (rl _ e);have f:=h y pi;rw[iT,iT]at b;show(l.foldl _ (x++a++y)).length<=_;rw[UB];omega
theorem nI{b w:Str}(H:d.cps.toList=p.cps.toList++59::η.cps.toList)(h:d.length<=10)(h1:p.length<=2)(h2:η.length<=2)(j:b∈ĭ)(E:w∈İ)(f:Ş p η (Ą b w)=L)(k:(Ą b w).length<=200)(N:∀a∈y,Ş p η a=L)(o:∀a∈y,a.length<=200)(hn:y.length<=50)(I:∀a∈y,ſ a=L):aW [.str (Xs d (Ą b w::y))]=Z (.ok (.tup (y.foldl put (ś b w)))):=by
 obtain⟨q,r,e⟩:=wq p η y Ę (Ą b w);unfold Ş at f;simp only[m_]at f;obtain⟨v,u⟩:=AX (b:=p) (a:=η) y Ę (Ą b w) ⟨f.1,f.2.1⟩ N;obtain⟨n,m⟩:=wt h1 h2 y Ę (Ą b w) (by decide) k o;have g:=Oq H y Ę (Ą b w);rw[e]at g v u n m;have A:(Xs d (Ą b w::y)).cps.toList=J (b_ ";").cps.toList q.cps.toList (r.map λs=>s.cps.toList):=by
  have z:Ę.cps.toList=[]:=by lk
  rw[z]at g;exact g
 refine JA (y:=q::r) ?_ j E (uY (b:=59) (j:=[]) (by lk) (by lk) u A) (by rw[n];omega) v (λs i=>by have:=m s i;omega) I;rw[nG];have:=wu d h y (Ą b w) o;omega
structure Gw(nm w:Str)(h p:Option Str)(u l:Option Int)(S:Bool)(R:Str):Prop where
 nm:nm∈ĭ
 w:w∈İ
 h:∀x,h=Z x->x∈En
 p:∀x,p=Z x->x∈ï
 u:∀i,u=Z i->0<=i/\i<60l:∀i,l=Z i->0<=i/\i<30r:R=b_ "any"\/R=b_ "near"
theorem Os(g:Gv d p j θ Δ Μ E η):∃h a k m,Gw d p h a k m E η/\Ā d p j θ Δ Μ E η=gv d p h a k m E η:=by
 have y:∃h,j=eS h/\∀x,h=Z x->x∈En:=by
  rcases g.hh with rfl|⟨n,b,rfl⟩;·exact⟨U,rfl,λx e=>by cases e⟩
  ·exact⟨Z n,rfl,λx e=>by cases e;exact b⟩
 have w:∃h,θ=eS h/\∀x,h=Z x->x∈ï:=by
  rcases g.pp with rfl|⟨n,b,rfl⟩;·exact⟨U,rfl,λx e=>by cases e⟩
  ·exact⟨Z n,rfl,λx e=>by cases e;exact b⟩
 have v:∃h,Δ=eO h/\∀x,h=Z x->0<=x/\x<60:=by
  rcases g.u with rfl|⟨n,i,f,rfl⟩;·exact⟨U,rfl,λx e=>by cases e⟩
  ·exact⟨Z n,rfl,λx e=>by cases e;exact⟨i,f⟩⟩
 have u:∃h,Μ=eO h/\∀x,h=Z x->0<=x/\x<30:=by
  rcases g.l with rfl|⟨n,i,f,rfl⟩;·exact⟨U,rfl,λx e=>by cases e⟩
  ·exact⟨Z n,rfl,λx e=>by cases e;exact⟨i,f⟩⟩
 obtain⟨h,rfl,s⟩:=y;obtain⟨a,rfl,r⟩:=w;obtain⟨Δ,rfl,q⟩:=v;obtain⟨Μ,rfl,o⟩:=u;exact⟨h,a,Δ,Μ,⟨g.nm,g.w,s,r,q,o,g.r⟩,rfl⟩
theorem qP:(ĭ.all λx=>s_ (x.length<=50))=L/\(İ.all λx=>s_ (x.length<=50))=L/\(En.all λx=>s_ (x.length<=50))=L/\(ï.all λx=>s_ (x.length<=50))=L:=⟨by lk,by lk,by lk,by lk⟩
theorem AY:(ĭ.all λx=>UV (.str x))=L/\(İ.all λx=>UV (.str x))=L/\(En.all λx=>UV (.str x))=L/\(ï.all λx=>UV (.str x))=L:=⟨by lk,by lk,by lk,by lk⟩
theorem RJ{a:Option Str}(g:Gw d p Υ a Ζ Ν E η):Vv d p Υ a Ζ Ν η:=⟨by simpa using aZ (p:=λx:Str=>s_ (x.length<=50)) qP.1 g.nm,by simpa using aZ (p:=λx:Str=>s_ (x.length<=50)) qP.2.1 g.w,λx e=>by simpa using aZ (p:=λx:Str=>s_ (x.length<=50)) qP.2.2.1 (g.h x e),λx e=>by simpa using aZ (p:=λx:Str=>s_ (x.length<=50)) qP.2.2.2 (g.p x e),λi e=>by have:=g.u i e;omega,λi e=>by have:=g.l i e;omega⟩
theorem RK(o:Option Int):ě 0 (eO o):=by cases o;exact NW;exact tu
def PL(h p:Option Str)(u l:Option Int)(S:Bool)(R:Str):List Str:=(oS "for " h).toList++((oS "under " p).toList++((oI "until " u).toList++((oI "lasts " l).toList++((oB "safe" S).toList++((oB "near" (lG R)).toList++[])))))
theorem Ot{a:Option Str}:Xs (b_ "; ") (Ą d p::PL Υ a Ζ Ν E η)=T d p Υ a Ζ Ν E η:=by rw[nG];unfold PL;rw[jE,jE,jE,jE,jE,jE];rfl
theorem mq(d:0<=n)(a:n<b):n∈tH b:=by unfold tH;exact Ux.mpr ⟨n.toNat,UZ.mpr (by omega),by omega⟩
theorem Ou{a:Option Str}(g:Gw d p Υ a Ζ Ν E η):∀x∈PL Υ a Ζ Ν E η,x∈Ũ:=by
 intro x b;simp only[PL,R_,Option.mem_toList,O_,or_false]at b;unfold Ũ;rcases b with e|e|e|e|e|e;·refine K_ _ ?_;cases Υ with|none=>cases e|some y=>cases e;exact Ux.mpr ⟨y,g.h y rfl,rfl⟩
 ·refine o_ _ (K_ _ ?_);cases a with|none=>cases e|some y=>cases e;exact Ux.mpr ⟨y,g.p y rfl,rfl⟩
 ·refine o_ _ (o_ _ (K_ _ ?_));cases Ζ with|none=>cases e|some y=>cases e;exact Ux.mpr ⟨y,mq (g.u y rfl).1 (g.u y rfl).2,rfl⟩
 ·refine o_ _ (o_ _ (o_ _ (K_ _ ?_)));cases Ν with|none=>cases e|some y=>cases e;exact Ux.mpr ⟨y,mq (g.l y rfl).1 (g.l y rfl).2,rfl⟩
 · refine o_ _ (o_ _ (o_ _ (o_ _ (K_ _ ?_))));unfold oB at e;split at e;·cases e;simp
   ·cases e
 · refine o_ _ (o_ _ (o_ _ (o_ _ (K_ _ ?_))));unfold oB at e;split at e;·cases e;simp
   ·cases e
structure Ptk(x:Str):Prop where
 t:ſ x=L
 q1:Ş Ę Ť x=L
 q2:Ş Ę Ę x=L
 q3:Ş Ŭ Ŭ x=L
 l:x.length<=200n:59∉x.cps.toList
theorem Ov(h:okS d=L):Ş Ę Ť d=L/\Ş Ę Ę d=L/\Ş Ŭ Ŭ d=L/\d.length<=200/\59∉d.cps.toList:=by unfold okS at h;simp only[m_,decide_eq_true_eq]at h;obtain⟨a,b,j,i,g,f⟩:=h;unfold Ş;simp only[m_];refine⟨⟨a,a,b,b⟩,⟨a,a,a,a⟩,⟨i,a,j,g⟩,f,?_⟩;have:=(nH a).2;rw[jv,jv]at this;intro e;exact this (K_ _ (o_ _ e))
theorem Ÿ(a:d∈Ũ):Ptk d:=by have h:=aZ Jt a;unfold SO at h;rw[m_]at h;obtain⟨i,g,f,e,b⟩:=Ov h.2;exact⟨h.1,i,g,f,e,b⟩
theorem JC(b:d∈ĭ)(e:p∈İ):okS (Ą d p)=L:=by have a:=aZ (p:=λp=>Jz d p) (aZ (p:=λn=>İ.all λp=>Jz n p) wp b) e;unfold Jz at a;simp only[m_]at a;exact a.1.1
theorem JD(e:d∈ĭ)(f:p∈İ)(b:∀x∈y,x∈Ũ)(g:y.length<=50):aW [.str (Xs (b_ "; ") (Ą d p::y))]=Z (.ok (.tup (y.foldl put (ś d p))))/\aW [.str (Xs (b_ ";") (Ą d p::y))]=Z (.ok (.tup (y.foldl put (ś d p))))/\aW [.str (Xs (b_ "  ;  ") (Ą d p::y))]=Z (.ok (.tup (y.foldl put (ś d p)))):=by obtain⟨f1,R,i,h,j⟩:=Ov (JC e f);exact⟨nI (p:=Ę) (η:=Ť) (by lk) (by decide) (by decide) (by decide) e f f1 h (λx a=>(Ÿ (b x a)).q1) (λx a=>(Ÿ (b x a)).l) g λx a=>(Ÿ (b x a)).t,nI (p:=Ę) (η:=Ę) (by lk) (by decide) (by decide) (by decide) e f R h (λx a=>(Ÿ (b x a)).q2) (λx a=>(Ÿ (b x a)).l) g λx a=>(Ÿ (b x a)).t,nI (p:=Ŭ) (η:=Ŭ) (by lk) (by decide) (by decide) (by decide) e f i h (λx a=>(Ÿ (b x a)).q3) (λx a=>(Ÿ (b x a)).l) g λx a=>(Ÿ (b x a)).t⟩
theorem Ow{p:Option Str}:(PL Υ p Ζ Ν E d).length<=6:=by have f1:=o8 (oS "for " Υ);have a:=o8 (oS "under " p);have g:=o8 (oI "until " Ζ);have f:=o8 (oI "lasts " Ν);have e:=o8 (oB "safe" E);have b:=o8 (oB "near" (lG d));simp[PL];omega
noncomputable def gs(o:Option Str)(c:Q):Q:=match o with|none=>c|some x=>.str x
noncomputable def gi(o:Option Int)(c:Q):Q:=match o with|none=>c|some x=>.int x
noncomputable def gb(o:Bool)(c d:Q):Q:=if o then d else c
theorem Uf(j:∀x,Υ=Z x->x∈En)(h:List Str)(a b c d e f g i:Q):((oS "for " Υ).toList++h).foldl put [a,b,c,d,e,f,g,i]=h.foldl put [a,b,gs Υ c,d,e,f,g,i]:=by cases Υ with|none=>rfl|some x=>show h.foldl put (put _ (b_ "for "++x))=_;unfold put;rw[RF (j x rfl)];rfl
theorem Ug(j:∀x,Υ=Z x->x∈ï)(h:List Str)(a b c d e f g i:Q):((oS "under " Υ).toList++h).foldl put [a,b,c,d,e,f,g,i]=h.foldl put [a,b,c,gs Υ d,e,f,g,i]:=by cases Υ with|none=>rfl|some x=>show h.foldl put (put _ (b_ "under "++x))=_;unfold put;rw[RG (j x rfl)];rfl
theorem Uh(j:∀x,Ζ=Z x->0<=x/\x<60)(h:List Str)(a b c d e f g i:Q):((oI "until " Ζ).toList++h).foldl put [a,b,c,d,e,f,g,i]=h.foldl put [a,b,c,d,gi Ζ e,f,g,i]:=by cases Ζ with|none=>rfl|some x=>show h.foldl put (put _ (b_ "until "++is x))=_;unfold put;rw[RH (mq (j x rfl).1 (j x rfl).2)];rfl
theorem Ui(j:∀x,Ζ=Z x->0<=x/\x<30)(h:List Str)(a b c d e f g i:Q):((oI "lasts " Ζ).toList++h).foldl put [a,b,c,d,e,f,g,i]=h.foldl put [a,b,c,d,e,gi Ζ f,g,i]:=by cases Ζ with|none=>rfl|some x=>show h.foldl put (put _ (b_ "lasts "++is x))=_;unfold put;rw[RI (mq (j x rfl).1 (j x rfl).2)];rfl
theorem Uj(h:List Str)(a b c d e f g i:Q):((oB "safe" E).toList++h).foldl put [a,b,c,d,e,f,g,i]=h.foldl put [a,b,c,d,e,f,gb E g (.bl L),i]:=by cases E with|false=>rfl|true=>show h.foldl put (put _ (b_ "safe"))=_;unfold put;rw[Oo];rfl
theorem Uk(k:Bool)(h:List Str)(a b c d e f g i:Q):((oB "near" k).toList++h).foldl put [a,b,c,d,e,f,g,i]=h.foldl put [a,b,c,d,e,f,g,gb k i (.str "near")]:=by cases k with|false=>rfl|true=>show h.foldl put (put _ (b_ "near"))=_;unfold put;rw[Op];rfl
theorem Ox{h:Option Str}(g:Gw d p Υ h Ζ Ν E η)(a b c j e f k i:Q):(PL Υ h Ζ Ν E η).foldl put [a,b,c,j,e,f,k,i]=[a,b,gs Υ c,gs h j,gi Ζ e,gi Ν f,gb E k (.bl L),gb (lG η) i (.str "near")]:=by unfold PL;rw[Uf g.h,Ug g.p,Uh g.u,Ui g.l,Uj,Uk];rfl
theorem Oy{a:Option Str}(g:Gw d p Υ a Ζ Ν E η):gb (lG η) (.str "any") (.str "near")=.str η:=by rcases g.r with e|e<;>rw[e]<;>rfl
theorem FL(o:Option Str):gs o .non=eS o:=by cases o<;>rfl
theorem FM(o:Option Int):gi o .non=eO o:=by cases o<;>rfl
theorem Ul(S:Bool):gb S (.bl D) (.bl L)=.bl S:=by cases S<;>rfl
theorem RL{a:Option Str}(g:Gw d p Υ a Ζ Ν E η):Q.tup ((PL Υ a Ζ Ν E η).foldl put (ś d p))=gv d p Υ a Ζ Ν E η:=by unfold ś;rw[Ox g,Oy g,FL,FL,FM,FM,Ul]
theorem Oz(i:Int):aD [.int i]=bo (s_ (0<=i)&&s_ (i<=9999)):=by
 have e:aU [.int i,.int 0,.int 9999]=bo (s_ (0<=i)&&s_ (i<=9999)):=by
  by_cases a:0<=i;·simp[aU,bR,ba,aN,sq,br,aO,db,Ø,Ċ,cQ,fB,ă,Y,f1,R,jS,j8,gm,rT,Ļ,a]
  ·simp[aU,bR,ba,aN,sq,br,aO,db,Ø,Ċ,cQ,fB,ă,Y,f1,R,jS,j8,gm,rT,Ļ,a]
 have b:bf [.int i]=bo (s_ (0<=i)&&s_ (i<=9999)):=by simp[bf,bR,fj,aO,db,Ø,ag,aR,bQ,Y,fC,e]
 simp[aD,bR,bj,aO,db,Ø,ă,ag,aR,bQ,Y,fC,R,Ķ,Ď,b]
theorem OA{a:Option Str}(g:Gw d p Υ a Ζ Ν E η):aW [.str (T d p Υ a Ζ Ν E η)]=Z (.ok (gv d p Υ a Ζ Ν E η)):=by have:=(JD (d:=d) (p:=p) g.nm g.w (Ou g) (UD Ow (by omega))).1;rw[Ot,RL g]at this;exact this
abbrev ntn(f w a:Str)(g:Bool)(d:Str)(e:Q)(S:Bool)(R:Str)(b:Int):Q:=.tup [.str f,.str w,.str a,.bl g,.str d,e,.bl S,.str R,.int b,.int b]
theorem Eb(h:ě b j)(a:b<=64):ė j j=Z (.ok (.bl D)):=uZ (h.okP a) h.p
noncomputable def FN(u l:Q)(a:Int):Q:=match l with|.int i=>.int (if 9999<a+i then 9999 else a+i)|_=>u
theorem OB(g:Gv d p j θ Δ Μ E η):jk [Ā d p j θ Δ Μ E η,.int n]=Z (.ok (FN Δ Μ n)):=by
 rcases g.l with rfl|⟨i,i0,a,rfl⟩;·simp[jk,bR,jj,aN,sq,br,aO,db,Ø,fB,ă,Y,fC,R,Î,ą,Ď,FN]
 ·simp[jk,bR,jj,aN,sq,br,aO,db,Ø,fB,ă,aR,bQ,Y,fC,R,Î,ą,â,Ď,cD,Mj,FN]
theorem OC(g:Gv d p j θ Δ Μ E η)(a:0<=n):Mo (FN Δ Μ n):=by
 rcases g.l with rfl|⟨i,i0,b,rfl⟩;·exact g.mu
 ·refine .inr ⟨_,?_,?_,rfl⟩<;>split<;>omega
theorem FP{h b:Str}{O:Q}{e f:Str}{i:Bool}(v:H∈k9 é)(a:Ak h b O)(g:Gv d p j θ Δ Μ E η)(o:0<=n)(m:n<=9999)(W:Wt H h b O d p j θ Δ Μ E η Ã e f i .non):dz [.tup H,û Ã h b O,Ā d p j θ Δ Μ E η,.int n]=Z (.ok (ntn d p e i f (FN Δ Μ n) E η n)):=by have A:=RA (ju v);have z:=RB (DV (E:=Ã) a);have y:=SL (AR g);have w:=Jm (tE o m);have k:=W.why;have u:=W.hf;have s:=W.ix;have r:=W.pf;have q:=OB (n:=n) g;simp[dz,gJ,qi,aN,sq,br,aO,eW,db,Ø,fB,ă,ag,aG,aR,bQ,Y,fC,R,Î,ą,dH,oE,A,z,y,w,k,u,s,r,q]
namespace J
theorem FQ{b:è}(d:Ξ ε=Z (.ok E))(a:b ε=Z (.ok Ã)):Ċ Ξ b ε=Z (.ok (E||Ã)):=by
 unfold Ċ;rw[d];cases E;·exact a
 ·rfl
theorem Oz(i:Int):bf [.int i]=bo (s_ (0<=i)&&s_ (i<=9999)):=by
 have e:aU [.int i,.int 0,.int 9999]=bo (s_ (0<=i)&&s_ (i<=9999)):=by
  by_cases a:0<=i;·simp[aU,bR,ba,aN,sq,br,aO,db,Ø,Ċ,cQ,fB,ă,Y,f1,R,jS,j8,gm,rT,Ļ,a]
  ·simp[aU,bR,ba,aN,sq,br,aO,db,Ø,Ċ,cQ,fB,ă,Y,f1,R,jS,j8,gm,rT,Ļ,a]
 simp[bf,bR,fj,aO,db,Ø,ag,aR,bQ,Y,fC,e]
theorem tE(b:0<=n)(a:n<=9999):bf [.int n]=bo L:=by rw[Oz];simp[b,a]
theorem qL(h:d=b_ "any"\/d=b_ "near"):fm [.str d]=bo L/\∃r,Þ (.str d) (.str "any")=bo r/\Þ (.str d) (.str "near")=bo (!r):=by
 rcases h with rfl|rfl;·exact⟨by lk,L,by lk,by lk⟩
 ·exact⟨by lk,D,by lk,by lk⟩
structure aj where
 nm:Str
 w:Str
 house:Str
 ex:Bool
 path:Str
 ends:Option Int
 S:Bool
 R:Str
 md:Int
 us:Int
deriving DecidableEq
def Õ(n:aj):Q:=.tup [.str n.nm,.str n.w,.str n.house,.bl n.ex,.str n.path,eO n.ends,.bl n.S,.str n.R,.int n.md,.int n.us]
noncomputable def ek(n:aj):Q:=.tup [.str n.nm,.str n.house,.str n.path]
noncomputable def key(n:aj):List Str:=[n.nm,n.house,n.path]
structure ç(n:aj):Prop where
 nm:n.nm∈ĭ
 w:n.w∈İ
 house:n.house∈En
 path:n.path∈ï
 R:n.R=b_ "any"\/n.R=b_ "near"ends:∀i,n.ends=Z i->0<=i/\i<=9999mk0:0<=n.md
 mu:n.md<=n.us
 us:n.us<=200
variable{π:aj}
theorem RM(g:ç π):Mo (eO π.ends):=by cases h:π.ends with|none=>exact .inl rfl|some i=>exact .inr ⟨i,(g.ends i h).1,by have:=(g.ends i h).2;omega,rfl⟩
theorem OD(g:ç π):gu [Õ π]=bo L:=by
 have a:bX [Õ π,.int 10]=bo L:=by lk
 have e:=tE g.mk0 (by have:=g.mu;have:=g.us;omega);have d:=tE (Int.le_trans g.mk0 g.mu) (by have:=g.us;omega);have b:aD [eO π.ends]=bo L:=AN (RM g);unfold Õ at a⊢;simp[gu,bR,kB,aN,sq,br,aO,db,Ø,Ċ,cQ,fB,ă,ag,aR,bQ,Y,fC,f1,R,Î,ą,gK,â,j8,gm,a,e,d,SI g.nm,SJ g.w,N6 g.house,Rz g.path,b,(qL g.R).1,pL,ki,Ļ,g.mu]
def ÿ:List Str:=ĭ++(İ++(En++(ï++[b_ "any",b_ "near"])))
theorem AY:(ÿ.all λx=>UV (.str x))=L:=by lk
theorem tK(h:d∈ÿ):UV (.str d)=L:=aZ (p:=λd=>UV (.str d)) AY h
theorem ç.sR(g:ç π):π.R∈ÿ:=by unfold ÿ;rcases g.R with h|h<;>rw[h]<;>simp
theorem AZ(g:ç π):ě 1 (Õ π):=by
 refine nv (b:=0) λd a=>?_;simp only[uk,O_,or_false]at a;rcases a with rfl|rfl|rfl|rfl|rfl|rfl|rfl|rfl|rfl|rfl;·exact jQ (tK (by simp[ÿ,g.nm]))
 ·exact jQ (tK (by simp[ÿ,g.w]))
 ·exact jQ (tK (by simp[ÿ,g.house]))
 ·exact NV
 ·exact jQ (tK (by simp[ÿ,g.path]))
 ·exact RK _
 ·exact NV
 ·exact jQ (tK g.sR)
 ·exact tu
 ·exact tu
theorem OE(g:ç π):ě 1 (ek π):=by
 refine nv (b:=0) λd a=>?_;simp only[uk,O_,or_false]at a;rcases a with rfl|rfl|rfl;·exact jQ (tK (by simp[ÿ,g.nm]))
 ·exact jQ (tK (by simp[ÿ,g.house]))
 ·exact jQ (tK (by simp[ÿ,g.path]))
theorem OF(a b:aj):Vr (gI (ek a)) (gI (ek b))=s_ (key a=key b):=by rw[VO];simp[ek,key,gI,ó,Vr,Wp]
theorem JE{b:aj}(h:ç π)(g:ç b):Þ (ek π) (ek b)=bo (s_ (key π=key b))/\ė (ek π) (ek b)=bo (!s_ (key π=key b)):=by
 have e:=(OE h).okP (by omega);have d:=(OE g).okP (by omega);have a:=OF π b;have f:Ś (ek π) (ek b)=U:=rfl;constructor;·unfold Þ;rw[f,e,d,a];rfl
 ·unfold ė;rw[f,e,d,a];rfl
noncomputable def ĕ(n:aj)(a:Int):Bool:=match n.ends with|none=>D|some i=>s_ (i<=a)
def ej(a:List aj):Q:=.tup (a.map Õ)
structure Ň(js:List aj):Prop where
 g:∀n∈js,ç n
 s:∀i(h:i+1<js.length),js[i].md<=js[i+1].md
 k:(js.map key).Nodup
 l:js.length<=20
theorem FU{a:Type}{o:Option (Rs δ)}{k:δ->Option (Rs a)}(h:o=Z (.ok Ë)):Ø o k=k Ë:=by rw[h];rfl
theorem u4:∀(n:Nat)(lo:Int),rng lo n=(t_ n).map λi:Nat=>Q.int (lo+(i:Int))
 |0,lo=>rfl|n+1,lo=>by
  rw[aah];show Q.int lo::rng (lo+1) n=_;rw[u4 n (lo+1)];simp only[G_,VE];congr 1;·simp
  ·congr 1;funext i;simp only[YL];congr 1;omega
theorem A0{f g:kj}{a:Ev}{b:List Q}(h:f ε H=Z (.nx a b)):gf f g ε H=g a b:=by unfold gf;rw[h]
theorem JF(h:ε[b]?=Z (Z (.lst H))):gl (Y b) ε=Z (.ok H):=by unfold gl Y;rw[h];rfl
variable{i:List aj}
theorem kW(h:ε[b]?=Z (Z (ej i))):gl (Y b) ε=Z (.ok (i.map Õ)):=by unfold gl Y;rw[h];rfl
theorem JG(b:∀o∈i,ç o):ě 2 (.lst (i.map Õ)):=wo λd e=>by obtain⟨x,a,rfl⟩:=Ux.mp e;exact AZ (b x a)
theorem JH(b:∀o∈i,ç o):ě 2 (ej i):=nv λd e=>by obtain⟨x,a,rfl⟩:=Ux.mp e;exact AZ (b x a)
theorem nil_eq(b:∀o∈i,ç o):Þ (.lst (i.map Õ)) (.lst [])=bo i.isEmpty:=by cases i with|nil=>lk|cons o rest=>
 have i2:=(JG b).okP (by omega);have a:okP (.lst [])=L:=by lk
 unfold Þ;rw[show Ś (.lst ((o::rest).map Õ)) (.lst [])=U from rfl,i2,a];simp[gI,ó,Vr,Wp]
theorem tL:∀l:List Int,à (l.map Q.int)=L|[]=>rfl|i::l=>by show(ğ (.int i)&&à (l.map Q.int))=L;rw[tL l];rfl
theorem Ba(a b:Int):cw (.int a) (.int b)=Z (.ok (.int (a+b))):=rfl
structure JI(B:Nat)(js:List aj)(now:Int):Prop where
 g:∀n∈js,ç n
 s:js.Pairwise λa b=>a.md<=b.md
 k:(js.map key).Nodup
 l:js.length<=B
 n0:0<=now
 n1:now<=3*B
 m:∀n∈js,n.md<=now
 u:∀n∈js,n.us<=now+4
theorem JI.keep(J:JI b i n)(f:0<=Á)(e:Á<4):JI (b+1) i (n+Á):=⟨J.g,J.s,J.k,by have:=J.l;omega,by have:=J.n0;omega,by have:=J.n1;omega,λa d=>by have:=J.m a d;omega,λa d=>by have:=J.u a d;omega⟩
theorem JI.add(J:JI b i n)(v:0<=Á)(u:Á<4)(g:ç π)(q:π.us<=n+Á+4)(p:π.md=n+Á)(s:i.filter (λo=>s_ (key o=key π))=[]):JI (b+1) (i++[π]) (n+Á):=by
 have r:∀o∈i,key o≠key π:=λo k e=>by have:o∈i.filter (λo=>s_ (key o=key π)):=UR.mpr ⟨k,by simp[e]⟩;rw[s]at this;cases this
 refine⟨λx f=>?_,?_,?_,by have:=J.l;simp;omega,by have:=J.n0;omega,by have:=J.n1;omega,λx f=>?_,λx f=>?_⟩
 · rcases R_.mp f with h|h;·exact J.g x h
   ·rw[Uy.mp h];exact g
 ·refine aaM.mpr ⟨J.s,X8 ..,λa m d j=>?_⟩;rw[Uy.mp j,p];have:=J.m a m;omega
 ·rw[Vx];refine WG.mpr ⟨J.k,by simp,λa m d j e=>?_⟩;obtain⟨o,k,rfl⟩:=Ux.mp m;simp only[G_,Yw,Uy]at j;exact r o k (e.trans j)
 · rcases R_.mp f with h|h;·have:=J.m x h;omega
   ·rw[Uy.mp h,p];omega
 · rcases R_.mp f with h|h;·have:=J.u x h;omega
   ·rw[Uy.mp h];exact q
theorem JI.jar(J:JI b i n)(d:b<=20):Ň i:=⟨J.g,λa h=>Wx.mp J.s a (a+1) (by omega) h (by omega),J.k,by have:=J.l;omega⟩
noncomputable def jb(b:List Int)(z m a:Int):Ev:=[Z (.scr b),Z (.int z),Z (.int m),U,Z (.int a),U,U,U,U,U,U,U,U,U,U,U]
def cJ:è:=(fB (R Þ (du [("_law_note",15)] (gl (Y 3)) (Z (fB (R Þ (dH (bS (R Î (Y 0) (X 0)) (R Î (Y 0) (X 2)) (R Î (Y 0) (X 4)))) (dH (bS (R Î (Y 1) (X 0)) (R Î (Y 1) (X 2)) (R Î (Y 1) (X 4))))))) (Y 0)) (gK bQ)))
theorem RN(d:∀o∈i,ç o)(g:ç π)(j:i.length<=20)(f:ε[3]?=Z (Z (.lst (i.map Õ))))(b:ε[15]?=Z (Z (Õ π))):cJ ε=Z (.ok (i.filter (λo=>s_ (key o=key π))).isEmpty):=by
 have e:EM [("_law_note",15)] ε=[U,Z (Õ π)]:=by simp[EM,b]
 have h:=kQ (d:=[("_law_note",15)]) (ν:=gl (Y 3)) (Ξ:=(fB (R Þ (dH (bS (R Î (Y 0) (X 0)) (R Î (Y 0) (X 2)) (R Î (Y 0) (X 4)))) (dH (bS (R Î (Y 1) (X 0)) (R Î (Y 1) (X 2)) (R Î (Y 1) (X 4))))))) (z:=Y 0) (ε:=ε) Õ (λo=>s_ (key o=key π)) Õ (JF f) (by omega) λo a=>⟨by rw[e];exact bK ((bi (j:=ek o) (θ:=ek π) rfl rfl).trans (JE (d o a) g).1),by rw[e];rfl⟩;exact bK ((bi h rfl).trans (nil_eq λo a=>d o (UR.mp a).1))
theorem Bb(e:List Int)(g:e.length<=63)(z m d k:Int){B:Nat}{p:List aj}(J:JI B p d)(hB:B<=10):∃u v q,bO ((jb e z m d).set 5 (Z (.int k))) (p.map Õ)=Z (.nx u (v.map Õ))/\fgt [5,6,7,8,9,10,11,12,13,14,15] u=jb e z m q/\JI (B+1) v q:=by
 obtain⟨b,hh⟩:∃b,b=z+1+14*k:=⟨_,rfl⟩;obtain⟨f,a0,b0,e0⟩:=aX e g b 4 (by omega);obtain⟨d1,a1,b1,e1⟩:=aX e g (b+1) 4 (by omega);obtain⟨d2,a2,b2,e2⟩:=aX e g (b+2) 3 (by omega);obtain⟨I,a4,b4,e4⟩:=aX e g (b+4) 2 (by omega);obtain⟨d6,a6,b6,e6⟩:=aX e g (b+6) 2 (by omega);obtain⟨d7,a7,b7,e7⟩:=aX e g (b+7) 60 (by omega);obtain⟨d8,a8,b8,e8⟩:=aX e g (b+8) 2 (by omega);obtain⟨d9,a9,b9,e9⟩:=aX e g (b+9) 3 (by omega);obtain⟨h,e',d',c'⟩:=aX e g (b+10) 5 (by omega);obtain⟨n3,b',e3⟩:=nA e g (b+3);obtain⟨p5,N,e5⟩:=u0 e g (b+5);obtain⟨x1,m1,i1⟩:=iY (H:=[.str "n",.str "m-1",.str "safe-a",.str "N_2"]) a1 b1;obtain⟨x2,m2,i2⟩:=iY (H:=[.str "5",.str "",.str "a!b~"]) a2 b2;obtain⟨x6,m6,i6⟩:=iY (H:=[.non,.int d7]) a6 b6;obtain⟨x9,m9,i9⟩:=iY (H:=[.str "any",.str "any",.str "near"]) a9 b9;have g1:∃s∈ĭ,x1=.str s:=by simp only[uk,O_,or_false]at m1;rcases m1 with rfl|rfl|rfl|rfl<;>exact⟨_,by simp[ĭ],rfl⟩
 have g2:∃s∈İ,x2=.str s:=by simp only[uk,O_,or_false]at m2;rcases m2 with rfl|rfl|rfl<;>exact⟨_,by simp[İ],rfl⟩
 have g6:∃o:Option Int,(∀i,o=Z i->0<=i/\i<=9999)/\x6=eO o:=by
  simp only[uk,O_,or_false]at m6;rcases m6 with rfl|rfl;·exact⟨U,by simp,rfl⟩
  ·exact⟨Z d7,λi hi=>by cases hi;omega,rfl⟩
 have g9:∃a,(a=b_ "any"\/a=b_ "near")/\x9=.str a:=by
  simp only[uk,O_,or_false]at m9;rcases m9 with rfl|rfl|rfl;·exact⟨_,.inl rfl,rfl⟩
  ·exact⟨_,.inl rfl,rfl⟩
  ·exact⟨_,.inr rfl,rfl⟩
 obtain⟨s,a',rfl⟩:=g1;obtain⟨w,hw,rfl⟩:=g2;obtain⟨o,ho,rfl⟩:=g6;obtain⟨a,hR,rfl⟩:=g9;let n:aj:=⟨s,w,n3,I==0,p5,o,d8==0,a,d+f,d+f+h⟩;have q0:=J.n0;have q1:=J.n1;have gn:ç n:=⟨a',hw,me b',N,hR,ho,by show 0<=d+f;omega,by show d+f<=d+f+h;omega,by show d+f+h<=200;omega⟩;let j:Ev:=[Z (.scr e),Z (.int z),Z (.int m),U,Z (.int (d+f)),Z (.int k),Z (.int b),Z (.str s),Z (.str w),Z (eO o),Z (.bl (I==0)),Z (.tup [.str s,.str w,.str n3,.bl (I==0),.str p5]),Z (.str a),Z (.bl (d8==0)),Z (.int (d+f+h)),Z (Õ n)];have E:=RN (ε:=j.set 3 (Z (.lst (p.map Õ)))) J.g gn (by have:=J.l;omega) rfl rfl;have A:jM (.int 14) (.int k)=Z (.ok (.int (14*k))):=ny (.inl (by omega));have y:bO ((jb e z m d).set 5 (Z (.int k))) (p.map Õ)=Hs 3 cJ (CB (Y 15)) Kf j (p.map Õ):=by have eB:bO=(gf (gQ 6 (R cw (R cw (Y 1) (X 1)) (R jM (X 14) (Y 5)))) (gf (gQ 4 (R cw (Y 4) (ag ac 3 (bS (Y 0) (Y 6) (X 4))))) (gf (gQ 7 (R Î (gK (q8 (Ð "n") (Ð "m-1") (Ð "safe-a") (Ð "N_2"))) (ag ac 3 (bS (Y 0) (R cw (Y 6) (X 1)) (X 4))))) (gf (gQ 8 (R Î (gK (bS (Ð "5") (Ð "") (Ð "a!b~"))) (ag ac 3 (bS (Y 0) (R cw (Y 6) (X 2)) (X 3))))) (gf (gQ 9 (R Î (gK (bJ (fC .non) (ag ac 3 (bS (Y 0) (R cw (Y 6) (X 7)) (X 60))))) (ag ac 3 (bS (Y 0) (R cw (Y 6) (X 6)) (X 2))))) (gf (gQ 10 (R Þ (ag ac 3 (bS (Y 0) (R cw (Y 6) (X 4)) (X 2))) (X 0))) (gf (gQ 11 (dH (nR (Y 7) (Y 8) (ag aQ 2 (bJ (Y 0) (R cw (Y 6) (X 3)))) (Y 10) (ag cC 2 (bJ (Y 0) (R cw (Y 6) (X 5))))))) (gf (gQ 12 (R Î (gK (bS (Ð "any") (Ð "any") (Ð "near"))) (ag ac 3 (bS (Y 0) (R cw (Y 6) (X 9)) (X 3))))) (gf (gQ 13 (R Þ (ag ac 3 (bS (Y 0) (R cw (Y 6) (X 8)) (X 2))) (X 0))) (gf (gQ 14 (R cw (Y 4) (ag ac 3 (bS (Y 0) (R cw (Y 6) (X 10)) (X 5))))) (gf (gQ 15 (R cw (Y 11) (dH (nR (Y 9) (Y 13) (Y 12) (Y 4) (Y 14))))) (Hs 3 cJ (CB (Y 15)) Kf)))))))))))):=rfl;rw[eB];subst hh;simp[jb,gf,gQ,w8,Ø,ag,aR,bQ,Y,fC,R,dH,gK,Ba,A,e0,e1,e2,e3,e4,e5,e6,e7,e8,e9,c',i1,i2,i6,i9,Þ,kT,tt,j,Õ,n];simp[cw]
 rw[y];cases H:(p.filter (λo=>s_ (key o=key n)))with|nil=>rw[H]at E;refine⟨j,p++[n],d+f,?_,rfl,J.add a0 b0 gn (by show d+f+h<=d+f+4;omega) rfl H⟩;unfold Hs;rw[E];show(if(p.map Õ).length<100000 then _ else _)=_;rw[if_pos (by have:=J.l;simp;omega)];show Z (Fo.nx _ (p.map Õ++[Õ n]))=_;simp|cons c r=>rw[H]at E;refine⟨j,p,d+f,?_,rfl,J.keep a0 b0⟩;unfold Hs;rw[E];rfl
theorem ww(n:List Int)(u:n.length<=63)(z m:Int):∀(f:List Int)(j:Ev)(b:Int)(B:Nat)(i:List aj),B+f.length<=10->fgt [5,6,7,8,9,10,11,12,13,14,15] j=jb n z m b->JI B i b->∃d a,nU 5 [5,6,7,8,9,10,11,12,13,14,15] bO (f.map Q.int) j (i.map Õ)=Z (.nx (jb n z m a) (d.map Õ))/\JI (B+f.length) d a|[],j,b,B,i,_,h,J=>⟨i,b,by show Z (Fo.nx _ _)=_;rw[h],J⟩|k::f,j,b,B,i,v,h,J=>by simp only[UB]at v;obtain⟨g,d,a,e,q,A⟩:=Bb n u z m b k J (by omega);obtain⟨s,p,w,y⟩:=ww n u z m f g a (B+1) d (by omega) q A;refine⟨s,p,?_,by rw[UB,show B+(f.length+1)=B+1+f.length by omega];exact y⟩;show(match bO ((fgt _ j).set 5 (Z (.int k))) (i.map Õ)with|some (.nx g r)=>nU 5 _ bO (f.map Q.int) g r|o=>o)=_;rw[h,e];exact w
theorem OG(a:List Int)(u:a.length<=63)(z:Int)(m:Nat)(A:m<=8):∃b f,gk [.scr a,.int z,.int m]=Z (.ok (ej b))/\Ň b/\b.length<=m/\JI m b f:=by
 obtain⟨d,H,E,w⟩:=aX a u z (m+1) (by omega);obtain⟨c,rfl⟩:∃c:Nat,d=(c:Int):=⟨d.toNat,by omega⟩;have v:xR [.int (c:Int)]=Z (.ok (((t_ c).map λi:Nat=>(i:Int)).map Q.int)):=by rw[NU (by omega),u4];simp
 obtain⟨b,f,e,J⟩:=ww a u z m ((t_ c).map λi:Nat=>(i:Int)) (jb a z m 0) 0 0 [] (by simp;omega) rfl ⟨by simp,ZC,by simp,by simp,by omega,by omega,by simp,by simp⟩;have p:((t_ c).map λi:Nat=>(i:Int)).length=c:=by simp
 rw[p]at J;have I:=J.l;refine⟨b,f,?_,J.jar (by omega),by omega,⟨J.g,J.s,J.k,by omega,J.n0,by have:=J.n1;omega,J.m,J.u⟩⟩;refine iW (j:=ej b) ?_;show y9 3 bQ _ [Z (.scr a),Z (.int z),Z (.int m),U,U,U,U,U,U,U,U,U,U,U,U,U]=_;have k:(λj=>Ø ((aq (ag ac 3 (bS (Y 0) (Y 1) (R cw (Y 2) (X 1))))) j) xR) (jb a z m 0)=Z (.ok (((t_ c).map λi:Nat=>(i:Int)).map Q.int)):=by
  have h:(aq (ag ac 3 (bS (Y 0) (Y 1) (R cw (Y 2) (X 1))))) (jb a z m 0)=Z (.ok [.int (c:Int)]):=by simp[Ø,aR,bQ,ag,fC,Y,R,jb,Ba,w]
  exact(FU (k:=xR) h).trans v
 have q:za 5 [5,6,7,8,9,10,11,12,13,14,15] (λj=>Ø ((aq (ag ac 3 (bS (Y 0) (Y 1) (R cw (Y 2) (X 1))))) j) xR) bO (jb a z m 0) []=Z (.nx (jb a z m f) (b.map Õ)):=by unfold za;rw[k];show(if à (((t_ c).map λi:Nat=>(i:Int)).map Q.int)=L then _ else U)=_;rw[if_pos (tL _)];exact e
 have y:b.length<=100000:=by omega
 have n:y6 3 (â gO (aq (Y 3))) (jb a z m f) (b.map Õ)=Z (.rt (ej b)):=by unfold y6;rw[dj (ae (j:=.lst (b.map Õ)) rfl au)];rfl
 have g:(gf (gQ 4 (X 0)) (gf (za 5 [5,6,7,8,9,10,11,12,13,14,15] (λj=>Ø ((aq (ag ac 3 (bS (Y 0) (Y 1) (R cw (Y 2) (X 1))))) j) xR) bO) (y6 3 (â gO (aq (Y 3)))))) [Z (.scr a),Z (.int z),Z (.int m),U,U,U,U,U,U,U,U,U,U,U,U,U] []=Z (.rt (ej b)):=by rw[A0 (show gQ 4 (X 0) [Z (.scr a),Z (.int z),Z (.int m),U,U,U,U,U,U,U,U,U,U,U,U,U] []=Z (.nx (jb a z m 0) [])from rfl)];rw[A0 q];exact n
 unfold y9;show(if([]:List Q).length<=100000 then _ else U)=_;rw[if_pos (by simp)];exact(congrArg (λo=>match o with|some (Fo.nx r s)=>Z (Fl.nx (List.set r 3 (Z (Q.lst s))))|some (Fo.rt d)=>Z (Fl.rt d)|none=>U) g).trans rfl
theorem iX(n:aj):cP [Õ n]=Z (.ok (ek n)):=by simp[cP,bR,DP,aO,db,Ø,aR,bQ,Y,fC,R,Î,ą,dH,Õ,ek]
theorem tM:∀a:List aj,mO (a.map ek)=Z (a.map key)|[]=>rfl|n::a=>by show(match df [.str n.nm,.str n.house,.str n.path],mO (a.map ek)with|some k,Z b=>Z (k::b)|_,_=>U)=_;rw[tM a];rfl
theorem Ec(J:Ň i):cL [ej i]=bo L:=by
 have f:=J.l;have d:dc 1 [] (gl (Y 0)) (gN 0) U (ag cP 1 (aq (Y 0))) [Z (ej i),U]=Z (.ok (.lst (i.map ek))):=tq Õ ek (kW rfl) (by omega) λn e=>fV cP rfl (iX n);have b:mP [.lst (i.map ek)]=Z (.ok (.int (i.length:Int))):=by show(match mO (i.map ek)with|some a=>if a.Nodup/\a.length<=20 then(Z (.ok (.int (a.length:Nat))):Option (Rs Q))else U|none=>U)=_;rw[tM];dsimp only;rw[if_pos ⟨J.k,by simp;omega⟩,S_]
 refine iW ?_;show bW [Z (ej i),U]=_;unfold bW;rw[ay (cf (a:=[Z (ej i),Z (.lst (i.map ek))]) d rfl)];refine fg ((bi ((dj (ae (j:=.lst (i.map ek)) rfl au)).trans b) (θ:=.int i.length) (by show Z (Rs.ok (Q.int ((i.map ek).length:Int)))=_;rw[S_])).trans ?_);show Z (Rs.ok (Q.bl ((i.length:Int)==(i.length:Int))))=_;simp
theorem all_map(p:δ->Bool)(l:List δ):pL [.lst (l.map λa=>Q.bl (p a))]=bo (l.all p):=by unfold pL;dsimp only;rw[nu p l];dsimp only;rw[List.all_map];rfl
theorem wx(l:List δ):pL [.lst (l.map λ_=>Q.bl L)]=bo L:=by rw[all_map (λ_=>L) l];simp
theorem OH(h:b<i.length):Î (ej i) (.int b)=Z (.ok (Õ i[b])):=by show(match ą (i.map Õ) (b:Int)with|some d=>_|none=>_)=_;unfold ą;rw[if_pos (by omega)];simp[h]
theorem OI(n:aj):Î (Õ n) (.int 8)=Z (.ok (.int n.md)):=rfl
theorem OJ(a:List aj)(d:a.length<=20):(λb=>Ø ((bJ (X 1) (â fU (aq (Y 0)))) b) BF) [Z (ej a)]=Z (.ok ((t_ (a.length-1)).map λi:Nat=>Q.int (1+(i:Int)))):=by
 have h:(bJ (X 1) (â fU (aq (Y 0)))) [Z (ej a)]=Z (.ok [.int 1,.int a.length]):=by simp[Ø,aR,bQ,â,fC,Y,ej,fU]
 refine(FU (k:=BF) h).trans ?_;rw[NT (by omega),u4,show((a.length:Int)-1).toNat=a.length-1 by omega]
def SQ:Ò:=(R Ļ (R Î (R Î (Y 1) (R uj (Y 0) (X 1))) (X 8)) (R Î (R Î (Y 1) (Y 0)) (X 8)))
theorem JJ(J:Ň i){a:Nat}(b:a+1<i.length):SQ [Z (.int (1+(a:Int))),Z (ej i)]=Z (.ok (.bl L)):=by
 have d:=J.s a b;have g:R Î (Y 1) (R uj (Y 0) (X 1)) [Z (.int (1+(a:Int))),Z (ej i)]=Z (.ok (Õ i[a])):=by have q:=OH (i:=i) (b:=a) (by omega);rw[show(a:Int)=1+(a:Int)-1 by omega]at q;exact q
 have f:R Î (Y 1) (Y 0) [Z (.int (1+(a:Int))),Z (ej i)]=Z (.ok (Õ i[a+1])):=by have q:=OH (i:=i) (b:=a+1) b;rw[show((a+1:Nat):Int)=1+(a:Int)by omega]at q;exact q
 have e:Ļ (.int i[a].md) (.int i[a+1].md)=Z (.ok (.bl L)):=by simp[Ļ,d]
 exact(bi ((bi g rfl).trans (OI _)) ((bi f rfl).trans (OI _))).trans e
theorem RO(J:Ň i):du [("notes",0)] (λb=>Ø ((bJ (X 1) (â fU (aq (Y 0)))) b) BF) U SQ [Z (ej i)]=Z (.ok (.lst ((t_ (i.length-1)).map λ_=>Q.bl L))):=jC (λa:Nat=>Q.int (1+(a:Int))) (λ_=>Q.bl L) (OJ i J.l) (by have:=J.l;rw[Yx];omega) λa d=>JJ J (by have:=UZ.mp d;omega)
theorem JK(J:Ň i):gV [ej i]=bo L:=iW (j:=.bl L) (fg ((dj (ae (RO J) au)).trans (wx _)))
theorem t_a(J:Ň i):du [] (gl (Y 0)) U (ag gu 1 (aq (Y 0))) [Z (ej i)]=Z (.ok (.lst (i.map λ_=>Q.bl L))):=jC Õ (λ_=>Q.bl L) (kW rfl) (by have:=J.l;omega) λn a=>fV gu rfl (OD (J.g n a))
theorem t_b(J:Ň i):(Ċ (cQ (fB (f1 (j8 uo) (Y 0)))) (fB (R ņ (â fU (aq (Y 0))) (X 20)))) [Z (ej i)]=Z (.ok D):=by
 have a:¬(20<(i.length:Int)):=by have:=J.l;omega
 simp[Ċ,cQ,fB,f1,R,j8,uo,Y,Ø,ă,â,aR,bQ,fC,ej,fU,Qf,a]
theorem t_c(J:Ň i):â pL (aq (du [] (gl (Y 0)) U (ag gu 1 (aq (Y 0))))) [Z (ej i)]=bo L:=(dj (ae (t_a J) au)).trans (wx i)
theorem t_d(J:Ň i):kG [Z (ej i)]=Z (.rt (.bl L)):=by unfold kG;rw[ay (cy (t_b J))];rw[ay (cy (li (E:=L) (bK (t_c J))))];refine fg ?_;rw[L4 (fV gV rfl (JK J))];exact fV cL rfl (Ec J)
theorem xK(J:Ň i):kH [ej i]=bo L:=iW (j:=.bl L) (t_d J)
abbrev zz1:á:=(nR (Y 0) (Y 1) (Y 2) (Y 3) (Y 4))
abbrev zz2:á:=(q8 (Y 0) (Y 2) (Y 3) (Y 4))
theorem qQ(n:aj)(k:Int):bF [Õ n,.int k]=bo (ĕ n k):=by cases h:n.ends<;>simp[bF,bR,iP,sq,aO,Qa,db,Ø,ă,Y,fC,R,Î,ą,jS,oE,Õ,eO,ĕ,h,Ļ]
theorem JL:(ï.all λp=>ï.all λq=>Ž (bY [.str p,.str q]))=L:=by lk
theorem RP(h:d∈ï)(a:p∈ï):∃k,bY [.str d,.str p]=bo k:=FH (aZ (p:=λp=>Ž (bY [.str d,.str p])) (aZ (p:=λd=>ï.all λp=>Ž (bY [.str d,.str p])) JL h) a)
def ŵ(p q:Str):Bool:=ń (aE [.str p,.str q])
def unB(p q:Str):Bool:=ń (bY [.str p,.str q])
theorem JM(h:d∈En)(a:p∈En):aE [.str d,.str p]=bo (ŵ d p):=by obtain⟨k,e⟩:=SK h a;unfold ŵ;rw[e];cases k<;>rfl
theorem RQ(h:d∈ï)(a:p∈ï):bY [.str d,.str p]=bo (unB d p):=by obtain⟨k,e⟩:=RP h a;unfold unB;rw[e];cases k<;>rfl
def JN(o N:aj)(a:Int):Bool:=o.S&&(!ĕ o a&&(seq o.nm N.nm&&((ŵ N.house o.house||ŵ o.house N.house)&&unB N.path o.path)))
theorem i0(n:aj):Î (Õ n) (.int 0)=Z (.ok (.str n.nm)):=rfl
theorem i2(n:aj):Î (Õ n) (.int 2)=Z (.ok (.str n.house)):=rfl
theorem i4(n:aj):Î (Õ n) (.int 4)=Z (.ok (.str n.path)):=rfl
theorem i6(n:aj):Î (Õ n) (.int 6)=Z (.ok (.bl n.S)):=rfl
theorem FX(a:Ξ ε=Z (.ok E)):aN (br Ξ (aO (fC (.bl D))) ë) Φ ε=if E=L then Z (.rt (.bl D))else Φ ε:=by unfold aN br;rw[a];cases E<;>rfl
theorem FY{b:è}(d:Ξ ε=Z (.ok E))(a:b ε=Z (.ok Ã)):mI Ξ b ε=Z (.ok (E&&Ã)):=by
 unfold mI;rw[d];cases E;·rfl
 ·exact a
theorem pb(a:Ξ ε=Z (.ok E)):cQ Ξ ε=Z (.ok (!E)):=by unfold cQ;rw[a];rfl
theorem xL{N:aj}(b:ç π)(d:ç N)(a:Int):jq [Õ π,Õ N,.int a]=bo (JN π N a):=by have f:=JM d.house b.house;have e:=JM b.house d.house;have g:=RQ d.path b.path;have i:(Ċ (cQ (fB (R Î (Y 0) (X 6)))) (Ċ (fB (ag bF 2 (bJ (Y 0) (Y 2)))) (fB (R ė (R Î (Y 0) (X 0)) (R Î (Y 1) (X 0)))))) [Z (Õ π),Z (Õ N),Z (.int a)]=Z (.ok (!π.S||(ĕ π a||!seq π.nm N.nm))):=FQ (pb (bK (E:=π.S) ((bi (j:=Õ π) (θ:=.int 6) rfl rfl).trans (i6 π)))) (FQ (bK (hX bF rfl rfl (qQ π a))) (bK ((bi (j:=.str π.nm) (θ:=.str N.nm) rfl rfl).trans rfl)));have h:(mI (cQ (fB (ag aE 2 (bJ (R Î (Y 1) (X 2)) (R Î (Y 0) (X 2)))))) (cQ (fB (ag aE 2 (bJ (R Î (Y 0) (X 2)) (R Î (Y 1) (X 2))))))) [Z (Õ π),Z (Õ N),Z (.int a)]=Z (.ok (!ŵ N.house π.house&&!ŵ π.house N.house)):=FY (pb (bK (hX aE rfl rfl f))) (pb (bK (hX aE rfl rfl e)));refine iW ?_;show jp [Z (Õ π),Z (Õ N),Z (.int a)]=_;unfold jp;rw[FX i,FX h,Oc (hX bY rfl rfl g)];unfold JN;cases π.S<;>cases ĕ π a<;>cases seq π.nm N.nm<;>cases ŵ N.house π.house<;>cases ŵ π.house N.house<;>rfl
theorem any_map(p:δ->Bool)(l:List δ):HK [.lst (l.map λa=>Q.bl (p a))]=bo (l.any p):=by show(match ki (l.map λa=>Q.bl (p a))with|some bs=>Z (Rs.ok (Q.bl (bs.any id)))|none=>U)=_;rw[nu];simp
def wv(b:Q)(s:Bool)(e:List aj)(N:aj)(a:Int):Q:=match b with|.non=>if(!s&&e.any λo=>JN o N a)=L then .str "shadowed"else if ĕ N a=L then .str "gone"else .str "kept"|d=>d
theorem FZ(a:Ξ ε=Z (.ok E)):aN (br Ξ (aO (fC j)) ë) Φ ε=if E=L then Z (.rt j)else Φ ε:=by unfold aN br;rw[a];cases E<;>rfl
theorem OK{w:Str}{l:Q}{R:Str}{a b:Str}{m:Bool}{f:Q}(W:Wt H d p j η w θ Δ Μ l E R Ã a b m f)(k:f≠.non):bq [.tup H,ej i,û Ã d p j,Ā η w θ Δ Μ l E R,.int n]=Z (.ok f):=by
 obtain⟨x,h⟩:∃x,f=.str x:=by
  rcases W.win with e|⟨x,_,e⟩;·exact absurd e k
  ·exact⟨_,e⟩
 subst h;refine lY ?_;show fu [Z (.tup H),Z (ej i),Z (û Ã d p j),Z (Ā η w θ Δ Μ l E R),Z (.int n),U,U]=_;unfold fu;have g:aG bw 3 (bS (Y 0) (Y 2) (Y 3)) [Z (.tup H),Z (ej i),Z (û Ã d p j),Z (Ā η w θ Δ Μ l E R),Z (.int n),U,U]=Z (.ok (.str x)):=cE bw (ae rfl (ae rfl (ae rfl au))) rfl W.why;rw[ay (cf g rfl)];simp only[Wu,Ws];rfl
theorem OL{w:Str}{l:Q}{b:Str}{f h:Str}{k:Bool}(v:H∈k9 é)(a:Ak d p j)(g:Gv η w θ Δ Μ l E b)(u:0<=n)(s:n<=9999)(W:Wt H d p j η w θ Δ Μ l E b Ã f h k .non)(z:Õ π=ntn η w f k h (FN Μ l n) E b n)(I:ç π)(A:∀e∈i,ç e)(hl:i.length<=20):bq [.tup H,ej i,û Ã d p j,Ā η w θ Δ Μ l E b,.int n]=Z (.ok (wv .non Ã i π n)):=by
 have m:=FP v a g u s W;rw[<-z]at m;refine lY ?_;show fu [Z (.tup H),Z (ej i),Z (û Ã d p j),Z (Ā η w θ Δ Μ l E b),Z (.int n),U,U]=_;unfold fu;have r:aG bw 3 (bS (Y 0) (Y 2) (Y 3)) [Z (.tup H),Z (ej i),Z (û Ã d p j),Z (Ā η w θ Δ Μ l E b),Z (.int n),U,U]=Z (.ok .non):=cE bw (ae rfl (ae rfl (ae rfl au))) rfl W.why;rw[ay (cf r rfl)];simp only[Wu,Ws];rw[ay (cy (show fB (R oE (Y 5) (fC .non)) [Z (.tup H),Z (ej i),Z (û Ã d p j),Z (Ā η w θ Δ Μ l E b),Z (.int n),Z .non,U]=Z (.ok D)from rfl))];have q:aG dz 4 (q8 (Y 0) (Y 2) (Y 3) (Y 4)) [Z (.tup H),Z (ej i),Z (û Ã d p j),Z (Ā η w θ Δ Μ l E b),Z (.int n),Z .non,U]=Z (.ok (Õ π)):=cE dz (ae rfl (ae rfl (ae rfl (ae rfl au)))) rfl m;rw[ay (cf q rfl)];simp only[Wu,Ws];have c1:(mI (cQ (fB (R Î (Y 2) (X 0)))) (fB (â HK (aq (du [("now",4),("note",6)] (gl (Y 1)) U (ag jq 3 (bS (Y 0) (Y 2) (Y 1)))))))) [Z (.tup H),Z (ej i),Z (û Ã d p j),Z (Ā η w θ Δ Μ l E b),Z (.int n),Z .non,Z (Õ π)]=Z (.ok (!Ã&&i.any λo=>JN o π n)):=by refine FY (pb (bK (E:=Ã) rfl)) (bK ((dj (ae (j:=.lst (i.map λo=>Q.bl (JN o π n))) ?_ au)).trans (any_map _ _)));exact jC Õ (λo=>Q.bl (JN o π n)) (kW rfl) (by omega) λo y=>om jq rfl rfl rfl (xL (A o y) I n)
 rw[FZ c1];have N:fB (ag bF 2 (bJ (Y 6) (Y 4))) [Z (.tup H),Z (ej i),Z (û Ã d p j),Z (Ā η w θ Δ Μ l E b),Z (.int n),Z .non,Z (Õ π)]=Z (.ok (ĕ π n)):=bK (hX bF rfl rfl (qQ π n));rw[FZ N];show _=Z (Fl.rt (if(!Ã&&i.any λo=>JN o π n)=L then .str "shadowed"else if ĕ π n=L then .str "gone"else .str "kept"));split;·rfl
 ·split<;>rfl
def Kn(a:List aj)(n:aj):List aj:=match a.filter (λo=>s_ (key o=key n))with|[]=>a++[n]|o::_=>a.map λx=>if key x=key n then{n with md:=o.md}else x
theorem OM(n:∀o∈i,ç o)(u:ç π)(w:i.length<=20):DQ [ej i,Õ π]=Z (.ok (ej (Kn i π))):=by have m:∀o∈i,∀(r:Ev),(fB (R Þ (ag cP 1 (aq (Y 0))) (ag cP 1 (aq (Y 1))))) (Z (Õ o)::Z (Õ π)::r)=Z (.ok (s_ (key o=key π))):=λo b r=>bK ((bi (fV cP rfl (iX o)) (fV cP rfl (iX π))).trans (JE (n o b) u).1);have g:=xI (d:=[("note",1)]) (ν:=gl (Y 0)) (Ξ:=(fB (R Þ (ag cP 1 (aq (Y 0))) (ag cP 1 (aq (Y 1)))))) (z:=Y 0) (ε:=[Z (ej i),Z (Õ π),U,U]) Õ (λo=>s_ (key o=key π)) Õ (kW rfl) (by omega) λo b=>⟨m o b [],rfl⟩;unfold Kn;cases f:i.filter (λo=>s_ (key o=key π))with
 |nil=>
 rw[f]at g;refine iW (j:=ej (i++[π])) ?_;show uO [Z (ej i),Z (Õ π),U,U]=_;unfold uO;rw[ay (cf g rfl)];simp only[Wu,Ws];refine mJ ?_;rw[xr (by lk)];refine fg ?_;have k:i.length+1<=100000:=by omega
 simp[Ø,aR,bQ,Y,R,dH,ej,cw,k]|cons o rest=>
 rw[f]at g;have b:o∈i:=(UR.mp (f▸pi:o∈i.filter _)).1;refine iW (j:=ej (i.map λx=>if key x=key π then{π with md:=o.md}else x)) ?_;show uO [Z (ej i),Z (Õ π),U,U]=_;unfold uO;rw[ay (cf g rfl)];simp only[Wu,Ws];have j:(fB (R Þ (Y 2) (gK bQ))) [Z (ej i),Z (Õ π),Z (.lst ((o::rest).map Õ)),U]=Z (.ok D):=by
  have q:ě 2 (.lst ((o::rest).map Õ)):=wo λd s=>by
   obtain⟨x,h,rfl⟩:=Ux.mp s;have:x∈i.filter (λo=>s_ (key o=key π)):=by rw[f];exact h
   exact AZ (n x (UR.mp this).1)
  have i2:=q.okP (by omega);have p:okP (.lst [])=L:=by lk
  have i4:Þ (.lst ((o::rest).map Õ)) (.lst [])=bo D:=by unfold Þ;rw[show Ś (.lst ((o::rest).map Õ)) (.lst [])=U from rfl,i2,p];simp[gI,ó,Vr,Wp]
  exact bK i4
 rw[ay (cy j)];have a:(R cw (R cw (lU (Y 1) ii (eZ (X 8))) (dH (aq (R Î (R Î (Y 2) (X 0)) (X 8))))) (lU (Y 1) (eZ (R cw (X 8) (X 1))) ii)) [Z (ej i),Z (Õ π),Z (.lst ((o::rest).map Õ)),U]=Z (.ok (Õ {π with md:=o.md})):=by lk
 rw[ay (cf a rfl)];simp only[Wu,Ws];refine fg ?_;have v:=jC (d:=[("note",1),("newer",3)]) (ν:=gl (Y 0)) (z:=(Ł (fB (R Þ (ag cP 1 (aq (Y 0))) (ag cP 1 (aq (Y 1))))) (Y 2) (Y 0))) (ε:=[Z (ej i),Z (Õ π),Z (.lst ((o::rest).map Õ)),Z (Õ {π with md:=o.md})]) Õ (λx=>Õ (if key x=key π then{π with md:=o.md}else x)) (kW rfl) (by omega) λx h=>by
  have t:=m x h [Z (Õ {π with md:=o.md})];by_cases e:key x=key π;·rw[if_pos e];rw[decide_eq_true e]at t;exact(Qr t).trans rfl
  ·rw[if_neg e];rw[decide_eq_false e]at t;exact(Qs t).trans rfl
 rw[dj (ae v au)];show Z (Rs.ok (Q.tup _))=_;simp[ej]
def đ(b:List aj)(a:Int):List aj:=b.filter λn=>!ĕ n a
theorem pc(d:i.length<=20):bC [ej i,.int n]=Z (.ok (ej (đ i n))):=by refine iW ?_;show cX [Z (ej i),Z (.int n)]=_;unfold cX;refine fg ?_;have e:(du [("now",1)] (gl (Y 0)) (Z (cQ (fB (ag bF 2 (bJ (Y 0) (Y 1)))))) (Y 0)) [Z (ej i),Z (.int n)]=Z (.ok (.lst ((đ i n).map Õ))):=kQ Õ _ Õ (kW rfl) (by omega) λa b=>⟨pb (bK (hX bF rfl rfl (qQ a n))),rfl⟩;exact(dj (ae e au)).trans rfl
def E8(T:Q)(f:List aj)(A g:Q)(a:Int)(e d b:Option Q):Ev:=[Z T,Z (ej f),Z A,Z g,Z (.int a),e,d,b]
theorem qR(e:i.length<=20)(d:bq [j,ej i,θ,Δ,.int n]=Z (.ok Μ)){f:Ù}{r:Option Fl}(h:f (E8 j i θ Δ n (Z Μ) (Z (ej (đ i n))) U)=r):aN (cG 5 (aG bq 5 zz1)) (aN (cG 6 (ag bC 2 (bJ (Y 1) (Y 4)))) f) (E8 j i θ Δ n U U U)=r:=by have b:cG 5 (aG bq 5 zz1) (E8 j i θ Δ n U U U)=Z (.nx (E8 j i θ Δ n (Z Μ) U U)):=cf (cE bq (ae rfl (ae rfl (ae rfl (ae rfl (ae rfl au))))) rfl d) rfl;have a:cG 6 (ag bC 2 (bJ (Y 1) (Y 4))) (E8 j i θ Δ n (Z Μ) U U)=Z (.nx (E8 j i θ Δ n (Z Μ) (Z (ej (đ i n))) U)):=cf (hX bC rfl rfl (pc e)) rfl;rw[ay b,ay a];exact h
theorem Bc:(đ i n).length<=i.length:=V4 _ _
theorem pk(b:i.length<=20)(a:bq [j,ej i,θ,Δ,.int n]=Z (.ok Μ))(d:Þ Μ (.str "kept")=bo D)(e:Þ Μ (.str "gone")=bo D):bU [j,ej i,θ,Δ,.int n]=Z (.ok (ej (đ i n))):=by refine lY ?_;show c8 (E8 j i θ Δ n U U U)=_;unfold c8;refine qR b a ?_;have g:fB (R Þ (Y 5) (Ð "kept")) (E8 j i θ Δ n (Z Μ) (Z (ej (đ i n))) U)=Z (.ok D):=bK ((bi (j:=Μ) (θ:=.str "kept") rfl rfl).trans d);have f:fB (R Þ (Y 5) (Ð "gone")) (E8 j i θ Δ n (Z Μ) (Z (ej (đ i n))) U)=Z (.ok D):=bK ((bi (j:=Μ) (θ:=.str "gone") rfl rfl).trans e);rw[ay (cy g),ay (cy f)];rfl
theorem Bd(b:i.length<=20)(f:∀a∈i,ç a)(g:ç π)(d:bq [j,ej i,θ,Δ,.int n]=Z (.ok (.str "kept")))(h:dz [j,θ,Δ,.int n]=Z (.ok (Õ π))):bU [j,ej i,θ,Δ,.int n]=Z (.ok (ej (Kn (đ i n) π))):=by refine lY ?_;show c8 (E8 j i θ Δ n U U U)=_;unfold c8;refine qR b d ?_;have k:fB (R Þ (Y 5) (Ð "kept")) (E8 j i θ Δ n (Z (.str "kept")) (Z (ej (đ i n))) U)=Z (.ok L):=bK ((bi (j:=.str "kept") (θ:=.str "kept") rfl rfl).trans (by lk));refine mJ ?_;rw[xr k];have v:aG dz 4 zz2 (E8 j i θ Δ n (Z (.str "kept")) (Z (ej (đ i n))) U)=Z (.ok (Õ π)):=cE dz (ae rfl (ae rfl (ae rfl (ae rfl au)))) rfl h;exact fg (hX DQ rfl v (OM (λo e=>f o (UR.mp e).1) g (UD Bc b)))
theorem RS{o:aj}(a:ç o)(b:ç π):ė (ek o) (ek π)=bo (!s_ (key o=key π)):=(JE a b).2
theorem Be(b:i.length<=20)(h:∀a∈i,ç a)(k:ç π)(f:bq [j,ej i,θ,Δ,.int n]=Z (.ok (.str "gone")))(m:dz [j,θ,Δ,.int n]=Z (.ok (Õ π))):bU [j,ej i,θ,Δ,.int n]=Z (.ok (ej ((đ i n).filter λo=>!s_ (key o=key π)))):=by have r:(đ i n).length<=20:=UD Bc b;refine lY ?_;show c8 (E8 j i θ Δ n U U U)=_;unfold c8;refine qR b f ?_;have q:fB (R Þ (Y 5) (Ð "kept")) (E8 j i θ Δ n (Z (.str "gone")) (Z (ej (đ i n))) U)=Z (.ok D):=bK ((bi (j:=.str "gone") (θ:=.str "kept") rfl rfl).trans (by lk));have p:fB (R Þ (Y 5) (Ð "gone")) (E8 j i θ Δ n (Z (.str "gone")) (Z (ej (đ i n))) U)=Z (.ok L):=bK ((bi (j:=.str "gone") (θ:=.str "gone") rfl rfl).trans (by lk));rw[ay (cy q)];refine mJ ?_;rw[xr p];have v:aG dz 4 zz2 (E8 j i θ Δ n (Z (.str "gone")) (Z (ej (đ i n))) U)=Z (.ok (Õ π)):=cE dz (ae rfl (ae rfl (ae rfl (ae rfl au)))) rfl m;have d:cG 7 (ag cP 1 (aq (aG dz 4 zz2))) (E8 j i θ Δ n (Z (.str "gone")) (Z (ej (đ i n))) U)=Z (.nx (E8 j i θ Δ n (Z (.str "gone")) (Z (ej (đ i n))) (Z (ek π)))):=cf (fV cP v (iX π)) rfl;rw[ay d];refine fg ?_;have e:(du [("ended",7)] (gl (Y 6)) (Z (fB (R ė (ag cP 1 (aq (Y 0))) (Y 1)))) (Y 0)) (E8 j i θ Δ n (Z (.str "gone")) (Z (ej (đ i n))) (Z (ek π)))=Z (.ok (.lst (((đ i n).filter λo=>!s_ (key o=key π)).map Õ))):=kQ Õ (λo=>!s_ (key o=key π)) Õ (kW rfl) (by omega) λo g=>⟨bK ((bi (j:=ek o) (θ:=ek π) (fV cP rfl (iX o)) rfl).trans (RS (h o (UR.mp g).1) k)),rfl⟩;exact(dj (ae e au)).trans rfl
theorem ON(h:kH [j]=bo L):bp [j]=Z (.ok .non):=by simp[bp,gJ,iM,br,db,Ø,cQ,fB,ă,ag,aR,bQ,Y,h]
theorem dY(F:Ö){a:Q}{f:Ò}{b:Ev}(d:f b=Z (.ok a))(h:F [a]=Z (.ok .non)):eW (aG F 1 (aq f)) b=Z (.nx b):=l4 (cE F (ae d au) rfl h)
theorem dX(F:Ö){a:Q}{f:Ò}{d:Ev}(e:f d=Z (.ok a))(h:F [a]=Z (.exc b)):eW (aG F 1 (aq f)) d=Z (.exc b):=TJ (cE F (ae e au) rfl h)
def E6(T a A X N:Q)(x:Option Q):Ev:=[Z T,Z a,Z A,Z X,Z N,x]
theorem rwy{N:Q}(g:cj [j]=bo L)(f:kH [Μ]=bo L)(e:iN [θ]=bo L){a:Q}(d:aW [Δ]=Z (.ok a))(h:bf [N]=bo L):ax [j,Μ,θ,Δ,N]=Z (.ok a):=lY (by show bz (E6 j Μ θ Δ N U)=_;unfold bz;rw[ay (dY aY rfl (RA g)),ay (dY bp rfl (ON f)),ay (dY cV rfl (RB e))];have b:cG 5 (aG aW 1 (aq (Y 3))) (E6 j Μ θ Δ N U)=Z (.nx (E6 j Μ θ Δ N (Z a))):=cf (cE aW (ae rfl au) rfl d) rfl;rw[ay b,ay (dY bM rfl (Jm h))];rfl)
def E7(T:Q)(e:List aj)(A X:Q)(a:Int)(d b:Option Q):Ev:=[Z T,Z (ej e),Z A,Z X,Z (.int a),d,b]
theorem Bf{b a:_}(g:b.length<=20){e d:Option Q}:fB (â HK (aq (du [("now",4)] (gl (Y 1)) U (R ņ (R Î (Y 0) (X 9)) (Y 1))))) (E7 j b θ Δ a e d)=Z (.ok (b.any λo=>s_ (o.us>a))):=by refine bK ((dj (ae (j:=.lst (b.map λo=>Q.bl (s_ (o.us>a)))) ?_ au)).trans (any_map _ _));exact jC Õ (λo=>Q.bl (s_ (o.us>a))) (kW rfl) (by omega) λo f=>(bi (j:=.int o.us) (θ:=.int a) rfl rfl).trans rfl
theorem s5T{b a d:_}(e:ax [j,ej b,θ,Δ,.int a]=Z (.ok d)):cG 5 (aG ax 5 zz1) (E7 j b θ Δ a U U)=Z (.nx (E7 j b θ Δ a (Z d) U)):=cf (cE ax (ae rfl (ae rfl (ae rfl (ae rfl (ae rfl au))))) rfl e) rfl
theorem Ed{b a e:_}(n:b.length<=20)(m:ax [j,ej b,θ,Δ,.int a]=Z (.ok e))(h:(b.any λo=>s_ (o.us>a))=D)(k:bU [j,ej b,θ,e,.int a]=Z (.ok (ej i)))(q:i.length<=20):fE [j,ej b,θ,Δ,.int a]=Z (.ok (ej i)):=lY (by
 show iQ (E7 j b θ Δ a U U)=_;unfold iQ;rw[ay (s5T m)];have c:=Bf (j:=j) (θ:=θ) (Δ:=Δ) (a:=a) (e:=Z e) (d:=U) n;rw[h]at c;rw[ay (cy c)];have f:cG 6 (aG bU 5 (nR (Y 0) (Y 1) (Y 2) (Y 5) (Y 4))) (E7 j b θ Δ a (Z e) U)=Z (.nx (E7 j b θ Δ a (Z e) (Z (ej i)))):=cf (cE bU (ae rfl (ae rfl (ae rfl (ae rfl (ae rfl au))))) rfl k) rfl;have g:ah [ej i]=Z (.ok .non):=by
  have:¬((i.length:Int)>20):=by omega
  unfold ah gJ;show(match al [Z (ej i)]with|some (.nx _)=>Z (Rs.ok Q.non)|some (.rt d)=>Z (Rs.ok d)|some (.exc c)=>Z (Rs.exc c)|none=>U)=_;unfold al;have p:fB (R ņ (â fU (aq (Y 0))) (X 20)) [Z (ej i)]=Z (.ok D):=by
   refine bK ((bi (j:=.int (i.length:Int)) (θ:=.int 20) ((dj (ae (j:=ej i) rfl au)).trans ?_) rfl).trans ?_);·show Z (Rs.ok (Q.int ((i.map Õ).length:Int)))=_;rw[S_]
   ·show Z (Rs.ok (Q.bl (s_ ((i.length:Int)>20))))=_;rw[decide_eq_false this]
  rw[cy p]
 rw[ay f,ay (dY ah rfl g)];rfl)
theorem RT(g:Gv d p j θ Δ Μ E η)(b:0<=n):∃e:Option Int,eO e=FN Δ Μ n/\∀i,e=Z i->0<=i/\i<=9999:=by
 rcases OC g b with q|⟨i,m,k,q⟩;·exact⟨U,q.symm,λi h=>by cases h⟩
 ·exact⟨Z i,q.symm,λa f=>by cases f;exact⟨m,k⟩⟩
theorem JO{w:Str}{l:Q}{R:Str}{a b:Str}{f:Bool}{i:Q}(g:Gv η w θ Δ Μ l E R)(W:Wt H d p j η w θ Δ Μ l E R Ã a b f i)(h:0<=n)(k:n<=200):∃N:aj,Õ N=ntn η w a f b (FN Μ l n) E R n/\ç N/\N.us=n/\N.md=n:=by obtain⟨e,m,o⟩:=RT (n:=n) g h;refine⟨⟨η,w,a,f,b,e,E,R,n,n⟩,?_,⟨g.nm,g.w,W.hs,W.ph,g.r,o,h,aaQ _,k⟩,rfl,rfl⟩;show Q.tup [.str η,.str w,.str a,.bl f,.str b,eO e,.bl E,.str R,.int n,.int n]=_;rw[m]
structure JS(now:Int)(Y:List aj):Prop where
 g:∀n∈Y,ç n
 s:Y.Pairwise λa b=>a.md<=b.md
 k:(Y.map key).Nodup
 u:∀n∈Y,n.us<=now
theorem JS.jar(h:JS n i)(l:i.length<=20):Ň i:=⟨h.g,λa b=>Wx.mp h.s a (a+1) (by omega) b (by omega),h.k,l⟩
theorem JS.nil{a:Int}:JS a []:=⟨by simp,.nil,by simp,by simp⟩
theorem JS.later{now':Int}(h:JS n i)(q:n<=now'):JS now' i:=⟨h.g,h.s,h.k,λa b=>by have:=h.u a b;omega⟩
theorem JS.filt(p:aj->Bool)(h:JS n i):JS n (i.filter p)where g:=λa q=>h.g a (UR.mp q).1;s:=h.s.sublist Y4;k:=h.k.sublist (Y4.map key);u:=λa q=>h.u a (UR.mp q).1
theorem JS.put(h:JS n i)(m:ç π)(hu:π.us=n)(hm:π.md=n):JS n (Kn i π)/\(Kn i π).length<=i.length+1:=by
 unfold Kn;split
 · rename_i y;have nk:∀x∈i,key x≠key π:=λx w e=>by have:x∈i.filter (λo=>s_ (key o=key π)):=UR.mpr ⟨w,by simpa using e⟩;rw[y]at this;cases this
   refine⟨⟨λd q=>?_,?_,?_,λd q=>?_⟩,by simp⟩
   · rcases R_.mp q with q|q;·exact h.g d q
     ·rw[Uy.mp q];exact m
   ·refine aaM.mpr ⟨h.s,X8 ..,λa u b v=>?_⟩;rw[Uy.mp v];have:=h.u a u;have:=(h.g a u).mu;omega
   · rw[Vx];refine WG.mpr ⟨h.k,X8 ..,λa u b v e=>?_⟩;obtain⟨x,w,rfl⟩:=Ux.mp u;have:b=key π:=by simpa using v
     exact nk x w (e.trans this)
   · rcases R_.mp q with q|q;·exact h.u d q
     ·rw[Uy.mp q];omega
 · rename_i k r1 y;have r:k∈i.filter (λo=>s_ (key o=key π)):=by rw[y];exact pi
   have p:=(UR.mp r).1;have s:key k=key π:=by simpa using(UR.mp r).2
   have one:∀z∈i,key z=key π->z=k:=λz g e=>by
    have nd:=h.k;obtain⟨f,I,rfl⟩:=aa3 g;obtain⟨j,H,A⟩:=aa3 p;have E:=Wx.mp nd;rcases Zz f j with q|q|q;·exact(E f j (by simpa using I) (by simpa using H) q (by rw[XJ,XJ,A,s,e])).elim
    ·subst q;exact A
    ·exact(E j f (by simpa using H) (by simpa using I) q (by rw[XJ,XJ,A,s,e])).elim
   have md:∀z∈i,(if key z=key π then({π with md:=k.md}:aj)else z).md=z.md:=λz g=>by
    split;·rename_i e;rw[one z g e]
    ·rfl
   have ky:∀z∈i,key (if key z=key π then({π with md:=k.md}:aj)else z)=key z:=λz g=>by
    split;·rename_i e;exact e.symm
    ·rfl
   have N:=h.g k p;have u1:=h.u k p;refine⟨⟨λd q=>?_,?_,?_,λd q=>?_⟩,by simp⟩
   · obtain⟨z,g,rfl⟩:=Ux.mp q;split;·exact⟨m.nm,m.w,m.house,m.path,m.R,m.ends,N.mk0,by show k.md<=π.us;have:=N.mu;omega,m.us⟩
     ·exact h.g z g
   ·rw[Yv];exact h.s.imp_of_mem λ{a b}ha hb q=>by rw[md a ha,md b hb];exact q
   ·rw[VE];have e:i.map (key∘λz=>if key z=key π then({π with md:=k.md}:aj)else z)=i.map key:=V0 λz g=>ky z g;rw[e];exact h.k
   · obtain⟨z,g,rfl⟩:=Ux.mp q;split;·show π.us<=n;omega
     ·exact h.u z g
noncomputable def Ű:List Str:=[b_ "foreign",b_ "open",b_ "unsafe",b_ "marked",b_ "far",b_ "shadowed",b_ "gone",b_ "kept"]
theorem Bg:∀x:Str,x∈[b_ "foreign",b_ "open",b_ "unsafe",b_ "marked",b_ "far",b_ "shadowed"]->Þ (.str x) (.str "kept")=bo D/\Þ (.str x) (.str "gone")=bo D:=by intro x a;simp only[uk,O_,or_false]at a;rcases a with rfl|rfl|rfl|rfl|rfl|rfl<;>exact⟨by lk,by lk⟩
theorem JP{w:Str}{l:Q}{R:Str}(s:H∈k9 é)(a:Ak d p j)(g:Gv η w θ Δ Μ l E R)(k:JS n i)(e:i.length<=20)(r:0<=n)(n1:n<=200):∃(x:Str)(m:List aj),x∈Ű/\bq [.tup H,ej i,û Ã d p j,Ā η w θ Δ Μ l E R,.int n]=Z (.ok (.str x))/\bU [.tup H,ej i,û Ã d p j,Ā η w θ Δ Μ l E R,.int n]=Z (.ok (ej m))/\JS n m/\m.length<=21:=by
 obtain⟨z,I,ex,wd,W⟩:=RC s a g Ã;have sl:(đ i n).length<=20:=UD Bc e;have h:JS n (đ i n):=k.filt _;rcases W.win with rfl|⟨x,f,rfl⟩
 · obtain⟨N,A,gN,v,y⟩:=JO (n:=n) g W r n1;have u:=FP s a g r (by omega) W;rw[<-A]at u;have b:=OL (i:=i) s a g r (by omega) W A gN k.g e;unfold wv at b;dsimp only at b;split at b;·obtain⟨q,o⟩:=Bg (b_ "shadowed") (by simp);exact⟨_,đ i n,by simp[Ű],b,pk e b q o,h,by omega⟩
   · split at b;·exact⟨_,_,by simp[Ű],b,Be e k.g gN b u,h.filt _,UD (V4 _ _) (by omega)⟩
     ·obtain⟨J2,l2⟩:=h.put gN v y;exact⟨_,_,by simp[Ű],b,Bd e k.g gN b u,J2,by omega⟩
 ·have b:=OK (i:=i) (n:=n) W (by simp);obtain⟨q,o⟩:=Bg x (by simp only[uk,O_,or_false]at f⊢;rcases f with d|d|d|d|d<;>simp[d]);exact⟨x,đ i n,by simp only[uk,O_,or_false]at f;rcases f with d|d|d|d|d<;>simp[Ű,d],b,pk e b q o,h,by omega⟩
theorem JQ(g:Gv d p j θ Δ Μ E η):∃X:Str,cZ [Ā d p j θ Δ Μ E η]=Z (.ok (.str X))/\aW [.str X]=Z (.ok (Ā d p j θ Δ Μ E η)):=by obtain⟨h,a,f,i,b,e⟩:=Os g;exact⟨_,by rw[e];exact Jq (RJ b),by rw[e];exact OA b⟩
theorem Um(a:List aj):fB (R ņ (â fU (aq (Y 0))) (X 20)) [Z (.tup (a.map Õ))]=Z (.ok (s_ (20<a.length))):=by
 refine bK ((bi (j:=.int (a.length:Int)) (θ:=.int 20) ((dj (ae (j:=ej a) rfl au)).trans ?_) rfl).trans ?_);·show Z (Rs.ok (Q.int ((a.map Õ).length:Int)))=_;rw[S_]
 · show Z (Rs.ok (Q.bl (s_ ((a.length:Int)>20))))=_;by_cases q:20<a.length;·rw[decide_eq_true q,decide_eq_true (show(a.length:Int)>20 by omega)]
   ·rw[decide_eq_false q,decide_eq_false (show¬(a.length:Int)>20 by omega)]
theorem RU(a:List aj):fB (R ņ (â fU (aq (Y 0))) (X 20)) [Z (.lst (a.map Õ))]=Z (.ok (s_ (20<a.length))):=by
 refine bK ((bi (j:=.int (a.length:Int)) (θ:=.int 20) ((dj (ae (j:=.lst (a.map Õ)) rfl au)).trans ?_) rfl).trans ?_);·show Z (Rs.ok (Q.int ((a.map Õ).length:Int)))=_;rw[S_]
 · show Z (Rs.ok (Q.bl (s_ ((a.length:Int)>20))))=_;by_cases q:20<a.length;·rw[decide_eq_true q,decide_eq_true (show(a.length:Int)>20 by omega)]
   ·rw[decide_eq_false q,decide_eq_false (show¬(a.length:Int)>20 by omega)]
theorem F0(a:fB (R ņ (â fU (aq (Y 0))) (X 20)) [Z j]=Z (.ok (s_ (20<i.length)))):ah [j]=if 20<i.length then Z (.exc 5)else Z (.ok .non):=by
 by_cases q:20<i.length;·rw[if_pos q];rw[decide_eq_true q]at a;exact Rn (by show al [Z j]=_;unfold al;exact Ro a rfl)
 ·rw[if_neg q];rw[decide_eq_false q]at a;unfold ah gJ;show(match al [Z j]with|some (.nx _)=>Z (Rs.ok Q.non)|some (.rt j)=>Z (Rs.ok j)|some (.exc c)=>Z (Rs.exc c)|none=>U)=_;unfold al;rw[cy a]
variable{ξ:List aj}
theorem xM(g:i.length<=20)(f:ax [Δ,ej i,j,Μ,.int n]=Z (.ok θ))(h:(i.any λo=>s_ (o.us>n))=D)(e:bU [Δ,ej i,j,θ,.int n]=Z (.ok (ej ξ)))(d:20<ξ.length):fE [Δ,ej i,j,Μ,.int n]=Z (.exc 5):=Rn (by show iQ (E7 Δ i j Μ n U U)=_;unfold iQ;rw[ay (s5T f)];have c:=Bf (j:=Δ) (θ:=j) (Δ:=Μ) (a:=n) (e:=Z θ) (d:=U) g;rw[h]at c;rw[ay (cy c)];have b:cG 6 (aG bU 5 (nR (Y 0) (Y 1) (Y 2) (Y 5) (Y 4))) (E7 Δ i j Μ n (Z θ) U)=Z (.nx (E7 Δ i j Μ n (Z θ) (Z (ej ξ)))):=cf (cE bU (ae rfl (ae rfl (ae rfl (ae rfl (ae rfl au))))) rfl e) rfl;have a:=F0 (Um ξ);rw[if_pos d]at a;rw[ay b];exact SH (dX ah rfl a))
theorem vdo{b:Str}(h:H∈k9 é)(a:Ak d p j)(k:aW [.str η]=Z (.ok θ))(o:Ň i)(g:0<=n)(f:n<=9999)(m:bq [.tup H,ej i,û E d p j,θ,.int n]=Z (.ok (.str b))):gh [.tup H,ej i,û E d p j,.str η,.int n]=Z (.ok (.str b)):=by refine lY ?_;show iq [Z (.tup H),Z (ej i),Z (û E d p j),Z (.str η),Z (.int n),U]=_;unfold iq;have e:cG 5 (aG ax 5 (nR (Y 0) (Y 1) (Y 2) (Y 3) (Y 4))) [Z (.tup H),Z (ej i),Z (û E d p j),Z (.str η),Z (.int n),U]=Z (.nx [Z (.tup H),Z (ej i),Z (û E d p j),Z (.str η),Z (.int n),Z θ]):=cf (cE ax (ae rfl (ae rfl (ae rfl (ae rfl (ae rfl au))))) rfl (rwy (ju h) (xK o) (DV a) k (tE g f))) rfl;rw[ay e];exact fg (cE bq (ae rfl (ae rfl (ae rfl (ae rfl (ae rfl au))))) rfl m)
theorem Ee{w:Str}{l:Q}{R:Str}{X:Str}(k:H∈k9 é)(a:Ak d p j)(g:Gv η w θ Δ Μ l E R)(r:aW [.str X]=Z (.ok (Ā η w θ Δ Μ l E R)))(f:JS n i)(e:i.length<=20)(h:0<=n)(u:n<=200):(∃(x:Str)(b:List aj),x∈Ű/\gh [.tup H,ej i,û Ã d p j,.str X,.int n]=Z (.ok (.str x))/\fE [.tup H,ej i,û Ã d p j,.str X,.int n]=Z (.ok (ej b))/\JS n b/\b.length<=20)\/fE [.tup H,ej i,û Ã d p j,.str X,.int n]=Z (.exc 5):=by
 obtain⟨x,b,v,z,s,A,I⟩:=JP (Ã:=Ã) k a g f e h u;have m:=rwy (j:=.tup H) (Μ:=ej i) (θ:=û Ã d p j) (Δ:=.str X) (N:=.int n) (ju k) (xK (f.jar e)) (DV a) r (tE h (by omega));have lt:(i.any λo=>s_ (o.us>n))=D:=by rw[abI];intro o y;have:=f.u o y;simp;omega
 by_cases q:b.length<=20;·exact .inl ⟨x,b,v,vdo k a r (f.jar e) h (by omega) z,Ed e m lt s q,A,q⟩
 ·exact .inr (xM e m lt s (by omega))
theorem JR(e:JS n i)(a:i.length<=20){k:Int}(d:0<=k)(b:k<=9999):kP [ej i,.int k]=Z (.ok (ej (đ i k))):=by refine lY ?_;show kO [Z (ej i),Z (.int k)]=_;unfold kO;rw[ay (dY bp rfl (ON (xK (e.jar a)))),ay (dY bM rfl (Jm (tE d b)))];exact fg (hX bC rfl rfl (pc a))
open TS
theorem Eb(h:ě b j)(a:b<=64):ė j j=Z (.ok (.bl D)):=uZ (h.okP a) h.p
def q9(a:List aj)(n:aj):Bool:=a.any λm=>s_ (key m=key n)
theorem qM{b:è}(d:Ξ ε=Z (.ok E))(a:b ε=Z (.ok Ã)):mI Ξ b ε=Z (.ok (E&&Ã)):=by unfold mI;rw[d];cases E with|true=>exact a|false=>rfl
def Ko(b a:List aj):List aj:=b.filter λn=>!q9 a n
noncomputable def wl(n:aj):List Int:=[n.us,n.md]
def iC(a b:aj):aj:=if Dj (wl b) (wl a)=L then b else a
theorem OO(n:aj):cA [Õ n]=Z (.ok (.tup [.int n.us,.int n.md])):=by simp[cA,bR,iR,aO,db,Ø,aR,bQ,Y,fC,R,Î,ą,dH,Õ]
theorem OP(a b:aj):gtT (.tup [.int b.us,.int b.md]) (.tup [.int a.us,.int a.md])=bo (Dj (wl b) (wl a)):=rfl
theorem later_of(a b:aj):iw [Õ a,Õ b]=Z (.ok (Õ (iC a b))):=by have d:fB (R gtT (ag cA 1 (aq (Y 1))) (ag cA 1 (aq (Y 0)))) [Z (Õ a),Z (Õ b)]=Z (.ok (Dj (wl b) (wl a))):=bK ((bi (fV cA rfl (OO b)) (fV cA rfl (OO a))).trans (OP a b));refine iW ?_;show iu [Z (Õ a),Z (Õ b)]=_;unfold iu iC;cases h:Dj (wl b) (wl a)with|true=>rw[h]at d;exact mJ (xr d)|false=>rw[h]at d;rw[ay (cy d)];rfl
def ċ(l:List aj):Kv:=l.map λn=>(key n,Õ n)
def nJ(l:List aj)(m:aj):List aj:=if q9 l m=L then l.map (λo=>if key o=key m then m else o)else l++[m]
theorem F1(l:List aj)(m:aj):Fv (ċ l) (key m) (Õ m)=ċ (nJ l m):=by
 have e:((ċ l).any λp=>s_ (p.1=key m))=q9 l m:=by unfold ċ q9;rw[List.any_map];rfl
 unfold Fv nJ;rw[e];split
 · unfold ċ;rw[VE,VE];apply V0;intro o _;simp only[YL];split;·rename_i h;rw[h]
   ·rfl
 ·simp[ċ]
def wy(l:List aj)(n:aj):Option aj:=l.find? λo=>s_ (key o=key n)
theorem F3(n:aj):∀l:List aj,Ac (ċ l) (key n)=(wy l n).map Õ
 |[]=>rfl|o::l=>by
  have a:=F3 n l;unfold Ac ċ wy at*;simp only[G_,Wh];by_cases h:key o=key n;·simp[h]
  ·simp only[h,decide_false];exact a
theorem qS{o:aj}(h:wy i π=Z o):key o=key π/\o∈i:=by have a:=acb h;exact⟨by simpa using a,List.mem_of_find?_eq_some h⟩
theorem jw(a b:aj):iC a b=a\/iC a b=b:=by
 unfold iC;split;·exact .inr rfl
 ·exact .inl rfl
def xU(l:List aj)(n:aj):aj:=iC ((wy l n).getD n) n
theorem qT(l:List aj)(n:aj):key (xU l n)=key n:=by
 unfold xU;rcases jw ((wy l n).getD n) n with e|e;·rw[e];cases h:wy l n with|none=>rfl|some o=>exact(qS h).1
 ·rw[e]
def wz(l:List aj)(n:aj):List aj:=nJ l (xU l n)
theorem mr(l:List aj)(m:aj):(nJ l m).length<=l.length+1:=by
 unfold nJ;split;·simp
 ·simp
noncomputable def E5(x y:Q)(z:Option Q):Ev:=[Z x,Z y,U,z,U]
theorem OQ(x y:Q)(n:aj)(l:List aj)(h:l.length<1000):dP (E5 x y (Z (Õ n))) (ċ l)=Z (E5 x y (Z (Õ n)),ċ (nJ l n)):=by have a:ag cP 1 (aq (Y 3)) (E5 x y (Z (Õ n)))=Z (.ok (ek n)):=fV cP rfl (iX n);unfold dP Il;rw[a];show(if(ċ l).length<100000 then Z (E5 x y (Z (Õ n)),Fv (ċ l) (key n) (Õ n))else U)=_;rw[if_pos (by simp[ċ];omega),F1]
theorem F4(x y:Q):∀(a l:List aj)(z:Option Q),l.length+a.length<1000->∃b,pS 3 dP (a.map Õ) (E5 x y z) (ċ l)=Z (E5 x y b,ċ (a.foldl nJ l))|[],l,z,_=>⟨z,rfl⟩|n::a,l,z,h=>by simp only[UB]at h;have g:=mr l n;obtain⟨b,e⟩:=F4 x y a (nJ l n) (Z (Õ n)) (by omega);refine⟨b,?_⟩;show(match dP (E5 x y (Z (Õ n))) (ċ l)with|some (d,f)=>pS 3 dP (a.map Õ) d f|none=>U)=_;rw[OQ x y n l (by omega)];exact e
theorem OR(x y:Q)(n:aj)(l:List aj)(h:l.length<1000):dR (E5 x y (Z (Õ n))) (ċ l)=Z (E5 x y (Z (Õ n)),ċ (wz l n)):=by
 have a:ag cP 1 (aq (Y 3)) (E5 x y (Z (Õ n)))=Z (.ok (ek n)):=fV cP rfl (iX n);have e:Ik (ag cP 1 (aq (Y 3))) (Y 3) (E5 x y (Z (Õ n))) (ċ l)=Z (Õ ((wy l n).getD n)):=by unfold Ik;rw[a];show Z ((Ac (ċ l) (key n)).getD (Õ n))=_;rw[F3];cases wy l n<;>rfl
 have b:oY iw (Ik (ag cP 1 (aq (Y 3))) (Y 3)) (Y 3) (E5 x y (Z (Õ n))) (ċ l)=Z (Õ (xU l n)):=by unfold oY;rw[e];show(match iw [Õ ((wy l n).getD n),Õ n]with|some (.ok d)=>Z d|_=>U)=_;rw[later_of];rfl
 unfold dR Il;rw[b,a];show(if(ċ l).length<100000 then Z (E5 x y (Z (Õ n)),Fv (ċ l) (key n) (Õ (xU l n)))else U)=_;rw[if_pos (by simp[ċ];omega),<-qT l n,F1];rfl
theorem F5(x y:Q):∀(a l:List aj)(z:Option Q),l.length+a.length<1000->∃b,pS 3 dR (a.map Õ) (E5 x y z) (ċ l)=Z (E5 x y b,ċ (a.foldl wz l))|[],l,z,_=>⟨z,rfl⟩|n::a,l,z,h=>by simp only[UB]at h;have g:=mr l (xU l n);obtain⟨b,e⟩:=F5 x y a (wz l n) (Z (Õ n)) (by show(nJ l (xU l n)).length+_<_;omega);refine⟨b,?_⟩;show(match dR (E5 x y (Z (Õ n))) (ċ l)with|some (d,f)=>pS 3 dR (a.map Õ) d f|none=>U)=_;rw[OR x y n l (by omega)];exact e
def xN(n:aj):List Q:=[.int n.md,ek n]
def Œ(a b:aj):Bool:=Ė (xN a) (xN b)
def BH(d:List aj):List aj:=gR (λa b=>!Œ b a) d
theorem place_of(n:aj):dO [Õ n]=Z (.ok (.tup (xN n))):=by have e:ag cP 1 (aq (Y 0)) [Z (Õ n)]=Z (.ok (ek n)):=fV cP rfl (iX n);refine iW (j:=.tup (xN n)) ?_;show iy [Z (Õ n)]=_;unfold iy;exact fg (lj (ae (j:=.int n.md) rfl (ae e au)) (show 2<=100000 by omega))
theorem Bh:∀a:List aj,jV dO (a.map Õ)=Z (a.map xN)|[]=>rfl|n::a=>by show(match dO [Õ n],jV dO (a.map Õ)with|some (.ok (.tup d)),Z b=>Z (d::b)|_,_=>U)=_;rw[place_of,Bh a];rfl
theorem Bi(h:i.length<64):ku (i.map xN)=L:=by unfold ku;rw[m_,decide_eq_true_eq,UY];refine⟨by simpa using h,λr a=>?_⟩;obtain⟨n,b,rfl⟩:=Ux.mp a;cases i with|nil=>simp at b|cons x i=>rfl
theorem JU(n:aj):ğ (Õ n)=L:=by unfold Õ;cases h:n.ends<;>simp[ğ,à,eO]
theorem mv:∀a:List aj,à (a.map Õ)=L|[]=>by simp[à]|n::a=>by simp[à,JU n,mv a]
theorem wA:∀a:List aj,à ((a.map xN).map Q.tup)=L|[]=>by simp[à]|n::a=>by have:=wA a;simp only[G_,à,m_];exact⟨by simp[ğ,à,xN,ek],this⟩
theorem xO(d:List aj):mT (d.map xN) (d.map Õ)=(BH d).map Õ:=by
 unfold mT BH;have e:(d.map xN).zip (d.map Õ)=d.map λn=>(xN n,Õ n):=by rw[List.zip_map']
 rw[e,<-TS.sort_map (i:=λa b=>!Œ b a) (λn=>(xN n,Õ n)) d λ_ _ _ _=>rfl,VE];rfl
theorem Ef(h:i.length<64):vX dO (i.map Õ)=Z (.ok (.lst ((BH i).map Õ))):=by unfold vX;rw[Bh];dsimp only;rw[if_pos ⟨Bi h,mv i,wA i⟩,xO]
theorem wB(a:List aj):(BH a).length=a.length:=(cR _ a).length_eq
def Ī(b a:List aj):List aj:=a.foldl wz (b.foldl nJ [])
theorem F6:∀(a l:List aj),(a.foldl nJ l).length<=l.length+a.length:=by intro a;induction a with|nil=>intro l;simp|cons n a b=>intro l;have:=b (nJ l n);have d:=mr l n;simp only[Xj,UB];omega
theorem OS:∀(a l:List aj),(a.foldl wz l).length<=l.length+a.length:=by intro a;induction a with|nil=>intro l;simp|cons n a b=>intro l;have:=b (wz l n);have d:(wz l n).length<=l.length+1:=mr l (xU l n);simp only[Xj,UB];omega
theorem OT(a b:List aj):(Ī a b).length<=a.length+b.length:=by have d:=F6 a [];have e:=OS b (a.foldl nJ []);simp at d;unfold Ī;omega
theorem Bj(g:Ň i)(f:Ň ξ):eM [ej i,ej ξ]=if 20<(Ī i ξ).length then Z (.exc 5)else Z (.ok (ej (BH (Ī i ξ)))):=by
 have p:=g.l;have o:=f.l;have r:=OT i ξ;obtain⟨b,n⟩:=F4 (ej i) (ej ξ) i [] U (by simp;omega);have d:=F6 i [];obtain⟨e,m⟩:=F5 (ej i) (ej ξ) ξ (i.foldl nJ []) b (by simp at d;omega);have k:Im 3 (Y 0) dP (([Z (ej i),Z (ej ξ),U,U,U]:Ev).set 2 U) []=Z (E5 (ej i) (ej ξ) b,ċ (i.foldl nJ [])):=n;have j:Im 3 (Y 1) dR (E5 (ej i) (ej ξ) b) (ċ (i.foldl nJ []))=Z (E5 (ej i) (ej ξ) e,ċ (Ī i ξ)):=m;have h:oZ dO (E5 (ej i) (ej ξ) e) (ċ (Ī i ξ))=Z (.lst ((BH (Ī i ξ)).map Õ)):=by unfold oZ;rw[show(ċ (Ī i ξ)).map (·.2)=(Ī i ξ).map Õ by unfold ċ;rw[VE];rfl,Ef (by omega)]
 have a:=F0 (RU (BH (Ī i ξ)));rw[wB]at a;have key:jr [Z (ej i),Z (ej ξ),U,U,U]=if 20<(Ī i ξ).length then Z (.exc 5)else Z (.rt (ej (BH (Ī i ξ)))):=by
  unfold jr;rw[ay (dY bp rfl (ON (xK g))),ay (dY bp rfl (ON (xK f)))];unfold Ae;rw[k];dsimp only;rw[j];dsimp only;unfold M1;rw[h];dsimp only;by_cases q:20<(Ī i ξ).length;·rw[if_pos q]at a⊢;exact SH (dX ah rfl a)
  ·rw[if_neg q]at a⊢;rw[ay (dY ah rfl a)];rfl
 by_cases q:20<(Ī i ξ).length;·rw[if_pos q]at key⊢;exact Rn key
 ·rw[if_neg q]at key⊢;exact lY key
def rf(d:List aj)(a:aj):aj:=match d.filter (λb=>s_ (key b=key a))with|b::_=>iC a b|[]=>a
theorem u5(a:aj):iC a a=a:=by unfold iC;split<;>rfl
theorem Eg(d:List aj)(a:aj):key (rf d a)=key a:=by
 unfold rf;split
 · rename_i b r h;have f:b∈d.filter (λb=>s_ (key b=key a)):=by rw[h];exact pi
   have:=(UR.mp f).2;rcases jw a b with e|e;·rw[e]
   ·rw[e];simpa using this
 ·rfl
theorem wC(d:List aj)(a:aj):rf d a=a\/rf d a∈d:=by
 unfold rf;split
 · rename_i b r h;have f:b∈d.filter (λb=>s_ (key b=key a)):=by rw[h];exact pi
   rcases jw a b with e|e;·exact .inl e
   ·rw[e];exact .inr (UR.mp f).1
 ·exact .inl rfl
theorem ü:q9 i π=L↔key π∈i.map key:=by unfold q9;simp only[W3,decide_eq_true_eq,Ux]
theorem xP(h:i.map key=ξ.map key)(n:aj):q9 i n=q9 ξ n:=by rw[VO,ü,ü,h]
theorem Bk(h:key π∉i.map key):i.filter (λb=>s_ (key b=key π))=[]:=by rw[List.filter_eq_nil_iff];intro b d a;exact h (Ux.mpr ⟨b,d,by simpa using a⟩)
theorem tN(h:key π∉i.map key):rf i π=π:=by unfold rf;rw[Bk h]
theorem Bl:∀(a l:List aj),((l++a).map key).Nodup->a.foldl nJ l=l++a
 |[],l,_=>by simp|n::a,l,h=>by
  have b:q9 l n=D:=by cases q:q9 l n with|false=>rfl|true=>exfalso;rw[ü]at q;rw[Vx,G_]at h;exact(WG.mp h).2.2 _ q _ pi rfl
  show a.foldl nJ (nJ l n)=_;have e:nJ l n=l++[n]:=by unfold nJ;rw[b];rfl
  rw[e,Bl a (l++[n]) (by simpa using h)];simp
theorem Bm(h:key π∉i.map key):wy i π=U:=by unfold wy;rw[Zt];intro o a b;exact h (Ux.mpr ⟨o,a,by simpa using b⟩)
theorem Bn(f:(i.map key).Nodup){a b:aj}(j:a∈i)(g:b∈i)(h:key a=key b):a=b:=by induction i with|nil=>cases j|cons x i k=>
 rw[G_,Vw]at f;rcases uk.mp j with rfl|e
 · rcases uk.mp g with rfl|d;·rfl
   ·exact absurd (Ux.mpr ⟨b,d,h.symm⟩) f.1
 · rcases uk.mp g with rfl|d;·exact absurd (Ux.mpr ⟨a,e,h⟩) f.1
   ·exact k f.2 e d
theorem u8:∀(d l:List aj),(d.map key).Nodup->(l.map key).Nodup->d.foldl wz l=l.map (rf d)++Ko d l
 |[],l,_,_=>by
  have e:l.map (rf [])=l:=by rw[show(rf []:aj->aj)=id from rfl];exact List.map_id l
  simp[Ko,e]|n::d,l,j,r=>by
  rw[G_,Vw]at j;show d.foldl wz (wz l n)=_;by_cases f:key n∈l.map key
  · have e:wz l n=l.map λo=>if key o=key n then iC o n else o:=by
     obtain⟨s,g,i⟩:=Ux.mp f;have E:wy l n=Z s:=by cases q:wy l n with|none=>unfold wy at q;rw[Zt]at q;exact absurd (by simpa using i) (q s g)|some o=>rw[Bn r (qS q).2 g ((qS q).1.trans i.symm)]
     have v:xU l n=iC s n:=by unfold xU;rw[E];rfl
     unfold wz nJ;rw[if_pos (by rw[ü,qT];exact f)];apply V0;intro o u;rw[qT];by_cases h:key o=key n;·rw[if_pos h,if_pos h,v,Bn r u g (h.trans i.symm)]
     ·rw[if_neg h,if_neg h]
    have p:(l.map λo=>if key o=key n then iC o n else o).map key=l.map key:=by
     rw[VE];apply V0;intro o _;simp only[YL];split
     · rename_i h;rcases jw o n with q|q;·rw[q]
       ·rw[q,h]
     ·rfl
    rw[e,u8 d _ j.2 (by rw[p];exact r),VE];congr 1
    · apply V0;intro o _;simp only[YL];by_cases h:key o=key n
      · rw[if_pos h];have w:key (iC o n)=key n:=by
         rcases jw o n with q|q;·rw[q,h]
         ·rw[q]
        rw[tN (by rw[w];exact j.1)];unfold rf;rw[W1 (by simp[h])]
      ·rw[if_neg h];unfold rf;rw[Wf (by simpa using UK h)]
    ·have k:q9 l n=L:=ü.mpr f;show d.filter _=(n::d).filter _;rw[Wf (by simp[k])];apply abG;intro m _;rw[xP p m]
  · have e:wz l n=l++[n]:=by
     have v:xU l n=n:=by unfold xU;rw[Bm f];exact u5 n
     have k:q9 l n=D:=by cases q:q9 l n with|false=>rfl|true=>exact absurd (ü.mp q) f
     unfold wz nJ;rw[v,k];rfl
    rw[e,u8 d _ j.2 (by rw[Vx];exact WG.mpr ⟨r,by simp,λa H b y z=>by simp only[G_,Yw,Uy]at y;exact f (by rw[<-y,<-z];exact H)⟩),Vx,G_,Yw,tN j.1];have k:q9 l n=D:=by cases q:q9 l n with|false=>rfl|true=>exact absurd (ü.mp q) f
    have N:l.map (rf d)=l.map (rf (n::d)):=by apply V0;intro o u;unfold rf;rw[Wf (by simp only[decide_eq_true_eq];exactλz=>f (by rw[z];exact Ux.mpr ⟨o,u,rfl⟩))]
    have I:Ko d (l++[n])=Ko d l:=by
     apply abG;intro m A;have:q9 (l++[n]) m=q9 l m:=by
      unfold q9;rw[List.any_append];have:([n].any λo=>s_ (key o=key m))=D:=by simp only[V_,List.any_nil,abc,decide_eq_false_iff_not];exactλz=>j.1 (by rw[z];exact Ux.mpr ⟨m,A,rfl⟩)
      rw[this,abc]
     rw[this]
    rw[N,I];show _=l.map (rf (n::d))++(n::d).filter _;rw[W1 (by simp[k])];simp[Ko]
theorem Bo(a:(i.map key).Nodup)(b:(ξ.map key).Nodup):Ī i ξ=i.map (rf ξ)++Ko ξ i:=by unfold Ī;rw[Bl i [] (by simpa using a),aat,u8 ξ i b a]
theorem F7(f:(i.map key).Nodup)(d:(ξ.map key).Nodup):((Ī i ξ).map key).Nodup:=by rw[Bo f d,Vx,VE];have e:i.map (key∘rf ξ)=i.map key:=V0 λa _=>Eg ξ a;rw[e];refine WG.mpr ⟨f,List.Nodup.sublist (List.Sublist.map _ Y4) d,λa j b h z=>?_⟩;obtain⟨n,g,rfl⟩:=Ux.mp h;have:=(UR.mp g).2;subst z;rw[ü.mpr j]at this;cases this
theorem Eh(g:(i.map key).Nodup)(f:(ξ.map key).Nodup)(k:∀n∈i,ç n)(d:∀n∈ξ,ç n):∀n∈Ī i ξ,ç n:=by
 intro n b;rw[Bo g f]at b;rcases R_.mp b with h|h
 · obtain⟨a,j,rfl⟩:=Ux.mp h;rcases wC ξ a with e|e;·rw[e];exact k a j
   ·exact d _ e
 ·exact d n (UR.mp h).1
theorem F8{g:Type}{d:g->g->Bool}(k:∀a b c,d a b=L->d b c=L->d a c=L)(x:g):∀l:List g,(∀y∈l,d x y=L\/d y x=L)->l.Pairwise (λa b=>d a b=L)->(xf (λa b=>!d b a) x l).Pairwise (λa b=>d a b=L)
 |[],_,_=>by simp[xf]|y::l,m,h=>by
  unfold xf;rw[Vf]at h;split
  · rename_i i;have f:d x y=L:=by
     rcases m y pi with q|q;·exact q
     ·rw[q]at i;cases i
    rw[Vf,Vf];refine⟨λz e=>?_,h⟩;rcases uk.mp e with rfl|e;·exact f
    ·exact k _ _ _ f (h.1 z e)
  · rename_i i;have j:d y x=L:=by simpa using i
    rw[Vf];refine⟨λz e=>?_,F8 k x l (λz e=>m z (rl _ e)) h.2⟩;rcases uk.mp ((kq _ x l).mem_iff.mp e)with rfl|e;·exact j
    ·exact h.1 z e
theorem Bp{e:Type}{d:e->e->Bool}(f:∀a b c,d a b=L->d b c=L->d a c=L):∀l:List e,l.Pairwise (λa b=>d a b=L\/d b a=L)->(gR (λa b=>!d b a) l).Pairwise (λa b=>d a b=L)|[],_=>.nil|x::l,h=>by rw[Vf]at h;exact F8 f x _ (λy g=>h.1 y ((cR _ l).mem_iff.mp g)) (Bp f l h.2)
theorem OW{b:aj}(h:key π≠key b):nQ (key π) (key b)=L\/nQ (key b) (key π)=L:=by cases q:nQ (key π) (key b)with|true=>exact .inl rfl|false=>cases a:nQ (key b) (key π)with|true=>exact .inr rfl|false=>exact absurd (uy (xs:=key π) (ys:=key b) rfl q a) h
theorem RV(d:(i.map key).Nodup):i.Pairwise (λa b=>key a≠key b):=by unfold List.Nodup at d;rw[Yv]at d;exact d
theorem OX{b c:aj}(h:Œ π b=L)(a:Œ b c=L):Œ π c=L:=zQ h a
theorem Bq(a b:aj):Œ a b=if a.md=b.md then nQ (key a) (key b)else s_ (a.md<b.md):=by
 have f:df [Q.str a.nm,.str a.house,.str a.path]=Z (key a):=rfl;have e:df [Q.str b.nm,.str b.house,.str b.path]=Z (key b):=rfl;unfold Œ xN ek;simp only[Ė,ĸ,Ĥ,f,e,beq_iff_eq];split
 · by_cases d:key a=key b;·simp[d,zN]
   ·simp[d]
 ·rfl
theorem OY{b:aj}(h:key π≠key b):Œ π b=L\/Œ b π=L:=by
 rw[Bq,Bq];by_cases a:π.md=b.md;·rw[if_pos a,if_pos a.symm];exact OW h
 · rw[if_neg a,if_neg (UK a)];rcases Int.lt_or_gt_of_ne a with q|q;·exact .inl (decide_eq_true q)
   ·exact .inr (decide_eq_true q)
theorem OZ{b:aj}(h:Œ π b=L):π.md<=b.md:=by
 rw[Bq]at h;split at h;·omega
 ·have:=of_decide_eq_true h;omega
theorem JV(d:(i.map key).Nodup):(BH i).Pairwise (λa b=>Œ a b=L):=Bp (d:=Œ) (λa b c h e=>OX h e) i ((RV d).imp λ{a b}h=>OY h)
def Ă(b a:List aj):List aj:=BH (Ī b a)
theorem į:π∈Ă i ξ↔π∈Ī i ξ:=(cR _ _).mem_iff
theorem Ei(b:(i.map key).Nodup)(a:(ξ.map key).Nodup):((Ă i ξ).map key).Nodup:=((cR _ (Ī i ξ)).map key).nodup_iff.mpr (F7 b a)
theorem Ej(e:(i.map key).Nodup)(d:(ξ.map key).Nodup):(Ă i ξ).Pairwise (λa b=>Œ a b=L):=JV (F7 e d)
theorem Ek(j:JS n i)(f:JS n ξ):JS n (Ă i ξ)where
 g:=λd m=>Eh j.k f.k j.g f.g d (į.mp m);s:=(Ej j.k f.k).imp λ{a b}q=>OZ q;k:=Ei j.k f.k;u:=λd m=>by
  have h:=į.mp m;rw[Bo j.k f.k]at h;rcases R_.mp h with q|q
  · obtain⟨a,o,rfl⟩:=Ux.mp q;rcases wC ξ a with e|e;·rw[e];exact j.u a o
    ·exact f.u _ e
  ·exact f.u d (UR.mp q).1
theorem Br(d:JS n i)(g:i.length<=20)(b:JS n ξ)(f:ξ.length<=20):(∃a,eM [ej i,ej ξ]=Z (.ok (ej a))/\JS n a/\a.length<=20)\/eM [ej i,ej ξ]=Z (.exc 5):=by
 have e:=Bj (d.jar g) (b.jar f);by_cases q:20<(Ī i ξ).length;·rw[if_pos q]at e;exact .inr e
 ·rw[if_neg q]at e;exact .inl ⟨Ă i ξ,e,Ek d b,by unfold Ă;rw[wB];omega⟩
theorem Uo(h:bH [.str d]=bo L):fL [.str d]=Z (.ok .non):=by simp[fL,gJ,gW,br,db,Ø,cQ,fB,ă,ag,aR,bQ,Y,h]
def JW(a:List aj)(h:Str):List aj:=a.filter λn=>!ŵ n.house h
theorem El(d:JS n i)(f:i.length<=20){h:Str}(b:h∈En):fP [ej i,.str h]=Z (.ok (ej (JW i h))):=by refine lY ?_;show fN [Z (ej i),Z (.str h)]=_;unfold fN;rw[ay (dY bp rfl (ON (xK (d.jar f)))),ay (dY fL rfl (Uo (N6 b)))];refine fg ?_;have e:(du [("house",1)] (gl (Y 0)) (Z (cQ (fB (ag aE 2 (bJ (R Î (Y 0) (X 2)) (Y 1)))))) (Y 0)) [Z (ej i),Z (.str h)]=Z (.ok (.lst ((JW i h).map Õ))):=kQ Õ _ Õ (kW rfl) (by omega) λa g=>⟨pb (bK (hX aE (a:=.str a.house) (b:=.str h) rfl rfl (JM (d.g a g).house b))),rfl⟩;exact(dj (ae e au)).trans rfl
variable{Τ:Ý}
theorem az{a:ñ}{K:cu}(h:Â o Γ=Z (.nx a Τ)):eV Â K o Γ=K Τ a:=by unfold eV;rw[h];rfl
theorem F9{K:cu}(h:Â o Γ=Z (.exc b Τ)):eV Â K o Γ=Z (.exc b Τ):=by unfold eV;rw[h];rfl
theorem Bs{K:cu}{u:Uv}(h:Â o Γ=Z (.rt u Τ)):eV Â K o Γ=Z (.rt u Τ):=by unfold eV;rw[h];rfl
theorem cH{a:ñ}{u:Uv}(h:Κ o Γ=Z (.ok u Τ))(e:Γ.set b (Z u)=a):lP b Κ o Γ=Z (.nx a Τ):=by unfold lP;rw[h,<-e];rfl
theorem Ga(h:Κ o Γ=Z (.exc k Τ)):lP b Κ o Γ=Z (.exc k Τ):=by unfold lP;rw[h];rfl
theorem fF{u:Uv}(h:Κ o Γ=Z (.ok u Τ)):jI Κ o Γ=Z (.nx Γ Τ):=by unfold jI;rw[h];rfl
theorem dF{u:Uv}(h:Κ o Γ=Z (.ok u Τ)):jO Κ o Γ=Z (.rt u Τ):=by unfold jO;rw[h];rfl
theorem Gb(h:Κ o Γ=Z (.exc b Τ)):jO Κ o Γ=Z (.exc b Τ):=by unfold jO;rw[h];rfl
theorem ai(h:z (ö o Γ)=Z (.ok j))(a:pl j=L):aC z o Γ=Z (.ok (.inl j) o):=by unfold aC;rw[h];exact if_pos a
theorem Bt(h:z (ö o Γ)=Z (.exc b)):aC z o Γ=Z (.exc b o):=by unfold aC;rw[h]
theorem aM{u:Uv}(h:Γ[b]?=Z (Z u)):cr b o Γ=Z (.ok u o):=by unfold cr;rw[h]
theorem aH{d:Ý}{b:mW}{u:Uv}{a:List Uv}(h:Κ o Γ=Z (.ok u Τ))(e:b Τ Γ=Z (.ok a d)):aT Κ b o Γ=Z (.ok (u::a) d):=by unfold aT jH;rw[h];dsimp only;rw[e]
theorem bL{e:Ý}{d:mW}{a:List Uv}{j:List Uv}(h:Κ o Γ=Z (.ok (.inr υ) Τ))(f:Τ[υ]?=Z (.obj b j))(i:d Τ Γ=Z (.ok a e))(g:a.length=k):cO b Ê k Κ d o Γ=Ê e (.inr υ::a):=by unfold cO jH;rw[h];dsimp only;rw[f];dsimp only;rw[if_pos rfl,i];exact if_pos g
theorem JX{K:cu}{p:sE}(h:p o Γ=Z (.ok L Τ)):ĩ p Â K o Γ=Â Τ Γ:=by unfold ĩ;rw[h];rfl
theorem Em{K:cu}{p:sE}(h:p o Γ=Z (.ok D Τ)):ĩ p Â K o Γ=K Τ Γ:=by unfold ĩ;rw[h];rfl
theorem gG(h:Ξ (ö o Γ)=Z (.ok E)):ei Ξ o Γ=Z (.ok E o):=by unfold ei;rw[h]
theorem gH{u:Uv}{a:List Uv}(h:Â o (a.map Z++u_ (b-a.length) U)=Z (.rt u Τ)):mi b Â o a=Z (.ok u Τ):=by unfold mi;rw[h]
theorem Bu{a:List Uv}(h:Â o (a.map Z++u_ (b-a.length) U)=Z (.nx Γ Τ)):mi b Â o a=Z (.ok (.inl .non) Τ):=by unfold mi;rw[h]
theorem Gc{a:List Uv}(h:Â o (a.map Z++u_ (b-a.length) U)=Z (.exc k Τ)):mi b Â o a=Z (.exc k Τ):=by unfold mi;rw[h]
theorem nK{u:Uv}{a:List Uv}(h:Κ o Γ=Z (.ok (.inr υ) Τ))(d:Τ[υ]?=Z (.obj b a))(e:a[k]?=Z u):BG b k Κ o Γ=Z (.ok u Τ):=by unfold BG jH Q7;rw[h];dsimp only;rw[d];dsimp only;rw[if_pos rfl,e]
theorem ie{e:Ý}{a:î}{f d:List Uv}{w:Uv}(j:Κ o Γ=Z (.ok w Τ))(h:a Τ Γ=Z (.ok (.inr υ) e))(g:e[υ]?=Z (.obj b f))(i:tP b k w f=Z d):tQ b k a Κ o Γ=Z (.nx Γ (e.set υ (.obj b d))):=by unfold tQ Fx;rw[j];dsimp only;rw[h];dsimp only;rw[g];dsimp only;rw[if_pos rfl,i]
theorem Bv{d:Ý}{e:mW}{a:List Q}(h:Κ o Γ=Z (.ok (.inr b) Τ))(f:Τ[b]?=Z (.lst H))(i:e Τ Γ=Z (.ok [.inl j] d))(k:d[b]?=Z (.lst a))(g:a.length<100000):IF Κ e o Γ=Z (.ok (.inl .non) (d.set b (.lst (a++[j])))):=by unfold IF jH;rw[h];dsimp only;rw[f];dsimp only;rw[i];dsimp only;rw[show ins [.inl j]=Z [j]from rfl,k];exact if_pos g
theorem JZ(h:Κ o Γ=Z (.ok (.inr b) Τ))(a:Τ[b]?=Z (.lst (H++[j]))):Ng Κ o Γ=Z (.ok (.inl j) (Τ.set b (.lst H))):=by unfold Ng jH;rw[h];dsimp only;rw[a];dsimp only;rw[show(H++[j])[(H++[j]).length-1]?=Z j by simp];dsimp only;rw[List.dropLast_concat]
theorem qU:DB el o Γ=Z (.ok (.inr o.length) (o++[ø.lst []])):=rfl
abbrev Sp:=Str×List aj
def æ(s:Sp):Q:=.tup [.str s.1,ej s.2]
def Ğ(T:Q)(b:List aj)(d a:List Sp):Q:=.obj 1 [T,ej b,.lst (d.map æ),.lst (a.map æ)]
def Ģ(T:Q)(d:List aj)(a b:Nat):ø:=.obj 1 [.inl T,.inl (ej d),.inr a,.inr b]
structure DA(S:Ý)(n:Nat)(T:Q)(js:List aj)(ds us:List Sp)(a b:Nat):Prop where
 o:S[n]?=Z (Ģ T js a b)d:S[a]?=Z (.lst (ds.map æ))u:S[b]?=Z (.lst (us.map æ))na:n≠a
 nb:n≠b
 ab:a≠b
structure Ch(S S':Ý)(n a b:Nat):Prop where
 l:S.length<=S'.length
 h:∀c,c<S.length->c≠n->c≠a->c≠b->S'[c]?=S[c]?
variable{ω Θ:List Sp}
theorem DA.vw(h:DA o b j i ω Θ k υ):vw o (.inr b)=Z (Ğ j i ω Θ):=by unfold FD.vw;dsimp only;rw[h.o];simp[Ģ,vwL,vw1,h.d,h.u,Ğ]
theorem fZ{l:List δ}(h:l[b]?=Z Ë):b<l.length:=(H_.mp h).1
theorem Ch.refl:Ch o o b k υ:=⟨on _,λ_ _ _ _ _=>rfl⟩
theorem Ch.trans{i:Ý}{a:Nat}(h:Ch o Τ b k υ)(g:Ch Τ i b k a)(m:a=υ\/o.length<=a):Ch o i b k υ:=⟨UD h.l g.l,λc j f e d=>by have n:=h.l;rw[g.h c (by omega) f e (by rcases m with rfl|q<;>first|exact d|omega)];exact h.h c j f e d⟩
theorem gZ:ak [Ğ j i ω Θ]=Z (.ok (ej i)):=rfl
theorem hU:aI [Ğ j i ω Θ]=Z (.ok (.tup [.int (ω.length:Nat),.int (Θ.length:Nat)])):=by simp[aI,gJ,fX,aO,db,Ø,dH,aR,bQ,â,f1,jG,Y,Ğ,fU]
theorem lZ(a:List aj):pl (ej a)=L:=by show à (a.map Õ)=L;exact mv a
theorem Ge(a:List aj):ğ (ej a)=L:=by show à (a.map Õ)=L;exact mv a
theorem u9(s:Sp):ğ (æ s)=L:=by simp[æ,ğ,à,Ge]
theorem qV:∀l:List Sp,à (l.map æ)=L|[]=>by simp[à]|s::l=>by simp[à,u9 s,qV l]
theorem Ĳ(h:DA o b j i ω Θ k υ)(w:Str)(z:ω.length<1000):∃a,cp o [.inr b,.inl (.str w),.inl (ej ξ)]=Z (.ok (.inl .non) a)/\DA a b j ξ (ω++[(w,i)]) [] k o.length/\Ch o a b k υ:=by
 have p:=fZ h.o;have d:=fZ h.d;have y:=fZ h.u;refine⟨(((o.set k (.lst ((ω++[(w,i)]).map æ)))++[ø.lst []]).set b (Ģ j i k o.length)).set b (Ģ j ξ k o.length),?_,⟨?_,?_,?_,h.na,by omega,by omega⟩,⟨by simp,λc q e r _=>?_⟩⟩
 · refine Bu (Γ:=[Z (.inr b),Z (.inl (.str w)),Z (.inl (ej ξ))]) ?_;show cT o [Z (.inr b),Z (.inl (.str w)),Z (.inl (ej ξ))]=_;unfold cT;have g:ö o [Z (.inr b),Z (.inl (.str w)),Z (.inl (ej ξ))]=[Z (Ğ j i ω Θ),Z (.str w),Z (ej ξ)]:=by simp only[ö,G_,Yw,Option.bind_some];rw[h.vw];rfl
   have v:IF (BG 1 2 (cr 0)) (aT (aC (dH (bJ (Y 1) (f1 (jG 1 1) (Y 0))))) el) o [Z (.inr b),Z (.inl (.str w)),Z (.inl (ej ξ))]=Z (.ok (.inl .non) (o.set k (.lst (ω.map æ++[æ (w,i)])))):=Bv (nK (aM rfl) h.o rfl) h.d (aH (ai (j:=æ (w,i)) (by rw[g];rfl) (u9 _)) rfl) h.d (by simpa using(by omega:ω.length<100000));rw[az (fF v)];have n:(o.set k (.lst (ω.map æ++[æ (w,i)]))++[ø.lst []])[b]?=Z (Ģ j i k υ):=by rw[M_ (by simpa using p),p_ (UK h.na)];exact h.o
   have u:tQ 1 3 (cr 0) (DB el) (o.set k (.lst (ω.map æ++[æ (w,i)]))) [Z (.inr b),Z (.inl (.str w)),Z (.inl (ej ξ))]=Z (.nx [Z (.inr b),Z (.inl (.str w)),Z (.inl (ej ξ))] ((o.set k (.lst (ω.map æ++[æ (w,i)]))++[ø.lst []]).set b (Ģ j i k o.length))):=by have:=ie (b:=1) (k:=3) (d:=[.inl j,.inl (ej i),.inr k,.inr o.length]) (Κ:=DB el) (a:=cr 0) (o:=o.set k (.lst (ω.map æ++[æ (w,i)]))) (Γ:=[Z (.inr b),Z (.inl (.str w)),Z (.inl (ej ξ))]) qU (aM rfl) n (by simp[tP]);exact this
   rw[az u];have m:((o.set k (.lst (ω.map æ++[æ (w,i)]))++[ø.lst []]).set b (Ģ j i k o.length))[b]?=Z (Ģ j i k o.length):=A_ (by simp;omega);have f:(Y 2) (ö ((o.set k (.lst (ω.map æ++[æ (w,i)]))++[ø.lst []]).set b (Ģ j i k o.length)) [Z (.inr b),Z (.inl (.str w)),Z (.inl (ej ξ))])=Z (.ok (ej ξ)):=rfl;have s:=ie (b:=1) (k:=1) (d:=[.inl j,.inl (ej ξ),.inr k,.inr o.length]) (Κ:=aC (Y 2)) (a:=cr 0) (ai f (lZ ξ)) (aM rfl) m (by simp[tP]);rw[s];simp[Ģ]
 ·exact A_ (by simp;omega)
 ·rw[p_ h.na,p_ h.na,M_ (by simpa using d)];exact A_ d
 ·rw[p_ (by omega),p_ (by omega),L_ (by simp)];simp
 ·rw[p_ (UK e),p_ (UK e),M_ (by simpa using q),p_ (UK r)]
def Did(S:Ý)(n:Nat)(T:Q)(f:List aj)(g:List Sp)(a b:Nat)(e:List aj)(w:Str)(v:Q)(r:Option (Ru Uv)):Prop:=∃d,r=Z (.ok (.inl v) d)/\DA d n T e (g++[(w,f)]) [] a S.length/\Ch S d n a b
theorem Bw(a:List aj):fU [ej a]=Z (.ok (.int (a.length:Nat))):=by simp[fU,ej]
theorem Eo(h:ε[0]?=Z (Z (Ğ j i ω Θ))):f1 (jG 1 1) (Y 0) ε=Z (.ok (ej i)):=by unfold f1 Y;rw[h];rfl
theorem Pn(h:ε[0]?=Z (Z (Ğ j i ω Θ))):f1 (jG 1 0) (Y 0) ε=Z (.ok j):=by unfold f1 Y;rw[h];rfl
theorem xV(h:DA o b j i ω Θ k υ)(a:Γ[0]?=Z (Z (.inr b))):(ö o Γ)[0]?=Z (Z (Ğ j i ω Θ)):=by unfold ö;rw[P_,a];show Z (vw o (.inr b))=_;rw[h.vw]
theorem wD(h:DA o b j i ω Θ k υ)(w:Str)(m:ω.length<1000):Did o b j i ω k υ ξ w (.int ((i.length:Int)-(ξ.length:Int))) (ci o [.inr b,.inl (.str w),.inl (ej ξ)]):=by obtain⟨d,e,a,C⟩:=Ĳ (ξ:=ξ) h w m;refine⟨d,gH ?_,a,C⟩;show bI o [Z (.inr b),Z (.inl (.str w)),Z (.inl (ej ξ)),U]=_;unfold bI;have f:=xV (Γ:=[Z (.inr b),Z (.inl (.str w)),Z (.inl (ej ξ)),U]) h rfl;have n:(R uj (â fU (aq (f1 (jG 1 1) (Y 0)))) (â fU (aq (Y 2)))) (ö o [Z (.inr b),Z (.inl (.str w)),Z (.inl (ej ξ)),U])=Z (.ok (.int ((i.length:Int)-(ξ.length:Int)))):=(bi (j:=.int (i.length:Nat)) (θ:=.int (ξ.length:Nat)) ((dj (ae (Eo f) au)).trans (Bw i)) ((dj (ae (j:=ej ξ) rfl au)).trans (Bw ξ))).trans rfl;rw[az (cH (a:=[Z (.inr b),Z (.inl (.str w)),Z (.inl (ej ξ)),Z (.inl (.int ((i.length:Int)-(ξ.length:Int))))]) (ai n rfl) rfl)];have g:cO 1 cp 2 (cr 0) (aT (aC (Y 1)) (aT (aC (Y 2)) el)) o [Z (.inr b),Z (.inl (.str w)),Z (.inl (ej ξ)),Z (.inl (.int ((i.length:Int)-(ξ.length:Int))))]=Z (.ok (.inl .non) d):=(bL (a:=[.inl (.str w),.inl (ej ξ)]) (aM rfl) h.o (aH (ai (j:=.str w) rfl rfl) (aH (ai (j:=ej ξ) rfl (lZ ξ)) rfl)) rfl).trans e;rw[az (fF g)];exact dF (ai (j:=.int ((i.length:Int)-(ξ.length:Int))) rfl rfl)
theorem cE2(F:Ö){f g:Ò}{d:Ev}{a b:Q}{r:Option (Rs Q)}(h:f d=Z (.ok a))(i:g d=Z (.ok b))(e:F [a,b]=r):aG F 2 (bJ f g) d=r:=cE F (ae h (ae i au)) rfl e
theorem Ep(h:DA o b j i ω Θ k υ)(g:ω.length<1000){a:Int}(e:kP [ej i,.int a]=Z (.ok (ej ξ))):Did o b j i ω k υ ξ "sweep" (.int ((i.length:Int)-(ξ.length:Int))) (eU o [.inr b,.inl (.int a)]):=by obtain⟨n,m,d,C⟩:=wD (ξ:=ξ) h "sweep" g;refine⟨n,gH ?_,d,C⟩;show eQ o [Z (.inr b),Z (.inl (.int a))]=_;unfold eQ;have f:=xV (Γ:=[Z (.inr b),Z (.inl (.int a))]) h rfl;exact dF ((bL (a:=[.inl (.str "sweep"),.inl (ej ξ)]) (aM rfl) h.o (aH (ai (j:=.str "sweep") rfl rfl) (aH (ai (j:=ej ξ) (cE2 kP (Eo f) (b:=.int a) rfl e) (lZ ξ)) rfl)) rfl).trans m)
theorem Bx(h:DA o b j i ω Θ k υ)(g:ω.length<1000){a:Str}(e:fP [ej i,.str a]=Z (.ok (ej ξ))):Did o b j i ω k υ ξ "forget" (.int ((i.length:Int)-(ξ.length:Int))) (dq o [.inr b,.inl (.str a)]):=by obtain⟨n,m,d,C⟩:=wD (ξ:=ξ) h "forget" g;refine⟨n,gH ?_,d,C⟩;show dk o [Z (.inr b),Z (.inl (.str a))]=_;unfold dk;have f:=xV (Γ:=[Z (.inr b),Z (.inl (.str a))]) h rfl;exact dF ((bL (a:=[.inl (.str "forget"),.inl (ej ξ)]) (aM rfl) h.o (aH (ai (j:=.str "forget") rfl rfl) (aH (ai (j:=ej ξ) (cE2 fP (Eo f) (b:=.str a) rfl e) (lZ ξ)) rfl)) rfl).trans m)
theorem Er(h:DA o b j i ω Θ k υ)(g:ω.length<1000){d:List aj}(e:eM [ej i,ej d]=Z (.ok (ej ξ))):Did o b j i ω k υ ξ "merge" (.int (ξ.length:Nat)) (eP o [.inr b,.inl (ej d)]):=by obtain⟨n,m,a,C⟩:=Ĳ (ξ:=ξ) h "merge" g;refine⟨n,gH ?_,a,C⟩;show cB o [Z (.inr b),Z (.inl (ej d)),U]=_;unfold cB;have f:=xV (Γ:=[Z (.inr b),Z (.inl (ej d)),U]) h rfl;rw[az (cH (a:=[Z (.inr b),Z (.inl (ej d)),Z (.inl (ej ξ))]) (ai (j:=ej ξ) (cE2 eM (Eo f) (b:=ej d) rfl e) (lZ ξ)) rfl)];refine VB (az (fF ((bL (a:=[.inl (.str "merge"),.inl (ej ξ)]) (aM rfl) h.o (aH (ai (j:=.str "merge") rfl rfl) (aH (ai (j:=ej ξ) rfl (lZ ξ)) rfl)) rfl).trans m))) ?_;exact dF (ai (j:=.int (ξ.length:Nat)) ((dj (ae (j:=ej ξ) rfl au)).trans (Bw ξ)) rfl)
theorem J0(h:DA o b j i ω Θ k υ){a:List aj}(e:eM [ej i,ej a]=Z (.exc 5)):eP o [.inr b,.inl (ej a)]=Z (.exc 5 o):=by refine Gc ?_;show cB o [Z (.inr b),Z (.inl (ej a)),U]=_;unfold cB;have d:=xV (Γ:=[Z (.inr b),Z (.inl (ej a)),U]) h rfl;exact F9 (Ga (Bt (cE2 eM (Eo d) (b:=ej a) rfl e)))
theorem cE5(F:Ö){f g k m q:Ò}{i:Ev}{a b c d e:Q}{r:Option (Rs Q)}(h:f i=Z (.ok a))(s:g i=Z (.ok b))(j:k i=Z (.ok c))(p:m i=Z (.ok d))(o:q i=Z (.ok e))(n:F [a,b,c,d,e]=r):aG F 5 (nR f g k m q) i=r:=cE F (ae h (ae s (ae j (ae p (ae o au))))) rfl n
theorem J8(h:DA o b j i ω Θ k υ)(m:ω.length<1000){A X:Q}{d:Int}{w:Str}(s:pl A=L)(r:pl X=L)(e:fE [j,ej i,A,X,.int d]=Z (.ok (ej ξ)))(n:gh [j,ej i,A,X,.int d]=Z (.ok (.str w))):Did o b j i ω k υ ξ "give" (.str w) (dL o [.inr b,.inl A,.inl X,.inl (.int d)]):=by obtain⟨q,p,a,C⟩:=Ĳ (ξ:=ξ) h "give" m;refine⟨q,gH ?_,a,C⟩;show cY o [Z (.inr b),Z (.inl A),Z (.inl X),Z (.inl (.int d)),U,U]=_;unfold cY;have g:=xV (Γ:=[Z (.inr b),Z (.inl A),Z (.inl X),Z (.inl (.int d)),U,U]) h rfl;have f:=xV (Γ:=[Z (.inr b),Z (.inl A),Z (.inl X),Z (.inl (.int d)),Z (.inl (ej ξ)),U]) h rfl;rw[az (cH (a:=[Z (.inr b),Z (.inl A),Z (.inl X),Z (.inl (.int d)),Z (.inl (ej ξ)),U]) (ai (j:=ej ξ) (cE5 fE (Pn g) (Eo g) (c:=A) (d:=X) (e:=.int d) rfl rfl rfl e) (lZ ξ)) rfl)];rw[az (cH (a:=[Z (.inr b),Z (.inl A),Z (.inl X),Z (.inl (.int d)),Z (.inl (ej ξ)),Z (.inl (.str w))]) (ai (j:=.str w) (cE5 gh (Pn f) (Eo f) (c:=A) (d:=X) (e:=.int d) rfl rfl rfl n) rfl) rfl)];refine VB (az (fF ((bL (a:=[.inl (.str "give"),.inl (ej ξ)]) (aM rfl) h.o (aH (ai (j:=.str "give") rfl rfl) (aH (ai (j:=ej ξ) rfl (lZ ξ)) rfl)) rfl).trans p))) ?_;exact dF (ai (j:=.str w) rfl rfl)
theorem O0(h:DA o b j i ω Θ k υ){A X:Q}{a:Int}(e:fE [j,ej i,A,X,.int a]=Z (.exc 5)):dL o [.inr b,.inl A,.inl X,.inl (.int a)]=Z (.exc 5 o):=by refine Gc ?_;show cY o [Z (.inr b),Z (.inl A),Z (.inl X),Z (.inl (.int a)),U,U]=_;unfold cY;have d:=xV (Γ:=[Z (.inr b),Z (.inl A),Z (.inl X),Z (.inl (.int a)),U,U]) h rfl;exact F9 (Ga (Bt (cE5 fE (Pn d) (Eo d) (c:=A) (d:=X) (e:=.int a) rfl rfl rfl e)))
noncomputable def w4:List Str:=[b_ "give",b_ "sweep",b_ "forget",b_ "merge"]
theorem Gf:(w4.all λx=>UV (.str x))=L:=by lk
theorem O1(h:ě b j)(q:b<=k):ě k j:=⟨h.1,UD h.2 q,h.3⟩
structure Gg(s:Sp):Prop where
 w:s.1∈w4
 g:∀n∈s.2,ç n
theorem O2{s:Sp}(h:Gg s):ě 3 (æ s):=nv λd a=>by
 simp only[uk,O_,or_false]at a;rcases a with rfl|rfl;·exact O1 (jQ (aZ (p:=λx=>UV (.str x)) Gf h.w)) (by omega)
 ·exact JH h.g
theorem xQ(h:∀s∈ω,Gg s)(f:ω≠[]):Þ (.lst (ω.map æ)) (.lst [])=bo D:=by cases ω with|nil=>exact absurd rfl f|cons o rest=>
 have b:ě 4 (.lst ((o::rest).map æ)):=wo λd g=>by obtain⟨s,e,rfl⟩:=Ux.mp g;exact O2 (h s e)
 have i2:=b.okP (by omega);have a:okP (.lst [])=L:=by lk
 unfold Þ;rw[show Ś (.lst ((o::rest).map æ)) (.lst [])=U from rfl,i2,a];simp[gI,ó,Vr,Wp]
theorem O3{d a:Uv}{e:List Q}(m:o[b]?=Z (.obj 1 [.inl j,.inl (ej i),d,a]))(h:(d=.inr k/\a=.inr υ)\/(d=.inr υ/\a=.inr k))(g:o[k]?=Z (.lst H))(f:o[υ]?=Z (.lst e)):∃fs,vw o (.inr b)=Z (.obj 1 (j::ej i::fs)):=by
 unfold FD.vw;dsimp only;rw[m];rcases h with⟨rfl,rfl⟩|⟨rfl,rfl⟩;·exact⟨[.lst H,.lst e],by simp[vwL,vw1,g,f]⟩
 ·exact⟨[.lst e,.lst H],by simp[vwL,vw1,g,f]⟩
theorem By{e a:Uv}(m:o[b]?=Z (.obj 1 [.inl j,.inl (ej i),e,a]))(I:(e=.inr k/\a=.inr υ)\/(e=.inr υ/\a=.inr k))(g:o[k]?=Z (.lst ((Θ++[(d,ξ)]).map æ)))(n:o[υ]?=Z (.lst (ω.map æ)))(A:b≠k)(z:b≠υ)(s:k≠υ)(w:∀q∈Θ++[(d,ξ)],Gg q)(hl:ω.length<1000):gT o [.inr b,.inr k,.inr υ]=Z (.ok (.inl (.str d)) (((o.set k (.lst (Θ.map æ))).set υ (.lst ((ω++[(d,i)]).map æ))).set b (.obj 1 [.inl j,.inl (ej ξ),e,a]))):=by
 have E:=fZ g;have lt':=fZ n;have ln:=fZ m;refine gH ?_;show fI o [Z (.inr b),Z (.inr k),Z (.inr υ),U]=_;unfold fI;have N:Y 1 (ö o [Z (.inr b),Z (.inr k),Z (.inr υ),U])=Z (.ok (.lst ((Θ++[(d,ξ)]).map æ))):=by unfold Y;rw[show(ö o [Z (.inr b),Z (.inr k),Z (.inr υ),U])[1]?=Z (vw o (.inr k))from rfl];unfold FD.vw;dsimp only;rw[g]
 have c1:(fB (R Þ (Y 1) (gK bQ))) (ö o [Z (.inr b),Z (.inr k),Z (.inr υ),U])=Z (.ok D):=bK ((bi N (θ:=.lst []) rfl).trans (xQ w (by simp)));rw[az (a:=[Z (.inr b),Z (.inr k),Z (.inr υ),U]) (Τ:=o) (Em (gG c1))];have v:Ng (cr 1) o [Z (.inr b),Z (.inr k),Z (.inr υ),U]=Z (.ok (.inl (æ (d,ξ))) (o.set k (.lst (Θ.map æ)))):=JZ (aM rfl) (by rw[g];simp);rw[az (cH (a:=[Z (.inr b),Z (.inr k),Z (.inr υ),Z (.inl (æ (d,ξ)))]) v rfl)];have u:(o.set k (.lst (Θ.map æ)))[k]?=Z (.lst (Θ.map æ)):=A_ E;have f:(o.set k (.lst (Θ.map æ)))[υ]?=Z (.lst (ω.map æ)):=by rw[p_ s];exact n
 have h:(o.set k (.lst (Θ.map æ)))[b]?=Z (.obj 1 [.inl j,.inl (ej i),e,a]):=by rw[p_ (UK A)];exact m
 obtain⟨fs,H⟩:=O3 h I u f;have p:(ö (o.set k (.lst (Θ.map æ))) [Z (.inr b),Z (.inr k),Z (.inr υ),Z (.inl (æ (d,ξ)))])[0]?=Z (Z (.obj 1 (j::ej i::fs))):=by show Z (vw _ (.inr b))=_;rw[H]
 have r:(dH (bJ (R Î (Y 3) (X 0)) (f1 (jG 1 1) (Y 0)))) (ö (o.set k (.lst (Θ.map æ))) [Z (.inr b),Z (.inr k),Z (.inr υ),Z (.inl (æ (d,ξ)))])=Z (.ok (æ (d,i))):=lj (ae (j:=.str d) rfl (ae (j:=ej i) (by unfold f1 Y;rw[p];rfl) au)) (by show 2<=100000;decide);have a1:IF (cr 2) (aT (aC (dH (bJ (R Î (Y 3) (X 0)) (f1 (jG 1 1) (Y 0))))) el) (o.set k (.lst (Θ.map æ))) [Z (.inr b),Z (.inr k),Z (.inr υ),Z (.inl (æ (d,ξ)))]=Z (.ok (.inl .non) ((o.set k (.lst (Θ.map æ))).set υ (.lst (ω.map æ++[æ (d,i)])))):=Bv (aM rfl) f (aH (ai r (u9 _)) rfl) f (by simpa using(by omega:ω.length<100000));rw[az (fF a1)];have y:((o.set k (.lst (Θ.map æ))).set υ (.lst (ω.map æ++[æ (d,i)])))[b]?=Z (.obj 1 [.inl j,.inl (ej i),e,a]):=by rw[p_ (UK z)];exact h
 have a3:=ie (b:=1) (k:=1) (d:=[.inl j,.inl (ej ξ),e,a]) (Κ:=aC (R Î (Y 3) (X 1))) (a:=cr 0) (Γ:=[Z (.inr b),Z (.inr k),Z (.inr υ),Z (.inl (æ (d,ξ)))]) (ai (j:=ej ξ) rfl (lZ ξ)) (aM rfl) y (by simp[tP]);rw[az a3];refine(dF (ai (j:=.str d) rfl rfl)).trans ?_;simp
theorem vb(h:DA o b j i (Θ++[(d,ξ)]) ω k υ)(f:∀q∈Θ++[(d,ξ)],Gg q)(p:ω.length<1000):∃a,bV o [.inr b]=Z (.ok (.inl (.str d)) a)/\DA a b j ξ Θ (ω++[(d,i)]) k υ/\Ch o a b k υ:=by
 have e:=By (e:=.inr k) (a:=.inr υ) (k:=k) (υ:=υ) h.o (.inl ⟨rfl,rfl⟩) h.d h.u h.na h.nb h.ab f p;have g:=fZ h.o;have n:=fZ h.d;have m:=fZ h.u;refine⟨((o.set k (.lst (Θ.map æ))).set υ (.lst ((ω++[(d,i)]).map æ))).set b (Ģ j ξ k υ),gH (u:=.inl (.str d)) ?_,⟨?_,?_,?_,h.na,h.nb,h.ab⟩,⟨by simp,λc v u s r=>?_⟩⟩;·show fJ o [Z (.inr b)]=_;unfold fJ;exact dF ((bL (a:=[.inr k,.inr υ]) (aM rfl) h.o (aH (nK (aM rfl) h.o rfl) (aH (nK (aM rfl) h.o rfl) rfl)) rfl).trans e)
 ·exact A_ (by simpa using g)
 ·rw[p_ h.na,p_ (UK h.ab)];exact A_ n
 ·rw[p_ h.nb];exact A_ (by simpa using m)
 ·rw[p_ (UK u),p_ (UK r),p_ (UK s)]
theorem Es(h:DA o b j i ω (Θ++[(d,ξ)]) k υ)(f:∀q∈Θ++[(d,ξ)],Gg q)(p:ω.length<1000):∃a,fW o [.inr b]=Z (.ok (.inl (.str d)) a)/\DA a b j ξ (ω++[(d,i)]) Θ k υ/\Ch o a b k υ:=by
 have e:=By (e:=.inr k) (a:=.inr υ) (k:=υ) (υ:=k) h.o (.inr ⟨rfl,rfl⟩) h.u h.d h.nb h.na (UK h.ab) f p;have g:=fZ h.o;have n:=fZ h.d;have m:=fZ h.u;refine⟨((o.set υ (.lst (Θ.map æ))).set k (.lst ((ω++[(d,i)]).map æ))).set b (Ģ j ξ k υ),gH (u:=.inl (.str d)) ?_,⟨?_,?_,?_,h.na,h.nb,h.ab⟩,⟨by simp,λc v u s r=>?_⟩⟩;·show eC o [Z (.inr b)]=_;unfold eC;exact dF ((bL (a:=[.inr υ,.inr k]) (aM rfl) h.o (aH (nK (aM rfl) h.o rfl) (aH (nK (aM rfl) h.o rfl) rfl)) rfl).trans e)
 ·exact A_ (by simpa using g)
 ·rw[p_ h.na];exact A_ (by simpa using n)
 ·rw[p_ h.nb,p_ h.ab];exact A_ m
 ·rw[p_ (UK u),p_ (UK s),p_ (UK r)]
theorem nM(S:List δ)(x y:δ)(r:List δ):(S++x::r).set S.length y=S++y::r:=by rw[List.set_append_right _ _ (on _),XF];rfl
theorem kX(S:List δ)(x:δ)(r:List δ):(S++x::r)[S.length]?=Z x:=by rw[L_ (on _),XF];rfl
theorem DA.app(h:DA o b j i ω Θ k υ)(r:Ý):DA (o++r) b j i ω Θ k υ:=⟨by rw[M_ (fZ h.o)];exact h.o,by rw[M_ (fZ h.d)];exact h.d,by rw[M_ (fZ h.u)];exact h.u,h.na,h.nb,h.ab⟩
theorem RW(h:cj [j]=bo L):aY [j]=Z (.ok .non):=by simp[aY,gJ,ez,br,db,Ø,cQ,fB,ă,ag,aR,bQ,Y,h]
theorem J9(g:cj [j]=bo L)(f:pl j=L):bE (o++[.obj 1 []]) [.inr o.length,.inl j]=Z (.ok (.inl .non) (o++[Ģ j [] (o.length+1) (o.length+2),.lst [],.lst []])):=by
 refine Bu (Γ:=[Z (.inr o.length),Z (.inl j)]) ?_;show cF (o++[.obj 1 []]) [Z (.inr o.length),Z (.inl j)]=_;unfold cF;have k:aG aY 1 (aq (Y 1)) (ö (o++[.obj 1 []]) [Z (.inr o.length),Z (.inl j)])=Z (.ok .non):=cE aY (ae (j:=j) rfl au) rfl (RW g);rw[az (fF (ai k rfl))];have e:=ie (b:=1) (k:=0) (d:=[.inl j]) (Κ:=aC (Y 1)) (a:=cr 0) (Γ:=[Z (.inr o.length),Z (.inl j)]) (ai (j:=j) rfl f) (aM rfl) (kX o (.obj 1 []) []) (by simp[tP,ď]);rw[nM]at e;rw[az e];have d:=ie (b:=1) (k:=1) (d:=[.inl j,.inl (ej [])]) (Κ:=aC (dH bQ)) (a:=cr 0) (Γ:=[Z (.inr o.length),Z (.inl j)]) (ai (j:=ej []) rfl (lZ [])) (aM rfl) (kX o (.obj 1 [.inl j]) []) (by simp[tP,ď]);rw[nM]at d;rw[az d];have m:(o++[ø.obj 1 [.inl j,.inl (ej [])]]).length=o.length+1:=by simp
 have i:(o++[ø.obj 1 [.inl j,.inl (ej [])]]++[ø.lst []])[o.length]?=Z (.obj 1 [.inl j,.inl (ej [])]):=by rw[Vn];exact kX o _ _
 have b:=ie (b:=1) (k:=2) (d:=[.inl j,.inl (ej []),.inr (o.length+1)]) (Κ:=DB el) (a:=cr 0) (Γ:=[Z (.inr o.length),Z (.inl j)]) (qU (o:=o++[ø.obj 1 [.inl j,.inl (ej [])]])) (aM rfl) i (by simp[tP,ď]);rw[Vn,List.singleton_append,nM]at b;rw[az b];have h:(o++ø.obj 1 [.inl j,.inl (ej []),.inr (o.length+1)]::[ø.lst []]++[ø.lst []])[o.length]?=Z (.obj 1 [.inl j,.inl (ej []),.inr (o.length+1)]):=by rw[Vn];exact kX o _ _
 have a:=ie (b:=1) (k:=3) (d:=[.inl j,.inl (ej []),.inr (o.length+1),.inr (o.length+2)]) (Κ:=DB el) (a:=cr 0) (Γ:=[Z (.inr o.length),Z (.inl j)]) (qU (o:=o++ø.obj 1 [.inl j,.inl (ej []),.inr (o.length+1)]::[ø.lst []])) (aM rfl) h (by simp[tP,ď]);rw[Vn,Z2,nM]at a;rw[a];rfl
theorem Bz{a:mW}(e:cj [j]=bo L)(b:pl j=L)(d:a o Γ=Z (.ok [.inl j] o)):xq 1 bE 1 a o Γ=Z (.ok (.inr o.length) (o++[Ģ j [] (o.length+1) (o.length+2),.lst [],.lst []])):=by unfold xq jH;rw[d];dsimp only;rw[show([YJ j]:List Uv).length=1 from rfl,if_pos rfl,J9 e b]
theorem O4(S:Ý):DA (S++[Ģ j [] (S.length+1) (S.length+2),.lst [],.lst []]) S.length j [] [] [] (S.length+1) (S.length+2):=by
 refine⟨kX S _ _,?_,?_,by omega,by omega,by omega⟩;·rw[L_ (by omega),show S.length+1-S.length=1 by omega];rfl
 ·rw[L_ (by omega),show S.length+2-S.length=2 by omega];rfl
theorem wE(h:ν (ö o Γ)=Z (.ok [.lst H]))(a:à H=L):sI ν o Γ=Z (.ok (.inr o.length) (o++[.lst H])):=by unfold sI;rw[h];exact if_pos a
theorem Uq(h:ε[0]?=Z (Z (Ğ j i ω Θ))):f1 (jG 1 2) (Y 0) ε=Z (.ok (.lst (ω.map æ))):=by unfold f1 Y;rw[h];rfl
theorem Ur(h:ε[0]?=Z (Z (Ğ j i ω Θ))):f1 (jG 1 3) (Y 0) ε=Z (.ok (.lst (Θ.map æ))):=by unfold f1 Y;rw[h];rfl
theorem BA(h:DA o b j i ω Θ k υ)(u:cj [j]=bo L)(d:pl j=L):gU o [.inr b]=Z (.ok (.inr o.length) (o++[Ģ j i (o.length+3) (o.length+4),.lst [],.lst [],.lst (ω.map æ),.lst (Θ.map æ)])):=by
 refine gH ?_;show fK o [Z (.inr b),U]=_;unfold fK;have p:=xV (Γ:=[Z (.inr b),U]) h rfl;have s:=Bz (o:=o) (Γ:=[Z (.inr b),U]) (a:=aT (aC (f1 (jG 1 0) (Y 0))) el) u d (aH (ai (j:=j) (Pn p) d) rfl);rw[az (cH (a:=[Z (.inr b),Z (.inr o.length)]) s rfl)];have y:=h.app [Ģ j [] (o.length+1) (o.length+2),.lst [],.lst []];have n:=xV (Γ:=[Z (.inr b),Z (.inr o.length)]) y rfl;have g:=ie (b:=1) (k:=1) (d:=[.inl j,.inl (ej i),.inr (o.length+1),.inr (o.length+2)]) (Κ:=aC (f1 (jG 1 1) (Y 0))) (a:=cr 1) (Γ:=[Z (.inr b),Z (.inr o.length)]) (ai (j:=ej i) (Eo n) (lZ i)) (aM rfl) (kX o (Ģ j [] (o.length+1) (o.length+2)) [.lst [],.lst []]) (by simp[tP]);rw[nM]at g;rw[az g];have w:=h.app (.obj 1 [.inl j,.inl (ej i),.inr (o.length+1),.inr (o.length+2)]::[.lst [],.lst []]);have v2:=xV (Γ:=[Z (.inr b),Z (.inr o.length)]) w rfl;have r:=wE (ν:=aq (f1 (jG 1 2) (Y 0))) (ae (Uq v2) au) (qV ω);have A:(o++ø.obj 1 [.inl j,.inl (ej i),.inr (o.length+1),.inr (o.length+2)]::[.lst [],.lst []]++[ø.lst (ω.map æ)])[o.length]?=Z (.obj 1 [.inl j,.inl (ej i),.inr (o.length+1),.inr (o.length+2)]):=by rw[Vn];exact kX o _ _
 have f:=ie (b:=1) (k:=2) (d:=[.inl j,.inl (ej i),.inr (o.length+3),.inr (o.length+2)]) (a:=cr 1) (Γ:=[Z (.inr b),Z (.inr o.length)]) r (aM rfl) A (by simp[tP]);rw[Vn,Z2,nM]at f;have a:tQ 1 2 (cr 1) (sI (aq (f1 (jG 1 2) (Y 0)))) (o++.obj 1 [.inl j,.inl (ej i),.inr (o.length+1),.inr (o.length+2)]::[.lst [],.lst []]) [Z (.inr b),Z (.inr o.length)]=Z (.nx [Z (.inr b),Z (.inr o.length)] (o++.obj 1 [.inl j,.inl (ej i),.inr (o.length+3),.inr (o.length+2)]::[.lst [],.lst [],.lst (ω.map æ)])):=f;rw[az a];have v:=h.app (.obj 1 [.inl j,.inl (ej i),.inr (o.length+3),.inr (o.length+2)]::[.lst [],.lst [],.lst (ω.map æ)]);have m:=xV (Γ:=[Z (.inr b),Z (.inr o.length)]) v rfl;have q:=wE (ν:=aq (f1 (jG 1 3) (Y 0))) (ae (Ur m) au) (qV Θ);have z:(o++ø.obj 1 [.inl j,.inl (ej i),.inr (o.length+3),.inr (o.length+2)]::[.lst [],.lst [],.lst (ω.map æ)]++[ø.lst (Θ.map æ)])[o.length]?=Z (.obj 1 [.inl j,.inl (ej i),.inr (o.length+3),.inr (o.length+2)]):=by rw[Vn];exact kX o _ _
 have e:=ie (b:=1) (k:=3) (d:=[.inl j,.inl (ej i),.inr (o.length+3),.inr (o.length+4)]) (a:=cr 1) (Γ:=[Z (.inr b),Z (.inr o.length)]) q (aM rfl) z (by simp[tP]);rw[Vn,Z2,nM]at e;rw[az e];exact dF (aM rfl)
theorem BB:DA (o++[Ģ j i (o.length+3) (o.length+4),.lst [],.lst [],.lst (ω.map æ),.lst (Θ.map æ)]) o.length j i ω Θ (o.length+3) (o.length+4):=by
 refine⟨kX o _ _,?_,?_,by omega,by omega,by omega⟩;·rw[L_ (by omega),show o.length+3-o.length=3 by omega];rfl
 ·rw[L_ (by omega),show o.length+4-o.length=4 by omega];rfl
theorem kY{g:Q->Q->Option (Rs Q)}(h:Κ o Γ=Z (.ok (.inl j) Τ))(b:z (ö Τ Γ)=Z (.ok θ))(a:g j θ=Z (.ok (.bl E))):gL g Κ z o Γ=Z (.ok (.inl (.bl E)) Τ):=by unfold gL jH;rw[h];dsimp only;rw[show vw Τ (.inl j)=Z j from rfl,b];dsimp only;rw[a]
theorem BC{g:Q->Q->Option (Rs Q)}(h:Κ o Γ=Z (.exc b Τ)):gL g Κ z o Γ=Z (.exc b Τ):=by unfold gL jH;rw[h]
def W8:Q:=.tup (Ű.map Q.str)
def E9(f:List Int)(z:Int)(n:Nat)(a d:Int)(l:Int)(e b:Option Uv):ñ:=[Z (.inl (.scr f)),Z (.inl (.int z)),Z (.inr n),Z (.inl (.int a)),Z (.inl (.int d)),Z (.inl (.int l)),Z (.inl W8),e,b]
structure DI(now:Int)(js:List aj)(ds us:List Sp)(m:Nat):Prop where
 j:JS now js
 l:js.length<=20o:∀s∈ds,Gg s/\JS now s.2/\s.2.length<=20v:∀s∈us,Gg s/\JS now s.2/\s.2.length<=20m:ds.length+us.length<=m
theorem DI.later{d now':Int}{g:List aj}{i e:List Sp}{m f:Nat}(a:DI d g i e m)(h:d<=now')(j:m<=f):DI now' g i e f:=⟨a.j.later h,a.l,λs b=>⟨(a.o s b).1,(a.o s b).2.1.later h,(a.o s b).2.2⟩,λs b=>⟨(a.v s b).1,(a.v s b).2.1.later h,(a.v s b).2.2⟩,by have:=a.m;omega⟩
theorem DI.did(a:DI n i ω Θ b)(e:d∈w4)(J:JS n ξ)(l:ξ.length<=20):DI n ξ (ω++[(d,i)]) [] (b+1):=⟨J,l,λs f=>by
 rcases R_.mp f with q|q;·exact a.o s q
 ·rw[Uy.mp q];exact⟨⟨e,a.j.g⟩,a.j,a.l⟩,by simp,by have:=a.m;simp;omega⟩
def Res(k:List Int)(z g:Int)(T:Q)(m:List aj)(o j:List Sp)(h:List aj)(i f:List Sp):Prop:=∀(S:Ý)(n a b:Nat),DA S n T m o j a b->∃e d r,c5 S [.inl (.scr k),.inl (.int z),.inr n,.inl (.int g)]=Z (.ok (.inl (.bl r)) e)/\DA e n T h i f a d/\Ch S e n a b/\(d=b\/S.length<=d)
theorem kZ{r:Option (Rs Q)}(h:ε[b]?=Z (Z (Ğ j i ω Θ)))(a:Ψ [Ğ j i ω Θ]=r):cz 1 Ψ 0 (Y b) bQ ε=r:=by unfold cz Y;rw[h];show(if Ź 1 (Ğ j i ω Θ)=L then _ else U)=_;rw[if_pos (by rfl)];exact a
theorem v2{f:List Int}{d:Int}{e a:Option Uv}{l:Int}(h:DA o b j i ω Θ k υ):(ö o (E9 f n b Á d l e a))[2]?=Z (Z (Ğ j i ω Θ)):=by show Z (vw o (.inr b))=_;rw[h.vw]
theorem RX{f:List Int}{d:Int}{e a:Option Uv}{l:Int}(h:DA o b j i ω Θ k υ):â fU (aq (cz 1 ak 0 (Y 2) bQ)) (ö o (E9 f n b Á d l e a))=Z (.ok (.int (i.length:Nat))):=(dj (ae (kZ (v2 h) gZ) au)).trans (Bw i)
theorem wF{a:List Int}{d:Int}(h:DA o b j i ω Θ k υ)(g:ac [.scr a,.int n,.int 6]=Z (.ok (.int d))){u:Uv}{e:Ý}(f:Fy 5 9 bg (fC (.bl L)) o (E9 a n b Á d (i.length:Nat) U U)=Z (.rt u e)):c5 o [.inl (.scr a),.inl (.int n),.inr b,.inl (.int Á)]=Z (.ok u e):=by
 refine gH ?_;show fR o [Z (.inl (.scr a)),Z (.inl (.int n)),Z (.inr b),Z (.inl (.int Á)),U,U,U,U,U]=_;unfold fR;refine VB (az (cH (a:=[Z (.inl (.scr a)),Z (.inl (.int n)),Z (.inr b),Z (.inl (.int Á)),Z (.inl (.int d)),U,U,U,U]) (ai (j:=.int d) (om ac (a:=.scr a) (b:=.int n) (c:=.int 6) rfl rfl rfl g) rfl) rfl)) ?_;have v:(ö o [Z (.inl (.scr a)),Z (.inl (.int n)),Z (.inr b),Z (.inl (.int Á)),Z (.inl (.int d)),U,U,U,U])[2]?=Z (Z (Ğ j i ω Θ)):=by show Z (vw o (.inr b))=_;rw[h.vw]
 refine VB (az (cH (a:=[Z (.inl (.scr a)),Z (.inl (.int n)),Z (.inr b),Z (.inl (.int Á)),Z (.inl (.int d)),Z (.inl (.int (i.length:Nat))),U,U,U]) (ai (j:=.int (i.length:Nat)) ((dj (ae (kZ v gZ) au)).trans (Bw i)) rfl) rfl)) ?_;refine VB (az (cH (a:=E9 a n b Á d (i.length:Nat) U U) (ai (j:=W8) rfl rfl) rfl)) ?_;exact f
theorem Fz{u:Uv}(h:Â o Γ=Z (.rt u Τ)):Fy 5 9 Â (fC (.bl L)) o Γ=Z (.rt u Τ):=by unfold Fy;rw[h]
theorem NX(h:Â o Γ=Z (.exc 5 o)):Fy 5 9 Â (fC (.bl L)) o Γ=Z (.rt (.inl (.bl L)) o):=by unfold Fy;rw[h];rfl
theorem lt3{f:List Int}{d:Int}{e a:Option Uv}{l:Int}:ei (fB (R G' (Y 4) (X 3))) o (E9 f n b Á d l e a)=Z (.ok (s_ (d<3)) o):=gG (bK ((bi (j:=.int d) (θ:=.int 3) rfl rfl).trans rfl))
theorem eqk{f:List Int}{d:Int}{e a:Option Uv}{l k:Int}:ei (fB (R Þ (Y 4) (fC (.int k)))) o (E9 f n b Á d l e a)=Z (.ok (d==k) o):=gG (bK ((bi (j:=.int d) (θ:=.int k) rfl rfl).trans rfl))
theorem ifN{p:sE}(h:p o Γ=Z (.ok D o)):ĩ p Â sJ o Γ=Z (.nx Γ o):=(Em h).trans rfl
theorem ĸ(x y:Int):Þ (.int x) (.int y)=Z (.ok (.bl (x==y))):=rfl
theorem RY(h:d∈Ű):ĵ (.str d) W8=bo L:=by unfold Ű at h;simp only[uk,O_,or_false]at h;rcases h with rfl|rfl|rfl|rfl|rfl|rfl|rfl|rfl<;>lk
theorem Ka(a:Ak d p j):pl (û E d p j)=L:=by rcases a.o with rfl|⟨o,_,rfl⟩<;>rfl
theorem qW{o:List Int}{g:Int}(p:∀S f a b,DA S f j i ω Θ a b->∃v r m,bg S (E9 o n f Á g (i.length:Nat) U U)=Z (.rt (.inl (.bl r)) m)/\DA m f j ξ (ω++[(d,i)]) [] a S.length/\Ch S m f a b/\v=r)(q:ac [.scr o,.int n,.int 6]=Z (.ok (.int g))):Res o n Á j i ω Θ ξ (ω++[(d,i)]) []:=λS f a b h=>by obtain⟨_,r,m,e,k,C,_⟩:=p S f a b h;exact⟨m,S.length,r,wF h q (Fz e),k,C,.inr (on _)⟩
theorem Gh{f:List Int}{d:Int}(g:∀S e a b,DA S e j i ω Θ a b->bg S (E9 f n e Á d (i.length:Nat) U U)=Z (.exc 5 S))(k:ac [.scr f,.int n,.int 6]=Z (.ok (.int d))):Res f n Á j i ω Θ i ω Θ:=λS e a b h=>⟨S,b,L,wF h k (NX (g S e a b h)),h,.refl,.inl rfl⟩
noncomputable def bd(a:Int):Int:=if a<13 then 13 else a
theorem Et(a:Int):a<=bd a:=by unfold bd;split<;>omega
theorem RZ(a:Int):13<=bd a:=by unfold bd;split<;>omega
noncomputable def base(a:List aj):List Sp->List aj|[]=>a|s::_=>s.2
theorem iU(b d:List aj)(w:Str)(a:List Sp):base d (a++[(w,b)])=base b a:=by cases a<;>rfl
theorem Us(a:H∈k9 é):pl (.tup H)=L:=by
 have:(k9 é).all (λH=>pl (.tup H))=L:=by lk
 exact aZ (p:=λH=>pl (.tup H)) this a
theorem qX{r:List Int}(hl:r.length<=63)(z:Int)(ht:H∈k9 é)(J:DI n i ω Θ b)(n0:0<=n)(n1:n<=200)(hm:b<900):∃c' d' e',DI (bd n) c' d' e' (b+1)/\base c' d'=base i ω/\Res r z n (.tup H) i ω Θ c' d' e':=by
 obtain⟨d,d0,d1,e0⟩:=aX r hl z 6 (by omega);have g':=J.m;have dl:ω.length<1000:=by omega
 have JB:=J.later (Et n) (on b);have stay:DI (bd n) i ω Θ (b+1):=JB.later (aaQ _) (by omega);by_cases h3:d<3
 ·obtain⟨s,h,p,O,hh,hp,hO,eA⟩:=DU r hl (z+1);have a:Ak h p O:=⟨me hh,hp,hO⟩;obtain⟨E,w,m,P,u,l,I,k,g,eG⟩:=D6 r hl (z+8) hh;obtain⟨o,eX,eR⟩:=JQ g;have f1:∀(S:Ý)(f:Nat),bg S (E9 r z f n d (i.length:Nat) U U)=sqV (jO (gL ĵ (cO 1 dL 3 (cr 2) (aT (aC (Y 7)) (aT (aC (ag cZ 1 (aq (Y 8)))) (aT (aC (Y 3)) el)))) (Y 6)) S (E9 r z f n d (i.length:Nat) (Z (.inl (û s h p O))) (Z (.inl (Ā E w m P u l I k))))) (eV (ĩ (ei (fB (R Þ (Y 4) (X 3)))) (jO (gL Þ (cO 1 eU 1 (cr 2) (aT (aC (Y 3)) el)) (R uj (Y 5) (â fU (aq (cz 1 ak 0 (Y 2) bQ)))))) sJ) (eV (ĩ (ei (fB (R Þ (Y 4) (X 4)))) (jO (gL Þ (cO 1 dq 1 (cr 2) (aT (aC (ag aQ 2 (bJ (Y 0) (R cD (Y 1) (X 2))))) el)) (R uj (Y 5) (â fU (aq (cz 1 ak 0 (Y 2) bQ)))))) sJ) (jO (gL Þ (cO 1 eP 1 (cr 2) (aT (aC (ag gk 3 (bS (Y 0) (R cD (Y 1) (X 25)) (X 3)))) el)) (â fU (aq (cz 1 ak 0 (Y 2) bQ))))))):=λS f=>by
   unfold bg;show sqV (ĩ _ _ _ _ _) _=_;congr 1;refine VB (JX (Τ:=S) (by rw[lt3,decide_eq_true h3])) ?_;refine VB (az (cH (a:=E9 r z f n d (i.length:Nat) (Z (.inl (û s h p O))) U) (ai (j:=û s h p O) (hX iA (a:=.scr r) (b:=.int (z+1)) rfl rfl eA) (Ka a)) rfl)) ?_;have pg:pl (Ā E w m P u l I k)=L:=by obtain⟨h',p',u',l',gw,e⟩:=Os g;rw[e];show à _=L;cases h'<;>cases p'<;>cases u'<;>cases l'<;>rfl
   exact az (cH (a:=E9 r z f n d (i.length:Nat) (Z (.inl (û s h p O))) (Z (.inl (Ā E w m P u l I k)))) (ai (j:=Ā E w m P u l I k) (om dZ (a:=.scr r) (b:=.int (z+8)) (c:=.str h) rfl rfl rfl eG) pg) rfl)
  have ar:∀(S:Ý)(f:Nat),aT (aC (Y 7)) (aT (aC (ag cZ 1 (aq (Y 8)))) (aT (aC (Y 3)) el)) S (E9 r z f n d (i.length:Nat) (Z (.inl (û s h p O))) (Z (.inl (Ā E w m P u l I k))))=Z (.ok [.inl (û s h p O),.inl (.str o),.inl (.int n)] S):=λS f=>aH (ai (j:=û s h p O) rfl (Ka a)) (aH (ai (j:=.str o) (fV cZ (a:=Ā E w m P u l I k) rfl eX) rfl) (aH (ai (j:=.int n) rfl rfl) rfl));rcases Ee (Ã:=s) ht a g eR J.j J.l n0 n1 with⟨x,ys,hx,ev,et,Jy,ly⟩|et;·refine⟨ys,ω++[(b_ "give",i)],[],JB.did (by simp[w4]) (Jy.later (Et n)) ly,iU _ _ _ _,qW (g:=d) (λS f a' b' j=>?_) e0⟩;obtain⟨N,v,A,C⟩:=J8 j dl (A:=û s h p O) (X:=.str o) (Ka a) rfl et ev;refine⟨L,L,N,?_,A,C,rfl⟩;rw[f1];have q:=dF (kY (θ:=W8) (z:=Y 6) (g:=ĵ) (Γ:=E9 r z f n d (i.length:Nat) (Z (.inl (û s h p O))) (Z (.inl (Ā E w m P u l I k)))) ((bL (b:=1) (Κ:=cr 2) (a:=[.inl (û s h p O),.inl (.str o),.inl (.int n)]) (aM rfl) j.o (ar S f) rfl).trans v) rfl (RY hx));refine VB (congrArg (λz=>sqV z _) q) rfl
  ·refine⟨i,ω,Θ,stay,rfl,Gh (d:=d) (λS f a' b' j=>?_) e0⟩;have v:=O0 j (A:=û s h p O) (X:=.str o) et;rw[f1];have q:=Gb (BC (z:=Y 6) (g:=ĵ) (Γ:=E9 r z f n d (i.length:Nat) (Z (.inl (û s h p O))) (Z (.inl (Ā E w m P u l I k)))) ((bL (b:=1) (Κ:=cr 2) (a:=[.inl (û s h p O),.inl (.str o),.inl (.int n)]) (aM rfl) j.o (ar S f) rfl).trans v));refine VB (congrArg (λz=>sqV z _) q) rfl
 · have g3:∀(S:Ý)(f:Nat),ĩ (ei (fB (R G' (Y 4) (X 3)))) (eV (lP 7 (aC (ag iA 2 (bJ (Y 0) (R cD (Y 1) (X 1)))))) (eV (lP 8 (aC (ag dZ 3 (bS (Y 0) (R cD (Y 1) (X 8)) (R Î (Y 7) (X 1)))))) (jO (gL ĵ (cO 1 dL 3 (cr 2) (aT (aC (Y 7)) (aT (aC (ag cZ 1 (aq (Y 8)))) (aT (aC (Y 3)) el)))) (Y 6))))) sJ S (E9 r z f n d (i.length:Nat) U U)=Z (.nx (E9 r z f n d (i.length:Nat) U U) S):=λS f=>ifN (by rw[lt3,decide_eq_false h3]);by_cases k3:d=3;·have es:=JR J.j J.l (k:=n) n0 (by omega);refine⟨đ i n,ω++[(b_ "sweep",i)],[],JB.did (by simp[w4]) ((J.j.filt _).later (Et n)) (UD (V4 _ _) J.l),iU _ _ _ _,qW (g:=d) (λS f a' b' j=>?_) e0⟩;obtain⟨N,v,A,C⟩:=Ep j dl es;refine⟨((i.length:Int)-((đ i n).length:Int)==((i.length:Nat):Int)-((đ i n).length:Int)),_,N,?_,A,C,rfl⟩;unfold bg;refine VB (az (g3 S f)) ?_;refine Bs ?_;refine VB (JX (Τ:=S) (by rw[eqk,k3];rfl)) ?_;exact dF (kY (θ:=.int ((i.length:Int)-((đ i n).length:Int))) ((bL (b:=1) (Κ:=cr 2) (a:=[.inl (.int n)]) (aM rfl) j.o (aH (ai (j:=.int n) rfl rfl) rfl) rfl).trans v) ((bi (j:=.int (i.length:Nat)) (θ:=.int ((đ i n).length:Nat)) rfl (RX A)).trans rfl) (ĸ _ _))
   · have g4:∀(S:Ý)(f:Nat),ĩ (ei (fB (R Þ (Y 4) (X 3)))) (jO (gL Þ (cO 1 eU 1 (cr 2) (aT (aC (Y 3)) el)) (R uj (Y 5) (â fU (aq (cz 1 ak 0 (Y 2) bQ)))))) sJ S (E9 r z f n d (i.length:Nat) U U)=Z (.nx (E9 r z f n d (i.length:Nat) U U) S):=λS f=>ifN (by rw[eqk,show(d==3)=D by simpa using k3]);by_cases k4:d=4;·obtain⟨q,hq,eN⟩:=nA r hl (z+2);have es:=El J.j J.l (h:=q) (me hq);refine⟨JW i q,ω++[(b_ "forget",i)],[],JB.did (by simp[w4]) ((J.j.filt _).later (Et n)) (UD (V4 _ _) J.l),iU _ _ _ _,qW (g:=d) (λS f a' b' j=>?_) e0⟩;obtain⟨N,v,A,C⟩:=Bx j dl es;refine⟨((i.length:Int)-((JW i q).length:Int)==((i.length:Nat):Int)-((JW i q).length:Int)),_,N,?_,A,C,rfl⟩;unfold bg;refine VB (az (g3 S f)) ?_;refine VB (az (g4 S f)) ?_;refine Bs ?_;refine VB (JX (Τ:=S) (by rw[eqk,k4];rfl)) ?_;exact dF (kY (θ:=.int ((i.length:Int)-((JW i q).length:Int))) ((bL (b:=1) (Κ:=cr 2) (a:=[.inl (.str q)]) (aM rfl) j.o (aH (ai (j:=.str q) (hX aQ (a:=.scr r) (b:=.int (z+2)) rfl rfl eN) rfl) rfl) rfl).trans v) ((bi (j:=.int (i.length:Nat)) (θ:=.int ((JW i q).length:Nat)) rfl (RX A)).trans rfl) (ĸ _ _))
     · have g5:∀(S:Ý)(f:Nat),ĩ (ei (fB (R Þ (Y 4) (X 4)))) (jO (gL Þ (cO 1 dq 1 (cr 2) (aT (aC (ag aQ 2 (bJ (Y 0) (R cD (Y 1) (X 2))))) el)) (R uj (Y 5) (â fU (aq (cz 1 ak 0 (Y 2) bQ)))))) sJ S (E9 r z f n d (i.length:Nat) U U)=Z (.nx (E9 r z f n d (i.length:Nat) U U) S):=λS f=>ifN (by rw[eqk,show(d==4)=D by simpa using k4]);obtain⟨os,nw,eJ,Jo,lo,y⟩:=OG r hl (z+25) 3 (by omega);have f':JS (bd n) os:=⟨y.g,y.s,y.k,λx hx=>by have h1:=y.u x hx;have h2:=y.n1;have:=RZ n;omega⟩;have ar:∀(S:Ý)(f:Nat),aT (aC (ag gk 3 (bS (Y 0) (R cD (Y 1) (X 25)) (X 3)))) el S (E9 r z f n d (i.length:Nat) U U)=Z (.ok [.inl (ej os)] S):=λS f=>aH (ai (j:=ej os) (om gk (a:=.scr r) (b:=.int (z+25)) (c:=.int 3) rfl rfl rfl eJ) (lZ os)) rfl;rcases Br (JB.j) J.l f' (by omega)with⟨ys,em,Jy,ly⟩|em;·refine⟨ys,ω++[(b_ "merge",i)],[],JB.did (by simp[w4]) Jy ly,iU _ _ _ _,qW (g:=d) (λS f a' b' j=>?_) e0⟩;obtain⟨N,v,A,C⟩:=Er j dl em;refine⟨(((ys.length:Nat):Int)==((ys.length:Nat):Int)),_,N,?_,A,C,rfl⟩;unfold bg;refine VB (az (g3 S f)) ?_;refine VB (az (g4 S f)) ?_;refine VB (az (g5 S f)) ?_;exact dF (kY (θ:=.int (ys.length:Nat)) ((bL (b:=1) (Κ:=cr 2) (a:=[.inl (ej os)]) (aM rfl) j.o (ar S f) rfl).trans v) (RX A) (ĸ _ _))
       ·refine⟨i,ω,Θ,stay,rfl,Gh (d:=d) (λS f a' b' j=>?_) e0⟩;have v:=J0 j em;unfold bg;refine VB (az (g3 S f)) ?_;refine VB (az (g4 S f)) ?_;refine VB (az (g5 S f)) ?_;exact Gb (BC ((bL (b:=1) (Κ:=cr 2) (a:=[.inl (ej os)]) (aM rfl) j.o (ar S f) rfl).trans v))
def œ(n a b d f e:Nat):Prop:=n≠d/\n≠f/\n≠e/\a≠d/\a≠f/\a≠e/\b≠d/\b≠f/\b≠e
theorem DA.stay{a e d:Nat}(h:DA o a j i ω Θ e d)(s:œ b k υ a e d)(c:Ch o Τ b k υ):DA Τ a j i ω Θ e d:=by obtain⟨v,u,r,q,p,n,m,g,f⟩:=s;exact⟨by rw[c.h a (fZ h.o) (UK v) (UK q) (UK m)];exact h.o,by rw[c.h e (fZ h.d) (UK u) (UK p) (UK g)];exact h.d,by rw[c.h d (fZ h.u) (UK r) (UK n) (UK f)];exact h.u,h.na,h.nb,h.ab⟩
theorem œ.new{d a f e:Nat}(s:œ b k υ a f e)(h:DA o a j i ω Θ f e)(q:d=υ\/o.length<=d):œ b k d a f e:=by
 obtain⟨u,r,p,n,m,g,y,w,v⟩:=s;have E:=fZ h.o;have A:=fZ h.d;have z:=fZ h.u;rcases q with rfl|q;·exact⟨u,r,p,n,m,g,y,w,v⟩
 ·exact⟨u,r,p,n,m,g,by omega,by omega,by omega⟩
theorem œ.symm{a e d:Nat}(s:œ b k υ a e d):œ a e d b k υ:=by obtain⟨p,o,n,m,j,i,h,g,f⟩:=s;exact⟨UK p,UK m,UK h,UK o,UK j,UK g,UK n,UK i,UK f⟩
noncomputable def D4(b:List Int)(n:Nat)(a:Int)(x:Option Uv):ñ:=[Z (.inl (.scr b)),Z (.inr n),Z (.inl (.int a)),x]
def gc(b:List aj)(d a:List Sp):Q:=.tup [ej b,.tup [.int (d.length:Nat),.int (a.length:Nat)]]
theorem wG(b:List aj)(d a:List Sp):pl (gc b d a)=L:=by show à _=L;simp[à,ğ,Ge]
theorem mw(h:ε[b]?=Z (Z (Ğ j i ω Θ))):dH (bJ (cz 1 ak 0 (Y b) bQ) (cz 1 aI 0 (Y b) bQ)) ε=Z (.ok (gc i ω Θ)):=lj (ae (kZ h gZ) (ae (kZ h hU) au)) (by show 2<=100000;decide)
def Ut(F:Ý->Nat->Option (Ru Uv))(v:Q)(T:Q)(j:List aj)(k i:List Sp)(g:List aj)(h f:List Sp):Prop:=∀(S:Ý)(n a b:Nat),DA S n T j k i a b->∃e d,F S n=Z (.ok (.inl v) e)/\DA e n T g h f a d/\Ch S e n a b/\(d=b\/S.length<=d)
theorem nN{a:List Int}(g:k<10)(e:c5 o [.inl (.scr a),.inl (.int (900+90*(k:Int))),.inr b,.inl (.int (n+k))]=Z (.ok (.inl (.bl E)) Τ)):c9 o (D4 a b n (Z (.inl (.int (k:Int)))))=Z (.nx (D4 a b n (Z (.inl (.int (k:Int))))) Τ):=by unfold c9;refine fF (u:=.inl (.bl E)) ?_;have d:jM (.int 90) (.int (k:Int))=Z (.ok (.int (90*(k:Int)))):=ny (.inl (by omega));have f:aT (aC (Y 0)) (aT (aC (R cD (X 900) (R jM (X 90) (Y 3)))) (aT (cr 1) (aT (aC (R cD (Y 2) (Y 3))) el))) o (D4 a b n (Z (.inl (.int (k:Int)))))=Z (.ok [.inl (.scr a),.inl (.int (900+90*(k:Int))),.inr b,.inl (.int (n+k))] o):=aH (ai (j:=.scr a) rfl rfl) (aH (ai (j:=.int (900+90*(k:Int))) ((bi (j:=.int 900) (θ:=.int (90*(k:Int))) rfl ((bi (j:=.int 90) (θ:=.int (k:Int)) rfl rfl).trans d)).trans rfl) rfl) (aH (aM rfl) (aH (ai (j:=.int (n+k)) rfl rfl) rfl)));unfold nV jH;rw[f];exact e
theorem Kb{f:List Int}(p:f.length<=63)(o:H∈k9 é)(J:DI n i ω Θ b)(n0:13<=n)(n1:n<=190)(hm:b<800):∃g j k,DI (n+2) g j k (b+3)/\base g j=base i ω/\Ut (λS d=>gY S [.inl (.scr f),.inr d,.inl (.int n)]) (gc g j k) (.tup H) i ω Θ g j k:=by
 have b0:bd n=n:=by unfold bd;rw[if_neg (by omega)]
 have b1:bd (n+1)=n+1:=by unfold bd;rw[if_neg (by omega)]
 have b2:bd (n+2)=n+2:=by unfold bd;rw[if_neg (by omega)]
 obtain⟨j1,d1,u1,z,B1,R1⟩:=qX (z:=900) p o J (by omega) (by omega) (by omega);rw[b0]at z;obtain⟨j2,d2,u2,y,B2,R2⟩:=qX (z:=990) p o (z.later (now':=n+1) (by omega) (on _)) (by omega) (by omega) (by omega);rw[b1]at y;obtain⟨j3,d3,I,w,B3,R3⟩:=qX (z:=1080) p o (y.later (now':=n+2) (by omega) (on _)) (by omega) (by omega) (by omega);rw[b2]at w;refine⟨j3,d3,I,w.later (aaQ _) (by omega),by rw[B3,B2,B1],λS d a e h=>?_⟩;obtain⟨v,c1,r1,e1,h1,E,m⟩:=R1 S d a e h;obtain⟨S2,c2,r2,e2,h2,A,s⟩:=R2 v d a c1 h1;obtain⟨r,c3,r3,e3,u,C3,q3⟩:=R3 S2 d a c2 h2;have l1:=E.l;have l2:=A.l;refine⟨r,c3,?_,u,(E.trans A m).trans C3 ?_,?_⟩
 · refine gH ?_;show fT S (D4 f d n U)=_;unfold fT;have lp:xo 3 [3] (aq (X 3)) c9 S (D4 f d n U)=Z (.nx (D4 f d n U) r):=by unfold xo;rw[show(aq (X 3)) (ö S (D4 f d n U))=Z (.ok [.int 3])from rfl];show(if-(2^62)<=(3:Int)/\(3:Int)<2^62 then iH 3 [3] c9 3 0 S (D4 f d n U)else U)=_;rw[if_pos (by decide)];have s0:=nN (o:=S) (b:=d) (k:=0) (n:=n) (E:=r1) (by omega) (by simpa using e1);have s1:=nN (o:=v) (b:=d) (k:=1) (n:=n) (E:=r2) (by omega) (by simpa using e2);have N:=nN (o:=S2) (b:=d) (k:=2) (n:=n) (E:=r3) (by omega) (by simpa using e3);unfold iH;rw[show(wa [3] (D4 f d n U)).set 3 (Z (.inl (.int ((0:Nat):Int))))=D4 f d n (Z (.inl (.int ((0:Nat):Int))))from rfl,s0];dsimp only;unfold iH;rw[show(wa [3] (D4 f d n (Z (.inl (.int ((0:Nat):Int)))))).set 3 (Z (.inl (.int ((0+1:Nat):Int))))=D4 f d n (Z (.inl (.int ((1:Nat):Int))))from rfl,s1];dsimp only;unfold iH;rw[show(wa [3] (D4 f d n (Z (.inl (.int ((1:Nat):Int)))))).set 3 (Z (.inl (.int ((0+1+1:Nat):Int))))=D4 f d n (Z (.inl (.int ((2:Nat):Int))))from rfl,N];rfl
   rw[az lp];refine dF (ai (mw (b:=1) (j:=.tup H) ?_) (wG _ _ _));show Z (vw r (.inr d))=_;rw[u.vw]
 · rcases s with rfl|q;·exact m
   ·exact .inr (by omega)
 · rcases q3 with rfl|q
   · rcases s with rfl|q;·exact m
     ·exact .inr (by omega)
   ·exact .inr (by omega)
theorem DI.back(a:DI n i (Θ++[(d,ξ)]) ω b):DI n ξ Θ (ω++[(d,i)]) b:=by
 have q:=a.o (d,ξ) (by simp);have f:=a.m;refine⟨q.2.1,q.2.2,λs e=>a.o s (K_ _ e),λs e=>?_,by simp at f⊢;omega⟩;rcases R_.mp e with z|z;·exact a.v s z
 ·rw[Uy.mp z];exact⟨⟨q.1.w,a.j.g⟩,a.j,a.l⟩
theorem DI.forth(a:DI n i ω (Θ++[(d,ξ)]) b):DI n ξ (ω++[(d,i)]) Θ b:=by
 have q:=a.v (d,ξ) (by simp);have f:=a.m;refine⟨q.2.1,q.2.2,λs e=>?_,λs e=>a.v s (K_ _ e),by simp at f⊢;omega⟩;rcases R_.mp e with z|z;·exact a.o s z
 ·rw[Uy.mp z];exact⟨⟨q.1.w,a.j.g⟩,a.j,a.l⟩
theorem ve{l:List δ}(h:b+1<=l.length):∃a x,l=a++[x]/\b<=a.length:=by
 rcases List.eq_nil_or_concat l with rfl|⟨a,x,rfl⟩;·simp at h
 ·exact⟨a,x,by simp,by simp at h;omega⟩
structure Ev4(E:Option Uv->ñ)(f:List Nat):Prop where
 s:∀x y,(E x).set 4 y=E y
 f:∀x,∃y,wa f (E x)=E y
theorem qY{f:List Nat}{d:ñ}(h:Â o ((wa f Γ).set b (Z (.inl (.int (k:Int)))))=Z (.nx d Τ)):iH b f Â (υ+1) k o Γ=iH b f Â υ (k+1) Τ d:=by show(match Â o ((wa f Γ).set b (Z (.inl (.int (k:Int)))))with|some (.nx d Τ)=>iH b f Â υ (k+1) Τ d|a=>a)=_;rw[h]
theorem nO{E:Option Uv->ñ}{f:List Nat}{i n a b m:Nat}{T:Q}{v:Int}(z:Ev4 E f)(hi:∀x,(E x)[i]?=Z (Z (.inr n)))(hm:m<900):∀(r k:Nat)(S:Ý)(x:Option Uv)(p:List aj)(o s:List Sp),r<=o.length->DA S n T p o s a b->DI v p o s m->∃u A g e j,iH 4 f (jI (cO 1 bV 0 (cr i) el)) r k S (E x)=Z (.nx (E A) u)/\DA u n T g e j a b/\DI v g e j m/\Ch S u n a b/\base g e=base p o/\e.length+r=o.length|0,k,S,x,p,o,s,_,h,d=>by obtain⟨y,H⟩:=z.f x;exact⟨S,y,p,o,s,by show Z (ő.nx (wa f (E x)) S)=_;rw[H],h,d,.refl,rfl,rfl⟩|r+1,k,S,x,p,o,s,hr,h,d=>by obtain⟨N,⟨w,j0⟩,rfl,I⟩:=ve hr;have a':=d.m;obtain⟨S1,e1,h1,C1⟩:=vb h (λq hq=>(d.o q hq).1) (by omega);obtain⟨y,H⟩:=z.f x;obtain⟨u,A,g,e,j,e2,h2,D2,C2,B2,L2⟩:=nO z hi hm r (k+1) S1 (Z (.inl (.int (k:Int)))) j0 N (s++[(w,p)]) I h1 d.back;refine⟨u,A,g,e,j,?_,h2,D2,C1.trans C2 (.inl rfl),by rw[B2,iU],by simp;omega⟩;refine VB (qY (d:=E (Z (.inl (.int (k:Int))))) (Τ:=S1) ?_) e2;rw[H,z.s];exact fF ((bL (a:=[]) (aM (hi _)) h.o rfl rfl).trans e1)
theorem pq{E:Option Uv->ñ}{f:List Nat}{i n a b m:Nat}{T:Q}{v:Int}(z:Ev4 E f)(hi:∀x,(E x)[i]?=Z (Z (.inr n)))(hm:m<900):∀(r k:Nat)(S:Ý)(x:Option Uv)(o:List aj)(p s:List Sp),r<=s.length->DA S n T o p s a b->DI v o p s m->∃u A e g j,iH 4 f (jI (cO 1 fW 0 (cr i) el)) r k S (E x)=Z (.nx (E A) u)/\DA u n T e g j a b/\DI v e g j m/\Ch S u n a b/\base e g=base o p|0,k,S,x,o,p,s,_,h,d=>by obtain⟨y,H⟩:=z.f x;exact⟨S,y,o,p,s,by show Z (ő.nx (wa f (E x)) S)=_;rw[H],h,d,.refl,rfl⟩|r+1,k,S,x,o,p,s,hr,h,d=>by obtain⟨I,⟨w,j0⟩,rfl,N⟩:=ve hr;have a':=d.m;obtain⟨S1,e1,h1,C1⟩:=Es h (λq hq=>(d.v q hq).1) (by omega);obtain⟨y,H⟩:=z.f x;obtain⟨u,A,e,g,j,e2,h2,D2,C2,B2⟩:=pq z hi hm r (k+1) S1 (Z (.inl (.int (k:Int)))) j0 (p++[(w,o)]) I N h1 d.forth;refine⟨u,A,e,g,j,?_,h2,D2,C1.trans C2 (.inl rfl),by rw[B2,iU]⟩;refine VB (qY (d:=E (Z (.inl (.int (k:Int))))) (Τ:=S1) ?_) e2;rw[H,z.s];exact fF ((bL (a:=[]) (aM (hi _)) h.o rfl rfl).trans e1)
theorem R5(h:d∈w4):ė (.str d) (.str d)=bo D:=uZ ((jQ (aZ (p:=λx=>UV (.str x)) Gf h)).okP (by omega)) rfl
theorem R6(a:∀n∈i,ç n):ė (ej i) (ej i)=bo D:=Eb (JH a) (by omega)
theorem Eu{a:Ý}{h:î}{g:Q->Q->Option (Rs Q)}(e:Κ o Γ=Z (.ok (.inl j) Τ))(d:h Τ Γ=Z (.ok (.inl θ) a))(b:g j θ=Z (.ok (.bl E))):xn g Κ h o Γ=Z (.ok (.inl (.bl E)) a):=by unfold xn jH;rw[e];dsimp only;rw[d];dsimp only;rw[show vw a (.inl j)=Z j from rfl,show vw a (.inl θ)=Z θ from rfl];dsimp only;rw[b]
theorem O5(h:Κ o Γ=Z (.ok (.inl (.bl E)) Τ)):uB Κ o Γ=Z (.ok E Τ):=by unfold uB jH;rw[h];rfl
theorem R7{p q:sE}(h:p o Γ=Z (.ok D Τ)):uOr p q o Γ=q Τ Γ:=by unfold uOr jH;rw[h];rfl
theorem wH{E:Option Uv->ñ}{n a b N a' b' m:Nat}{T:Q}{c':Int}(hE:Ev4 E [])(hi:∀x,(E x)[6]?=Z (Z (.inr n)))(H:∀x,(E x)[1]?=Z (Z (.inr N)))(hm:m<900)(hs:œ n a b N a' b'):∀(r k:Nat)(S:Ý)(x:Option Uv)(i:List aj)(o j:List Sp),r<=o.length->DA S n T i o j a b->DA S N T i o j a' b'->DI c' i o j m->∃S' x' f e g,iH 4 [] qu r k S (E x)=Z (.nx (E x') S')/\DA S' n T f e g a b/\DA S' N T f e g a' b'/\DI c' f e g m/\base f e=base i o/\e.length+r=o.length/\(∀I a3 b3 s u p,œ n a b I a3 b3->œ N a' b' I a3 b3->DA S I T s u p a3 b3->DA S' I T s u p a3 b3)
 |0,k,S,x,i,o,j,_,h,h',d=>by obtain⟨y,hy⟩:=hE.f x;exact⟨S,y,i,o,j,by show Z (ő.nx (wa [] (E x)) S)=_;rw[hy],h,h',d,rfl,rfl,λ_ _ _ _ _ _ _ _ z=>z⟩|r+1,k,S,x,i,o,j,hr,h,h',d=>by
  obtain⟨v,⟨w,A⟩,rfl,f'⟩:=ve hr;have g':=d.m;have ok:∀q∈v++[(w,A)],Gg q:=λq hq=>(d.o q hq).1;obtain⟨S1,e1,h1,C1⟩:=vb h ok (by omega);have e':=h'.stay hs C1;obtain⟨S2,e2,d',C2⟩:=vb e' ok (by omega);have h2:=h1.stay hs.symm C2;obtain⟨S',x',f,e,g,e3,g1,g2,D3,B3,L3,K3⟩:=wH hE hi H hm hs r (k+1) S2 (Z (.inl (.int (k:Int)))) A v (j++[(w,i)]) f' h2 d' d.back;refine⟨S',x',f,e,g,?_,g1,g2,D3,by rw[B3,iU],by simp;omega,λI a3 b3 s u p s1 s2 z=>K3 I a3 b3 s u p s1 s2 ((z.stay s1 C1).stay s2 C2)⟩;obtain⟨y,hy⟩:=hE.f x;refine VB (qY (d:=E (Z (.inl (.int (k:Int))))) (Τ:=S2) ?_) e3;rw[hy,hE.s];unfold qu;have m1:cO 1 bV 0 (cr 6) el S (E (Z (.inl (.int (k:Int)))))=Z (.ok (.inl (.str w)) S1):=(bL (a:=[]) (aM (hi _)) h.o rfl rfl).trans e1;have m2:cO 1 bV 0 (cr 1) el S1 (E (Z (.inl (.int (k:Int)))))=Z (.ok (.inl (.str w)) S2):=(bL (a:=[]) (aM (H _)) e'.o rfl rfl).trans e2;have c1:=O5 (Eu m1 m2 (R5 (ok (w,A) (by simp)).w));have v6:(ö S2 (E (Z (.inl (.int (k:Int))))))[6]?=Z (Z (Ğ T A v (j++[(w,i)]))):=by unfold ö;rw[P_,hi];show Z (vw S2 (.inr n))=_;rw[h2.vw]
  have v1:(ö S2 (E (Z (.inl (.int (k:Int))))))[1]?=Z (Z (Ğ T A v (j++[(w,i)]))):=by unfold ö;rw[P_,H];show Z (vw S2 (.inr N))=_;rw[d'.vw]
  have c2:qt (ö S2 (E (Z (.inl (.int (k:Int))))))=Z (.ok D):=by unfold qt;exact bK ((bi (j:=ej A) (θ:=ej A) (kZ v6 gZ) (kZ v1 gZ)).trans (R6 d.back.j.g))
  exact(Em ((R7 c1).trans (gG c2))).trans rfl
noncomputable def L9(i:List Int)(n:Nat)(a:Int)(h g f e d b:Option Uv):ñ:=[Z (.inl (.scr i)),Z (.inr n),Z (.inl (.int a)),h,g,f,e,d,b]
abbrev t3(b:List aj)(d a:List Sp):Option Uv:=Z (.inl (gc b d a))
abbrev M9(d:List Int)(a:Int)(n:Nat)(e:List aj)(f b:List Sp)(x y:Option Uv):ñ:=L9 d 0 a U x (t3 e f b) (Z (.inr n)) (Z (.inr (n+5))) y
theorem R8(g:List Int)(n:Nat)(a:Int)(f e d b:Option Uv):Ev4 (λx=>L9 g n a U x f e d b) []:=⟨λ_ _=>rfl,λx=>⟨x,rfl⟩⟩
theorem Uu(g:List Int)(n:Nat)(a:Int)(f e d b:Option Uv):Ev4 (λx=>L9 g n a U x f e d b) [4]:=⟨λ_ _=>rfl,λx=>⟨U,rfl⟩⟩
theorem nP{f:List Nat}{r:Option ő}(h:ν (ö o Γ)=Z (.ok [.int (k:Int)]))(a:k<=1000)(e:iH b f Â k 0 o Γ=r):xo b f ν Â o Γ=r:=by unfold xo;rw[h];show(if-(2^62)<=(k:Int)/\(k:Int)<2^62 then iH b f Â (k:Int).toNat 0 o Γ else U)=_;rw[if_pos ⟨by omega,by omega⟩];exact e
theorem R9{a:List Int}(h:k<10)(f:ac [.scr a,.int (16+(k:Int)),.int 4]=Z (.ok (.int Á)))(e:c5 o [.inl (.scr a),.inl (.int (30+90*(k:Int))),.inr b,.inl (.int (n+10+Á))]=Z (.ok (.inl (.bl E)) Τ)):nq o (L9 a b n (Z (.inl (.int (k:Int)))) U U U U U)=Z (.nx (L9 a b (n+10+Á) (Z (.inl (.int (k:Int)))) U U U U U) Τ):=by unfold nq uT;have v:(R cw (R cw (Y 2) (X 10)) (ag ac 3 (bS (Y 0) (R cw (X 16) (Y 3)) (X 4)))) (ö o (L9 a b n (Z (.inl (.int (k:Int)))) U U U U U))=Z (.ok (.int (n+10+Á))):=(bi (j:=.int (n+10)) (θ:=.int Á) rfl (om ac (a:=.scr a) (b:=.int (16+(k:Int))) (c:=.int 4) rfl rfl rfl f)).trans rfl;rw[az (cH (a:=L9 a b (n+10+Á) (Z (.inl (.int (k:Int)))) U U U U U) (ai v rfl) rfl)];refine fF (u:=.inl (.bl E)) ?_;have d:jM (.int 90) (.int (k:Int))=Z (.ok (.int (90*(k:Int)))):=ny (.inl (by omega));have g:aT (aC (Y 0)) (aT (aC (R cw (X 30) (R jM (X 90) (Y 3)))) (aT (cr 1) (aT (aC (Y 2)) el))) o (L9 a b (n+10+Á) (Z (.inl (.int (k:Int)))) U U U U U)=Z (.ok [.inl (.scr a),.inl (.int (30+90*(k:Int))),.inr b,.inl (.int (n+10+Á))] o):=aH (ai (j:=.scr a) rfl rfl) (aH (ai (j:=.int (30+90*(k:Int))) ((bi (j:=.int 30) (θ:=.int (90*(k:Int))) rfl ((bi (j:=.int 90) (θ:=.int (k:Int)) rfl rfl).trans d)).trans rfl) rfl) (aH (aM rfl) (aH (ai (j:=.int (n+10+Á)) rfl rfl) rfl)));unfold nV jH;rw[g];exact e
theorem O6{q:List Int}{t:List Q}(u:q.length<=63)(y:t∈k9 é){n a:Nat}:∀(r k:Nat)(S:Ý)(x:Option Uv)(e:Int)(m:List aj)(o p:List Sp)(b:Nat),k+r<=7->10*k<=e->e<=13*k->DI (e+3) m o p k->base m o=[]->DA S n (.tup t) m o p a b->∃s f g i j v,iH 3 [3] nq r k S (L9 q n e x U U U U U)=Z (.nx (L9 q n f U U U U U U) s)/\DA s n (.tup t) g i j a v/\DI (f+3) g i j 7/\base g i=[]/\10*(k+r:Nat)<=f/\f<=91
 |0,k,S,x,e,m,o,p,b,I,z,h1,d,B,h=>⟨S,e,m,o,p,b,rfl,h,d.later (aaQ _) (by omega),B,by simpa using z,by omega⟩|r+1,k,S,x,e,m,o,p,b,I,z,h1,d,B,h=>by
  obtain⟨c,c0,c1,e0⟩:=aX q u (16+(k:Int)) 4 (by omega);obtain⟨H,d1,E,I1,B1,R1⟩:=qX (z:=30+90*(k:Int)) (n:=e+10+c) u y (d.later (by omega) (on _)) (by omega) (by omega) (by omega);obtain⟨A,b1,r1,e1,w,C1,q1⟩:=R1 S n a b h;have N:bd (e+10+c)<=e+10+c+3:=by unfold bd;split<;>omega
  obtain⟨s,f,g,i,j,v,e2,g1,g2,g3,g4,g5⟩:=O6 u y r (k+1) A (Z (.inl (.int (k:Int)))) (e+10+c) H d1 E b1 (by omega) (by omega) (by omega) (I1.later N (on _)) (by rw[B1,B]) w;refine⟨s,f,g,i,j,v,?_,g1,g2,g3,by omega,g5⟩;refine VB (qY (d:=L9 q n (e+10+c) (Z (.inl (.int (k:Int)))) U U U U U) (Τ:=A) ?_) e2;exact R9 (by omega) e0 e1
theorem BD(e:∀n∈i,ç n)(f b:List Sp):ě 3 (gc i f b):=nv λd a=>by
 simp only[uk,O_,or_false]at a;rcases a with rfl|rfl;·exact JH e
 ·refine O1 (nv (b:=0) λd a=>?_) (by omega);simp only[uk,O_,or_false]at a;rcases a with rfl|rfl<;>exact tu
theorem vf(d:∀n∈i,ç n)(b a:List Sp):ė (gc i b a) (gc i b a)=bo D:=Eb (BD d b a) (by omega)
theorem qZ{p:sE}(h:p o Γ=Z (.ok D Τ)):ĩ p Â sJ o Γ=Z (.nx Γ Τ):=(Em h).trans rfl
theorem O7(h:ε[b]?=Z (Z (Ğ j i ω Θ)))(a:Ψ [Ğ j i ω Θ]=Z (.ok θ)):lO 1 Ψ (Y b) ε=Z (.ok θ):=by unfold lO Y;rw[h];show(if Ź 1 (Ğ j i ω Θ)=L then(match Ψ [Ğ j i ω Θ]with|some (.ok θ)=>Z (Rs.ok θ)|_=>U)else U)=_;rw[a];rfl
theorem lH{a:Nat}(h:DA o k j i ω Θ υ a)(d:Γ[b]?=Z (Z (.inr k))):(ö o Γ)[b]?=Z (Z (Ğ j i ω Θ)):=by unfold ö;rw[P_,d];show Z (vw o (.inr k))=_;rw[h.vw]
theorem Gi:Þ (ej []) (.tup [])=bo L:=by lk
theorem Ew(x y:Nat):Þ (.tup [.int (x:Nat),.int (y:Nat)]) (.tup [.int (x:Nat),.int (y:Nat)])=bo L:=by
 have i:ě 1 (.tup [.int (x:Nat),.int (y:Nat)]):=nv λd a=>by simp only[uk,O_,or_false]at a;rcases a with rfl|rfl<;>exact tu
 exact Jg (i.okP (by omega)) i.p
theorem wI(h:base i ω=[])(a:ω.length=0):i=[]:=by cases ω with|nil=>exact h|cons s l=>simp at a
end J
open J
theorem Ex(k:List Int)(hl:k.length<=63):xH [.scr k]=Z (.ok (.bl L)):=by
 obtain⟨t,ht,eT⟩:=DT k hl;have hT:=ju ht;have pT:=Us ht;suffices h:∃S',xG [] [Z (.inl (.scr k)),U,U,U,U,U,U,U,U]=Z (.rt (.inl (.bl L)) S')by obtain⟨S',h⟩:=h;unfold xH Pk;show(match xG [] [Z (.inl (.scr k)),U,U,U,U,U,U,U,U]with|some (.rt (.inl d) _)=>Z (Rs.ok d)|_=>U)=_;rw[h]
 unfold xG;have m0:=Bz (o:=[]) (Γ:=[Z (.inl (.scr k)),U,U,U,U,U,U,U,U]) (a:=aT (aC (ag d5 2 (bJ (Y 0) (X 0)))) el) hT pT (aH (ai (j:=.tup t) (hX d5 (a:=.scr k) (b:=.int 0) rfl rfl eT) pT) rfl);rw[az (Â:=qI) (cH (a:=[Z (.inl (.scr k)),Z (.inr 0),U,U,U,U,U,U,U]) m0 rfl)];rw[az (Â:=qH) (a:=L9 k 0 0 U U U U U U) (cH (ai (j:=.int 0) rfl rfl) rfl)];have h0:=O4 (j:=.tup t) [];obtain⟨c,c0,c1,ec⟩:=aX k hl 15 5 (by omega);obtain⟨cn,rfl⟩:∃cn:Nat,c=(cn:Int):=⟨c.toNat,by omega⟩;obtain⟨S1,g,js,A,us,b,e1,h1,D1,B1,n1,n2⟩:=O6 hl ht (3+cn) 0 _ U 0 [] [] [] _ (by omega) (by omega) (by omega) ⟨JS.nil,by simp,by simp,by simp,by simp⟩ rfl h0;have f1:mo ([]++[Ģ (.tup t) [] (([]:Ý).length+1) (([]:Ý).length+2),.lst [],.lst []]) (L9 k 0 0 U U U U U U)=Z (.nx (L9 k 0 g U U U U U U) S1):=by unfold mo;refine nP (k:=3+cn) ?_ (by omega) e1;refine ae ?_ au;refine(bi (j:=.int 3) (θ:=.int (cn:Int)) rfl (om ac (a:=.scr k) (b:=.int 15) (c:=.int 5) rfl rfl rfl ec)).trans ?_;show Z (Rs.ok (Q.int (3+(cn:Int))))=_;congr 3
 rw[az f1];obtain⟨q,q0,q1,eq⟩:=aX k hl 26 4 (by omega);obtain⟨y,rfl⟩:∃y:Nat,q=(y:Int):=⟨q.toNat,by omega⟩;have dm:=D1.m;obtain⟨S2,o,f,e,a,e2,H,D2,C2,B2,L2⟩:=nO (R8 k 0 g U U U U) (i:=1) (λ_=>rfl) (by omega) (min A.length y) 0 S1 U js A us (by omega) h1 D1;have D':mj S1 (L9 k 0 g U U U U U U)=Z (.nx (L9 k 0 g U o U U U U) S2):=by
  unfold mj;refine nP (k:=min A.length y) ?_ (by omega) e2;refine ae ?_ au;refine(dj (ae (j:=.int (A.length:Nat)) ((bi (j:=.tup [.int (A.length:Nat),.int (us.length:Nat)]) (θ:=.int 0) (kZ (lH h1 rfl) hU) rfl).trans rfl) (ae (j:=.int (y:Int)) (om ac (a:=.scr k) (b:=.int 26) (c:=.int 4) rfl rfl rfl eq) au))).trans ?_;show Z (Rs.ok (Q.int (if(y:Int)<((A.length:Nat):Int)then(y:Int)else((A.length:Nat):Int))))=_;by_cases z:(y:Int)<((A.length:Nat):Int);·rw[if_pos z,Nat.min_eq_right (by omega)]
  ·rw[if_neg z,Nat.min_eq_left (by omega)]
 rw[az D'];have N':=D2.m;rw[az (Â:=qG) (a:=L9 k 0 g U o (Z (.inl (gc f e a))) U U U) (cH (ai (mw (b:=1) (lH H rfl)) (wG _ _ _)) rfl)];have t1:=BA H hT pT;rw[az (Â:=qF) (a:=L9 k 0 g U o (Z (.inl (gc f e a))) (Z (.inr S2.length)) U U) (cH ((bL (a:=[]) (aM rfl) H.o rfl rfl).trans t1) rfl)];have hA:=H.app [Ģ (.tup t) f (S2.length+3) (S2.length+4),.lst [],.lst [],.lst (e.map æ),.lst (a.map æ)];have hB:=BB (o:=S2) (j:=.tup t) (i:=f) (ω:=e) (Θ:=a);have t2:=BA hB hT pT;generalize u':S2++[Ģ (.tup t) f (S2.length+3) (S2.length+4),.lst [],.lst [],.lst (e.map æ),.lst (a.map æ)]=u at hA hB t2⊢;have l3:u.length=S2.length+5:=by rw[<-u'];simp
 rw[az (Â:=uX) (a:=L9 k 0 g U o (Z (.inl (gc f e a))) (Z (.inr S2.length)) (Z (.inr u.length)) U) (cH ((bL (a:=[]) (aM rfl) hB.o rfl rfl).trans t2) rfl)];have m':=hA.app [Ģ (.tup t) f (u.length+3) (u.length+4),.lst [],.lst [],.lst (e.map æ),.lst (a.map æ)];have v:=hB.app [Ģ (.tup t) f (u.length+3) (u.length+4),.lst [],.lst [],.lst (e.map æ),.lst (a.map æ)];have p:=BB (o:=u) (j:=.tup t) (i:=f) (ω:=e) (Θ:=a);have la:=fZ H.d;have lb:=fZ H.u;have lo:=fZ H.o;generalize H':u++[Ģ (.tup t) f (u.length+3) (u.length+4),.lst [],.lst [],.lst (e.map æ),.lst (a.map æ)]=N at m' v p⊢;rw[l3]at p⊢;have e':œ 0 (([]:Ý).length+1) b S2.length (S2.length+3) (S2.length+4):=⟨by omega,by omega,by omega,by omega,by omega,by omega,by omega,by omega,by omega⟩;have d':œ 0 (([]:Ý).length+1) b (S2.length+5) (S2.length+5+3) (S2.length+5+4):=⟨by omega,by omega,by omega,by omega,by omega,by omega,by omega,by omega,by omega⟩;have c':œ S2.length (S2.length+3) (S2.length+4) (S2.length+5) (S2.length+5+3) (S2.length+5+4):=⟨by omega,by omega,by omega,by omega,by omega,by omega,by omega,by omega,by omega⟩;generalize S2.length=n at*;have g2:=D2.j.g;have k8:qE N (M9 k g n f e a o U)=Z (.nx (M9 k g n f e a o U) N):=by
  unfold qE;refine qZ (gG ?_);unfold uU;have q':gl (dH (bJ (Y 6) (Y 7))) (ö N (M9 k g n f e a o U))=Z (.ok ([(),()].map λ_=>Ğ (.tup t) f e a)):=Jk (lj (ae (yW (lH v rfl)) (ae (yW (lH p rfl)) au)) (by show 2<=100000;decide));have cm:=jC (d:=[]) (z:=dH (bJ (lO 1 ak (Y 0)) (lO 1 aI (Y 0)))) (λ_=>Ğ (.tup t) f e a) (λ_=>gc f e a) q' (by simp) λ_ _=>lj (ae (O7 (b:=0) rfl gZ) (ae (O7 (b:=0) rfl hU) au)) (by show 2<=100000;decide);refine bK ((bi (j:=.lst [gc f e a,gc f e a]) (θ:=.lst [gc f e a,gc f e a]) cm ?_).trans (Eb (wo (b:=3) λd hd=>?_) (by omega)));·exact(bi (j:=.lst [gc f e a]) (θ:=.int 2) (uq (ae (j:=gc f e a) rfl au) (by show 1<=100000;decide)) rfl).trans rfl
  ·simp only[uk,O_,or_false]at hd;rcases hd with rfl|rfl<;>exact BD g2 e a
 rw[az k8];obtain⟨m,i,j,D3,B3,R3⟩:=Kb (n:=g+20) hl ht (D2.later (by omega) (on _)) (by omega) (by omega) (by omega);obtain⟨I,bA,e5,l',C5,q5⟩:=R3 N 0 _ b m';have g3:=D3.j.g;have k7:qD N (M9 k g n f e a o U)=Z (.nx (M9 k g n f e a o (t3 m i j)) I):=by unfold qD;refine cH (u:=.inl (gc m i j)) ?_ rfl;unfold nV jH;rw[show aT (aC (Y 0)) (aT (cr 1) (aT (aC (R cw (Y 2) (X 20))) el)) N (M9 k g n f e a o U)=Z (.ok [.inl (.scr k),.inr 0,.inl (.int (g+20))] N)from aH (ai (j:=.scr k) rfl rfl) (aH (aM rfl) (aH (ai (j:=.int (g+20)) rfl rfl) rfl))];exact e5
 rw[az k7];have k':=v.stay e' C5;have g':=p.stay d' C5;have E:=e'.new v q5;have s:=d'.new p q5;have k6:qC I (M9 k g n f e a o (t3 m i j))=Z (.nx (M9 k g n f e a o (t3 m i j)) I):=by unfold qC;refine qZ (gG ?_);unfold uV;exact bK ((bi (j:=gc f e a) (θ:=gc f e a) (mw (b:=6) (lH k' rfl)) rfl).trans (vf g2 e a))
 rw[az k6];obtain⟨S6,bB,e6,y',C6,q6⟩:=R3 I n _ _ k';have k5:qB I (M9 k g n f e a o (t3 m i j))=Z (.nx (M9 k g n f e a o (t3 m i j)) S6):=by unfold qB;refine qZ (O5 (kY (j:=gc m i j) (θ:=gc m i j) (Τ:=S6) ?_ rfl (vf g3 i j)));unfold nV jH;rw[show aT (aC (Y 0)) (aT (cr 6) (aT (aC (R cw (Y 2) (X 20))) el)) I (M9 k g n f e a o (t3 m i j))=Z (.ok [.inl (.scr k),.inr n,.inl (.int (g+20))] I)from aH (ai (j:=.scr k) rfl rfl) (aH (aM rfl) (aH (ai (j:=.int (g+20)) rfl rfl) rfl))];exact e6
 rw[az k5];have C':=l'.stay E.symm C6;have a':=g'.stay c' C6;have o':=E.symm.new l' q6;have r:=c'.new g' q6;have k4:qA S6 (M9 k g n f e a o (t3 m i j))=Z (.nx (M9 k g n f e a o (t3 m i j)) S6):=by unfold qA;refine qZ (gG ?_);unfold uW;exact bK ((bi (j:=gc f e a) (θ:=gc f e a) (mw (b:=7) (lH a' rfl)) rfl).trans (vf g2 e a))
 rw[az k4];obtain⟨S7,x7,t',w,b',e7,w',D7,C7,B7⟩:=pq (R8 k 0 g (t3 f e a) (Z (.inr n)) (Z (.inr (n+5))) (t3 m i j)) (i:=7) (λ_=>rfl) (by omega) a.length 0 S6 o f e a (on _) a' D2;have k3:qz S6 (M9 k g n f e a o (t3 m i j))=Z (.nx (M9 k g n f e a x7 (t3 m i j)) S7):=by unfold qz;exact nP (k:=a.length) (ae ((bi (j:=.tup [.int (e.length:Nat),.int (a.length:Nat)]) (θ:=.int 1) (kZ (lH a' rfl) hU) rfl).trans rfl) au) (by omega) e7
 rw[az k3];have B':=C'.stay (s.symm) C7;have i':=y'.stay (r.symm) C7;have J':=D3.m;have I':=D7.m;obtain⟨S8,x8,s',n',p',e8,x',A',D8,B8,L8,K8⟩:=wH (R8 k 0 g (t3 f e a) (Z (.inr n)) (Z (.inr (n+5))) (t3 m i j)) (λ_=>rfl) (λ_=>rfl) (by omega) o' i.length 0 S7 x7 m i j (on _) i' B' D3;have k2:qw S7 (M9 k g n f e a x7 (t3 m i j))=Z (.nx (M9 k g n f e a x8 (t3 m i j)) S8):=by unfold qw;exact nP (k:=i.length) (ae ((bi (j:=.tup [.int (i.length:Nat),.int (j.length:Nat)]) (θ:=.int 0) (kZ (lH i' rfl) hU) rfl).trans rfl) au) (by omega) e8
 rw[az k2];have f':=K8 _ _ _ _ _ _ r s w';obtain⟨S9,x9,r',E',F',e9,v',D9,C9,B9,O'⟩:=nO (Uu k 0 g (t3 f e a) (Z (.inr n)) (Z (.inr (n+5))) (t3 m i j)) (i:=7) (λ_=>rfl) (by omega) w.length 0 S8 x8 t' w b' (on _) f' D7;have k1:qv S8 (M9 k g n f e a x8 (t3 m i j))=Z (.nx (M9 k g n f e a x9 (t3 m i j)) S9):=by unfold qv;exact nP (k:=w.length) (ae ((bi (j:=.tup [.int (w.length:Nat),.int (b'.length:Nat)]) (θ:=.int 0) (kZ (lH f' rfl) hU) rfl).trans rfl) au) (by omega) e9
 rw[az k1];have z':=A'.stay s.symm C9;have h':=x'.stay r.symm C9;have z9:r'=[]:=wI (ω:=E') (by rw[B9,B7,B2,B1]) (by omega);have z8:s'=[]:=wI (ω:=n') (by rw[B8,B3,B2,B1]) (by omega);subst z9 z8;refine⟨S9,dF (ai (j:=.bl L) ?_ rfl)⟩;have a1:R Þ (cz 1 ak 0 (Y 7) bQ) (dH bQ) (ö S9 (M9 k g n f e a x9 (t3 m i j)))=bo L:=(bi (j:=ej []) (θ:=.tup []) (kZ (lH v' rfl) gZ) rfl).trans Gi;have a2:R Þ (cz 1 ak 0 (Y 6) bQ) (dH bQ) (ö S9 (M9 k g n f e a x9 (t3 m i j)))=bo L:=(bi (j:=ej []) (θ:=.tup []) (kZ (lH h' rfl) gZ) rfl).trans Gi;have a3:R Þ (cz 1 aI 0 (Y 1) bQ) (cz 1 aI 0 (Y 6) bQ) (ö S9 (M9 k g n f e a x9 (t3 m i j)))=bo L:=(bi (kZ (lH z' rfl) hU) (kZ (lH h' rfl) hU)).trans (Ew n'.length p'.length);unfold jS;rw[a1];show(Ø _ _)=_;rw[show Ø (R Þ (cz 1 ak 0 (Y 6) bQ) (dH bQ) (ö S9 (M9 k g n f e a x9 (t3 m i j)))) _=_ from by rw[a2]];exact a3
theorem O8(a:O9 g)(h:ā s g e ι):K' s g e ι:=by
 rcases h with(h|h)|h;·rcases a e with z|⟨o,b,z⟩<;>(rw[z]at h;cases h)
 ·exact .inl h
 ·exact .inr h
theorem walk{l:aao}{E:(Str->Option B)->N_->Prop}{m:xy->N_->Prop}{d:DefRec}{K:j'->d_}(o:l.most=Z 63)(g:d.params.defaults=[])(q:∀(w:xy)(h:N_),m w h->(K w.params).In h)(F:∀(w:xy)(e:Str->Option B)(k:O)(h:N_),(K w.params).In h->h.Ns C_ e->e d.name=Z (.ref k)->∃j:Vg,(∀(s:ge)(u:B),abA s j ⟨[u],[]⟩ [("_law_script",u)])/\∀base:N_,(K w.params).In base->base.Ns C_ e->í l.prog w (K w.params) e base Į 15 k j ["_law_script"] (ŋ (K w.params) xH 1)):acA r y E m l.row.toRowW d [] (λf n=>ack f n):=L2.walk_of (b:=63) (k:=15) (d:="_law_script") (CX:=λ_=>Į) (sp:=λw=>ŋ (K w.params) xH 1) o (by decide) g ⟨rfl,by decide,by decide,rfl⟩ q F (λ_ _ a i p A hS=>⟨[.scr i],⟨.ref a,[],rfl,⟨a,rfl,O8 A hS⟩,rfl⟩,rfl,by rw[Ex i p];exactλv H _ b=>b⟩) λ_ _ _ _ _ z=>z
end G
variable{Μ:FD.Q}{η:Str}{Υ:Option Str}{π:G.J.aj}{i ξ:List G.J.aj}{Τ:FD.Ý}{ω Θ:List G.J.Sp}
open PySem.W
set_option maxRecDepth 100000 in
theorem PySem.Challenge.cw_notejar_k75_whole_twins_holds : PySem.Challenge.rw_notejar_k75_whole_twins.Holds := by
 refine G.hld fun b=>?_;refine PySem.W.holds_open (q:=G.VQ) (loose:=G.VL) (Xt:=fun s=>recOk [] s) (XP:=fun _ _=>True) (Yf:=Hook.obs (acD G.KK G.KA G.KA_ok)) (Ya:=Hook.val (acD G.KK G.KA G.KA_ok)) (YP:=Hook.says (acD G.KK G.KA G.KA_ok)) (N:=10474) G.left (Hook.of (acD G.KK G.KA G.KA_ok)) (Hook.keeps (acD G.KK G.KA G.KA_ok)) (fun _ _=>trivial) (fun _ _ _ _ _=>trivial) (by rfl) (by rfl) (by rfl) (fun s e=>recFacts_of e) (by rfl) (by first | assumption | decide +kernel) (by decide +kernel) G.hbr ?hw ?hc
 (case hw=>w_witness2)
 refine G.walk (l:=r9_) rfl rfl (fun w h Y=>PySem.W.kIn_of Y) ?F
 case F =>
  intro w g i h f d a;exact G.all_mk (C0:=37) (C1:=49) (C2:=61) (C3:=73) (C4:=85) (C5:=97) (C6:=109) (C8:=121) (CJ:=24) f d a (G.af 128 "notejar.kinds" 335) (G.af 149 "notejar.names" 360) (G.af 154 "notejar.names" 360) (G.af 161 "notejar.names" 360) (G.af 166 "notejar.names" 360) (G.af 180 "notejar.names" 360) (G.af 187 "notejar.names" 360) (G.af 412 "notejar.notes" 645) (G.af 434 "notejar.jars" 763) (G.af 429 "notejar.jars" 763) (G.af 135 "notejar.kinds" 335) (G.af 255 "notejar.asks" 498) (G.af 262 "notejar.asks" 498) (G.af 297 "notejar.giving" 558) (G.af 227 "notejar.paths" 462) (G.af 309 "notejar.giving" 558) (G.af 142 "notejar.kinds" 335) (G.af 302 "notejar.giving" 558) (G.af 377 "notejar.notes" 645) (G.af 424 "notejar.jars" 763) (G.af 441 "notejar.jars" 763) (G.af 173 "notejar.names" 360) (G.af 465 "notejar.jars" 763) (G.af 448 "notejar.jars" 763) (G.af 276 "notejar.asks" 498) (G.af 283 "notejar.asks" 498) (G.af 269 "notejar.asks" 498) (G.af 330 "notejar.giving" 558) (G.af 337 "notejar.giving" 558) (G.af 342 "notejar.giving" 558) (G.af 477 "notejar.jars" 763) (G.af 398 "notejar.notes" 645) (G.af 384 "notejar.notes" 645) (G.af 199 "notejar.names" 360) (G.af 192 "notejar.names" 360) (G.af 206 "notejar.names" 360) (G.af 213 "notejar.names" 360) (G.af 349 "notejar.notes" 645) (G.af 356 "notejar.notes" 645) (G.af 316 "notejar.giving" 558) (G.af 323 "notejar.giving" 558) (G.af 234 "notejar.paths" 462) (G.af 241 "notejar.paths" 462) (G.af 391 "notejar.notes" 645) (G.af 220 "notejar.names" 360) (G.af 290 "notejar.asks" 498) (G.af 363 "notejar.notes" 645) (G.af 370 "notejar.notes" 645) (G.af 405 "notejar.notes" 645) (G.af 470 "notejar.jars" 763) (G.af 419 "notejar.notes" 645) (G.af 460 "notejar.jars" 763) (G.af 248 "notejar.paths" 462) (G.af 496 "notejar.jars" 763) (G.af 489 "notejar.jars" 763) (G.af 506 "notejar.jars" 763) (G.af 501 "notejar.jars" 763) (G.af 484 "notejar.jars" 763) (G.af 534 "notejar.comparing" 876) (G.af 527 "notejar.comparing" 876) (G.af 520 "notejar.comparing" 876) (G.af 513 "notejar.comparing" 876) (G.af 455 "notejar.jars" 763) (G.af 646) (G.af 653) (G.af 660) (G.af 672) (G.af 679) (G.af 691) (G.af 684) (G.af 698) (G.af 705) (G.af 712) (G.af 665) (FD.ck_mk (b:=1) (e:=635) (by lk) (by lk) (by lk) (by lk) (by lk) (by lk)) (G.amf 548 "notejar.desks" 911 547) ⟨by lk,by lk,by lk,by lk⟩ (G.am (G.amf 618 "notejar.desks" 911 617)) (G.am (G.amf 604 "notejar.desks" 911 603)) (G.am (G.amf 611 "notejar.desks" 911 610)) (G.am (G.amf 555 "notejar.desks" 911 554)) (G.am (G.amf 625 "notejar.desks" 911 624)) (G.am (G.amf 632 "notejar.desks" 911 631)) (G.am (G.amf 562 "notejar.desks" 911 561)) (G.am (G.amf 590 "notejar.desks" 911 589)) (G.am (G.amf 583 "notejar.desks" 911 582)) (G.am (G.amf 569 "notejar.desks" 911 568)) (G.am (G.amf 597 "notejar.desks" 911 596)) (G.am (G.amf 576 "notejar.desks" 911 575)) (G.af 717) (by lk) (by lk)
#print axioms PySem.Challenge.cw_notejar_k75_whole_twins_holds
