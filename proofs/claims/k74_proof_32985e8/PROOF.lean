import PyProof.Rows.All
import Wide.All
import OpenK.AllK
import Wide.FinOn
import Lean
import PyProof.EqAt
import PyProof.EqKinds
import PyProof.TupleCall
import PySem.SetTable
import PyProof.SetKind
import PyProof.TupleKey
import PyProof.DictKinds
import PyProof.Rows.SetFrom
import PyProof.ZipIter
import KE.KIntText
import PyProof.EnumIter
import PyProof.Rows.SortStr
import PyProof.Rows.SortWalk
import PyProof.Rows.MinMaxN
import PyProof.ConsumeWalk
import PyProof.CollectWalk
import PyProof.WalksMore
import PyProof.CollectStr
import PyProof.Rows.SortShellK
import PyProof.Rows.SortRunsK
import PyProof.SeqI3
import KE.KSortKey
import PyProof.Rows.CallKwBuiltin
import PyProof.SumAny
import KE.KDictSum
import KE.KLam
import PyProof.StrLawsTight
import PyProof.Rows.StrDigits
import PySem.Challenge.RW_notejar_k74_whole_back
open Option renaming some->Z,none->U,all_some->Vk,map_eq_some_iff->VJ,map_some->VY,isSome_iff_exists->Wa,bind_eq_some_iff->Wn,isSome_some->aaI,getD_some->abh,getD_none->abi
open PySem.Str renaming ofString->b_,length->YM
open PySem.W renaming Frag->d_,nsIn->Um,keepIn->UK,findIn->UR,kia_one->U0,emptyDict->U7,hideAll_none->Ve,fnOf->Vq,instObj->VC,kitOne->Wg,of_hideAll->Wu,mg_of->WG,plainGet->W0,hasDictIn->XA,codeIn->XB,plainGet_of->Yr,hideAll_get->Ys,lookIn->YJ,callWith_K->YK,plainOver->Y1,methodObj->Y2,isFn->Zx,cellsFrom_some->Zy,absHeap->Zz,takerIn->ZN,OpenLaw->ZO,methodCall_KW->ZY,excIn->aaz,kitx_list->aaR,kitx_dict->aaS,handedIn->aa_,makesIn->abu,hideAll->abv,through->abz,openEnds->abL,WalkO->abW,kHook->abZ
open PySem renaming wpAny_bind->e_,Shared->ge,Value->B,Addr->O,starEach->k_,wpAny_pure->l_,Program->n_,Expr->s_,wpAny->u_,World->x_,mainGlobals->B_,Around->C_,model->D_,Heap->TC,behindInMarks->TF,foldedSetIterable->TM,backTo->TW,assignEach->TZ,compareOp->Ug,wpAny_mono->Uj,Stmt->Us,swapsWith->Ux,attributeBase->Uy,cellsFrom->UB,FuncData->UD,wpAny_callSpecial?_slot->UJ,wpAny_newObj_type->UM,keywordEach->UN,wpAny_field->UX,wpAny_call_entry->U4,wpAny_holding->U9,Scope->U_,bootBuiltins->Vb,wpAny_truthy_bool->Vh,wpAny_Call_Name_kw->Vm,wpAny_typeNameOfWhole_valiter->Vw,wpAny_seqItems->Vx,backToKw->Vy,Keyword->VI,binaryOp->V0,wpAny_typeNameOf_valiter->V7,sysModules->V8,mem_of_lookup->Wb,Builtin->Wc,wpAny_getItem_str_slice->We,assign->Wf,NameKind->Wi,wpAny_setField_rec->Ws,PassesOwn->WH,wpAny_isOneOf_valiter->WJ,wpAny_setState_of->WM,codeAny->WN,Model->WO,closureFor->WS,wpAny_forIn_list->WX,holding->WY,codeAny_mono->WZ,wpAny_comprehension_free->Xa,wpAny_attempt->Xb,wpAny_passesOwn->Xf,wpAny_rule->Xh,wpAny_pyIter_tuple->Xi,typeIs_str->Xj,call_meets->Xk,sliceBounds->Xp,wpAny_typeOf->Xx,wpAny_pyIter_list->Xy,newFunctionEnv->Xz,IsPair->XE,wpAny_setFlight_noneW->X1,sizeLine_eq->X_,wpAny_loadPart'->Yi,pyNext->Yj,post_val_or_str->Yk,letOwnedTupleGo->Yl,codeAny_builtin->Ym,wpAny_setField->YE,wpAny_fieldsOf->YF,rawInt->YG,firstArgMember->YH,builtinsNs->YI,wpAny_dictEntries->Y0,setSearchFrom->Y8,tupleKind->Ze,noFill_tuple_add->Zf,wpAny_pyNext_range_end->Zs,wpAny_pyIter_rangeiter->Zt,standAt->Zu,richCompare_meets_room->Zv,getItem->Zw,IsPart->ZC,wpAny_execs_nil->ZK,wpAny_dictEpoch->ZL,importedModules->ZM,wpAny_eqIsQuiet_tuple->ZX,wpAny_updateSeq_pair->Z4,lookup_relabel_local->Z5,Params->Z9,IsZip->Z_,IsRangeIter->aaa,treeTable->aag,getMethod->aah,callerA->aai,evalArgs_none->aak,wpAny_standAt->aat,wpAny_onRaise->aau,swapsWithSole->aav,swappedStores->aaw,strKind->aax,seq_tuple_add->aay,wpAny_call->aaD,Result->aaG,valueAt->aaL,notedBy->aaM,list_append->aaN,concat_meets->aaO,bindArgs->aaP,Within->aaQ,BindsTo->aaX,noteFrame->aa9,Thread->abb,Fin->abf,wpAny_of_eq->abl,wpAny_letGo->abm,unsupported->abn,subscripted->abo,strIterType->abp,seqIndex_of->abq,relabel->aby,typeOf->abB,intText?->abC,field->abD,call->abE,boot_len->abF,bindL->Z',bindC->abH,atKey->Y',ZipApart->abJ,Paired->abN,ItemsAre->abO,GenState->abP,CmpOp->P'
open Bool renaming true->L,false->D,and_eq_true->m_,false_eq_true->xy,false_ne_true->A_,eq_iff_iff->Vc,and_eq_true_iff->WW,not_true->Xe,not_false->XY,not_not->ZJ,or_eq_true->ZV,or_false->aaC,not_eq_true'->aa5
open PySem.Heap renaming get?_push_of_some->j_,get?_push_size->v_,lt_size->y_,size_push->Ur,get?_update_ne->VG,SameBut->V2,get?_update_self->WK,get?_update_other->XF,get?_none_of_le->Yb
open List renaming getElem?_set_ne->on,mem_append_right->o_,range->p_,mem_cons_self->q_,mem_cons_of_mem->r_,mem_cons->uk,getElem?_set_self->w_,map_cons->E_,getElem?_eq_getElem->F_,getElem?_eq_some_iff->G_,size_toArray->H_,getElem?_append_left->I_,getElem?_append_right->K_,getElem?_map->L_,mem_singleton->M_,replicate->N_,mem_append_left->O_,length_map->P_,prefix_refl->Q_,mem_map->R_,not_mem_nil->TD,mem_append->TH,length_cons->TQ,mem_of_getElem?->TV,mem_range->TX,length_append->T_,length_set->Uc,lookup_cons->Uh,mem_filter->Ui,all_eq_true->Ul,getElem?_eq_none->Uw,pairwise_cons->Uz,map_append->UH,map_map->UQ,nodup_cons->UV,map_congr_left->U6,length_replicate->U8,getD_eq_getElem?_getD->Vi,length_filter_le->Vl,any_cons->Vt,all_cons->Vu,filter_cons_of_neg->VA,append_assoc->VB,find?_cons->VD,append_nil->VE,set_cons_zero->VR,set_cons_succ->VS,pairwise_iff_getElem->VV,nodup_append->V4,getElem?_range->Wd,length_eq_zero_iff->Wo,getElem?_replicate->Wp,filter_cons_of_pos->Wq,any_eq_true->Wr,lookup_append->WC,range_succ->WE,getD->WI,length_range->WQ,getElem_mem->W4,getElem_map->W5,drop_length->W6,filterMap_cons->W_,zip_cons_cons->Xm,prefix_append->Xn,pairwise_singleton->Xs,lookup->Xu,getElem?_cons_succ->Xv,take_of_length_le->XQ,range_succ_eq_map->XR,pairwise_map->XS,map_nil->XT,forIn_nil->XV,length_drop->X4,ext_getElem->X5,length->Yh,forIn_cons->Yq,filter_sublist->Yu,perm_append_singleton->YU,mem_filterMap->YV,getElem?_drop->YW,find?_eq_none->YX,filterMap_map->YY,getElem?_take_of_lt->Zd,zipIdx_cons->Zq,length_take->Zr,pairwise_lt_range->ZI,zipIdx_nil->ZR,of_mem_zip->ZS,foldl_cons->ZT,length_singleton->Z2,dropLast_eq_take->Z3,pairwise_append->aac,nodup_nil->aad,mem_iff_getElem->aae,drop_zero->aaf,toList_toArray->aaq,reverse_append->aar,getElem_of_mem->aas,mapM_toArray->aa1,filter_congr->aa2,ext_getElem?->aa3,any_eq_false->aa4,getElem_zip->abj,getElem_inj->abk,find?_some->abx
open Nat renaming le_refl->pi,lt_of_lt_of_le->TJ,le_trans->TU,ne_of_lt->TY,zero_le->Ua,le_of_ble_eq_true->Ut,eq_of_beq_eq_true->Uu,lt_irrefl->U1,le_add_right->Vn,le_of_lt_succ->V3,zero_add->Wz,sub_self->WA,beq->WB,ne_of_gt->W3,not_lt_zero->Xg,succ_pos->XN,ne_of_beq_eq_false->XO,le_of_lt->YB,le_of_eq->YC,ble->YD,mod_lt->YT,lt_trichotomy->Y4,lt_succ_of_lt->Y5,le_succ->Y6,lt_succ_self->Zo,add_sub_cancel_left->Zp,lt_trans->ZH,min_eq_left->ZQ,add_left_cancel->aap,succ_add->aa0
open PySem.Value renaming type->rl,ref->z_,none->J_,bool->S_,builtin->Vf,str->Wh,isStrOf->Xc,int->Zg,notImplemented->Z6,isStrOf_shape->aal,float->abr
open Decidable renaming decide->t_
open PySem.SetTable renaming insertAt->TN,insertAt_perm->ZB,grown->Z7,leap->aaA,turns->Ų,tooFull->abc,advance->abd,runEnd->abM,fill->abY
open Option.some renaming inj->Ub,injEq->WP
open PySem.Txt renaming startswith->Ud,stripChars->Vz,partition->VN,split->VW,join->WT,endswith->Yx,slice_le->ZA,slice->aba,rfind->ab0
open PySem.PyData renaming canLay0->Ue,eqv->UL,eqvAll->Vr,canLayAll0->V1,depth->XD,depthAll->ZP
open False renaming elim->Uf
open PySem.Builtin.Str renaming occurrences->Uk,strKind->VF,glued->aaW
open PySem.Obj renaming mapSeq->Uo,mk->UU,data_mapFields->Xl,putSet->YN,isFreed_of_fields->Z0,mapFields->aaB,cls_mapFields->aaU
open Ne renaming symm->Uq
open PyProof.Rows renaming callWith_type1->UC,slot_tuple_getitem->UF,seqObj->Vd,SortSt->VP,SortKind->Wm,envOfC->Wy,callWith_builtin1->X3,Keyed->Yg,get?_update_seq->Yp,arrOf->Yt,listItems_at->Yz,AllBare->YA,listUpdate_at->Zc,pendingOf->Zm,subscriptTail_builtinR->ZG,oneLt'_eq->aaj,lt_str->aao,typeIs_bool'->aaY,failedOf->aaZ,IntsAre->abA,IsTup->X'
open PySem.F renaming slot_dict_valueiterator_next->UG,slot_tuple_iterator_next->VO,plainAttrs_list->Wj,called_set->Wv,slot_list_append->WL,excBase_ValueError->WU,args_dict_valueiterator_next_1->WV,entry_dict_valueiterator_next->W1,args_tuple_add_2->Xd,entry_tuple_add->Xq,slot_str_split->Xw,slot_tuple_add->XG,slot_dict_get->X2,slot_dict_values_iter->Yc,slot_zip_next->Yn,args_tuple_iterator_next_1->Yo,entry_tuple_iterator_next->Yy,args_str_split_2->YO,entry_str_split->Y3,type_list_append->Y_,slot_dict_values->Za,slot_str_partition->Zi,slot_list_index->Zj,plainAttrs_dict->Zk,args_dict_get_3->Zl,entry_dict_get->ZD,args_list_append_2->aab,entry_list_append->aam,slot_list_pop->aaH
open PySem.Builtin.SmallTypes renaming nextOf->UO,ownedTupleIsFree->Va,ownedTupleHandOut->W9
open PySem.ClassData renaming mk->UP
open PySem.Data renaming fields->UY,dict->VX,cls->XH
open Array renaming length_toList->UZ,getElem?_eq_some_iff->Vj,getElem?_toList->VT,mem_toList_iff->V5,getD_eq_getD_getElem?->WR,forIn_toList->Xo,size_map->XZ,replicate->ZW,getElem?_map->aaJ,append_assoc->aaK,toList_push->aa6,size_append->aa7
open Eq renaming trans->U5
open PySem.NameKind renaming free->Vg,cell->Vs
open Int renaming emod_lt_of_pos->Vo,emod_nonneg->VZ,toNat_natCast->XX
open PySem.Heap.SameBut renaming update->VH
open PySem.Builtin.Slice renaming slicePlaces->VU,sliceAdjust->W7,sliceApplied->YS
open True renaming intro->V6
open PySem.Builtin.Tuple renaming tupleExact->V_,tupleCompareSizes->X0,tupleItemsOf->YR
open PySem.Builtin.Range renaming rangeSize->Wl,small->aan
open PySem.Calls renaming spliced_cons->Ww,callWith_builtin->Wx,spliced_nil->XJ,evalArgs_plain->Yd,Name_function_global->YQ
open PySem.Builtin.Dict_items renaming ownsTuple->WD,newIterator->abg,dictOf->abV
open ForInStep renaming yield->WF
open PyProof.Rows.F renaming plain_set_update_loop->Xr,entry_set_update_loop->Zn
open PySem.Builtin.List renaming listItems->XM
open LawfulBEq renaming eq_of_beq->X6
open Sum renaming inl->X7,inr->YZ
open PySem.SetTable.layClean renaming free->X8
open Function renaming comp->X9
open PySem.Around renaming under_plainId->Ye,under->ZE
open PySem.W.Fast renaming tw11892475500146522536->Yv,tw10156331382660048174->Yw,tw6613529449190102663->YL
open List.Pairwise renaming nil->Y7
open PySem.Paired renaming length->Y9
open PySem.AutoSeq1 renaming sub_tuple_tuple->Zb
open PySem.SetTable.probe renaming go->Zh
open PyProof renaming noPylong_small->ZF
open List.cons renaming injEq->ZU
open PySem.StrLaws renaming glued_eq_join->ZZ
open PySem.Builtin.Dict renaming showsAll->Z1
open PySem.SeqAt.EqAt renaming bool_bool->Z8,str_int->aaE,int_str->aaF
open PySem.Code renaming isFrame->aaV
open Std.Legacy renaming Range->aa8
open PySem.IsL renaming update->abe
open StateT renaming run_pure->abt
open PySem.Builtin.Frozenset renaming updateFrom->abw,newClass->abR
open PySem.Walks renaming list->abK
open List.Perm renaming swap->abT
open ForIn renaming forIn->V'
open PySem.Shared renaming TypeIs->abX
open PyProof.Rows.IsTup renaming new->ab1
open PySem.SetTable.below renaming go->ab2
set_option compiler.extract_closed false
set_option bootstrap.genMatcherCode false
set_option maxHeartbeats 4000000
set_option Elab.async false
open PySem.Challenge renaming pw_notejar_k74_whole_back->p9_,rw_notejar_k74_whole_back->r9_
local macro_rules|`(tactic|lk)=>`(tactic|kernel_rfl)
local macro_rules|`(tactic|room)=>`(tactic|with_unfolding_all assumption)
namespace TR
open PySem PySem.W
def kz(d:String->Option Wc)(p:n_)(w:x_)(a:Nat)(b:Option B):Nat->SharedT->abb->Option SharedT|0,_,_=>U|n+1,s,t=>match abz t with|true=>Z s|false=>match stepOk a b t with|false=>U|true=>match stepT (denote d) p w s t with|some (f,e)=>kz d p w a b n f e|none=>U
def lR:List Obj->BT->Nat->Option (BT×Nat)|[],t,n=>Z (t,n)|o::os,t,n=>match((t.ins n o).get n).isSome with|true=>lR os (t.ins n o) (n+1)|false=>U
def Bn(d:String->Option Wc)(p:n_)(w:x_)(N:Nat):Option ge:=(fencedOpening d p w N).bind λa=>match a.heap.isNs B_&&a.gens.size==0 with
 |true=>(lR a.heap.objs.toList .nil 0).bind λx=>(kz d p w a.heap.objs.size (a.heap.nsMap B_ "__annotations__") N ⟨x.1,x.2,a.heap.life,a.gens,a.drawn,a.toks,a.os⟩ (topStub p)).bind λb=>match staticsOk (ZM p.main.body) a.heap b.abs.heap&&namesBound p b.abs.heap&&gensDone b.abs&&laidKept a.heap b.abs.heap with|true=>Z b.abs|false=>U
 |false=>U
theorem k8{e:String->Option Wc}{p:n_}{w:x_}{a:Nat}{b:Option B}:∀(n:Nat)(s:SharedT)(t:abb)(d:SharedT),kz e p w a b n s t=Z d->topRun e p w a b n s.abs t=Z d.abs|0,_,_,_,h=>by cases h|n+1,s,t,d,h=>by unfold kz at h;unfold topRun;cases g:abz t with|true=>rw[g]at h;cases h;rfl|false=>rw[g]at h;cases i:stepOk a b t with|false=>rw[i]at h;cases h|true=>rw[i]at h;cases f:stepT (denote e) p w s t with|none=>rw[f]at h;cases h|some x=>obtain⟨k,j⟩:=x;rw[f]at h;dsimp only at h⊢;rw[stepT_spec f];exact k8 n k j d h
theorem lS{a:Life}:∀(os:List Obj)(t:BT)(n:Nat)(b:BT)(d:Nat),lR os t n=Z (b,d)->(Zz b d a).objs=(Zz t n a).objs++os.toArray|[],t,n,b,d,h=>by cases h;simp|o::os,t,n,b,d,h=>by unfold lR at h;cases e:((t.ins n o).get n).isSome with|false=>rw[e]at h;cases h|true=>rw[e]at h;rw[lS os _ _ _ _ h,absHeap_ins e];show(Zz t n a).objs.push o++os.toArray=_;simp
variable{s:n_}{r:x_}{b:Nat}{f:ge}
theorem vS{p:String->Option Wc}(h:Bn p s r b=Z f):abL p s r b=Z f:=by unfold Bn at h;unfold abL;obtain⟨i,A,j⟩:=Wn.mp h;rw[A];show topFrom p s r b i=Z f;unfold topFrom;cases q:(i.heap.isNs B_&&i.gens.size==0)with|false=>rw[q]at j;cases j|true=>
 rw[q]at j;dsimp only at j⊢;obtain⟨⟨n,o⟩,z,y⟩:=Wn.mp j;obtain⟨N,w,v⟩:=Wn.mp y;have e:=lS (a:=i.heap.life) _ _ _ _ _ z;have I:Zz n o i.heap.life=i.heap:=by
  have H:(Zz n o i.heap.life).objs=i.heap.objs:=by rw[e];show(Zz BT.nil 0 i.heap.life).objs++i.heap.objs.toList.toArray=_;simp[Zz,BT.list]
  obtain⟨⟨u,m⟩,g,d,k,os⟩:=i;show Heap.mk _ _=Heap.mk _ _;exact congrArg (Heap.mk · m) H
 have a:=k8 _ _ _ _ w;have E:(SharedT.abs ⟨n,o,i.heap.life,i.gens,i.drawn,i.toks,i.os⟩)=i:=by show Shared.mk (Zz n o i.heap.life) _ _ _ _=i;rw[I]
 rw[E]at a;rw[a];exact v
variable{ε:Type}{Ë:ε}
theorem xh{d:String->Option Wc}{f:ge->ε}(h:(Bn d s r b).map f=Z Ë):(abL d s r b).map f=Z Ë:=by obtain⟨a,g,e⟩:=VJ.mp h;rw[vS g];exact congrArg Z e
noncomputable def OO(d:String->Option Wc)(p:n_)(w:x_)(a:Nat)(b:Option B)(n:Nat):SharedT->abb->Option SharedT:=@Nat.rec (λ_=>SharedT->abb->Option SharedT) (λ_ _=>U) (λ_ e s t=>@Bool.rec (λ_=>Option SharedT) (@Bool.rec (λ_=>Option SharedT) U (@Option.rec (SharedT×abb) (λ_=>Option SharedT) U (λx=>e x.1 x.2) (Yw (Yv d) p w s t)) (YL a b t)) (Z s) (abz t)) n
theorem xi{d:String->Option Wc}{p:n_}{w:x_}{a:Nat}{b:Option B}:∀(n:Nat)(s:SharedT)(t:abb),OO d p w a b n s t=kz d p w a b n s t|0,_,_=>rfl|n+1,s,t=>by show@Bool.rec (λ_=>Option SharedT) (@Bool.rec (λ_=>Option SharedT) U (@Option.rec (SharedT×abb) (λ_=>Option SharedT) U (λx=>OO d p w a b n x.1 x.2) (Yw (Yv d) p w s t)) (YL a b t)) (Z s) (abz t)=_;unfold kz;rw[<-Fast.te10156331382660048174,<-Fast.te11892475500146522536,<-Fast.te6613529449190102663];cases abz t with|true=>rfl|false=>cases stepOk a b t with|false=>rfl|true=>cases stepT (denote d) p w s t with|none=>rfl|some x=>exact xi n x.1 x.2
noncomputable def openQ(d:String->Option Wc)(p:n_)(w:x_)(N:Nat):Option ge:=(fencedOpening d p w N).bind λa=>match a.heap.isNs B_&&a.gens.size==0 with
 |true=>(lR a.heap.objs.toList .nil 0).bind λx=>(OO d p w a.heap.objs.size (a.heap.nsMap B_ "__annotations__") N ⟨x.1,x.2,a.heap.life,a.gens,a.drawn,a.toks,a.os⟩ (topStub p)).bind λb=>match staticsOk (ZM p.main.body) a.heap b.abs.heap&&namesBound p b.abs.heap&&gensDone b.abs&&laidKept a.heap b.abs.heap with|true=>Z b.abs|false=>U
 |false=>U
theorem openQ_map{a:String->Option Wc}{f:ge->ε}(h:(openQ a s r b).map f=Z Ë):(abL a s r b).map f=Z Ë:=by refine xh ?_;unfold openQ at h;unfold Bn;simp only[xi]at h;exact h
end TR
variable{s:n_}{r:x_}{b:Nat}{f:ge}{ε:Type}{Ë:ε}
namespace G
open PySem PySem.W PyProof.Rows
noncomputable def hT(i:Nat):Us:=p9_.main.body.getD i (.Pass ⟨0,0,0,0⟩)
noncomputable def hA(s:Us):Arguments:=match s with|.FunctionDef _ a _ _ _ _ _ _ _ _=>a|_=>{posonlyargs:=[],args:=[],vararg:=U,kwonlyargs:=[],kw_defaults:=[],kwarg:=U,defaults:=[]}
noncomputable def hB(s:Us):List Us:=match s with|.FunctionDef _ _ b _ _ _ _ _ _ _=>b|_=>[]
noncomputable def hS(s:Us):U_:=match s with|.FunctionDef _ _ _ _ _ _ a _ _ _=>a|_=>{kind:=.function,names:=[],isGenerator:=D,isCoroutine:=D}
noncomputable abbrev kS(s:String)(t:Nat):B:=.str (b_ s) t
noncomputable abbrev kR(a:Nat):B:=.ref a
noncomputable abbrev kI(i:Int)(t:Nat):B:=.int i t
noncomputable abbrev kE(P:Z9)(s:String)(t:Nat)(v:B):DictEntry:=⟨PySem.PyData.keyHash P (b_ s),.str (b_ s) t,v⟩
noncomputable def kF(x:String)(i:Nat)(m:String)(t c:Nat):Obj:=UU (rl "function") U (Data.func (fnOf (b_ x) (b_ x) (hA (hT i)) (hB (hT i)) (hS (hT i)) .none J_ J_ (kS m t) U (kR c) J_)) #[]
noncomputable def ť(x:String)(i c:Nat):=kF x i "law_notejar_k74_whole_back" 1053 c
noncomputable def hC(s:Us)(j:Nat):Us:=match s with|.ClassDef _ _ _ b _ _ _ _ _ _ _=>b.getD j (.Pass ⟨0,0,0,0⟩)|_=>.Pass ⟨0,0,0,0⟩
noncomputable def kM(x q:String)(i j:Nat)(m:String)(t c:Nat):Obj:=UU (rl "function") U (Data.func (fnOf (b_ x) (b_ q) (hA (hC (hT i) j)) (hB (hC (hT i) j)) (hS (hC (hT i) j)) .none J_ J_ (kS m t) U (kR c) J_)) #[]
noncomputable def kC(x:String)(a b c:Nat)(d e f:Int)(g:Nat)(h:Int)(i j:Nat)(k l:Int)(m:Nat):Obj:=UU (rl "code") U (UY #[kS x a,kS x b,kS "/claim/cut.py" c,kI d 0,kI e 0,kI 0 0,kI 0 0,kI f 0,kR g,S_ L,kI h 0,kR i,J_,J_,J_,kR j,kI k 0,kI l 0,kS "/claim/cut.py" m]) #[]
noncomputable def kD(x:String)(a b c:Nat)(d e f:Int)(g:Nat)(h:Int)(i u v j:Nat)(k l:Int)(m:Nat):Obj:=UU (rl "code") U (UY #[kS x a,kS x b,kS "/claim/cut.py" c,kI d 0,kI e 0,kI 0 0,kI 0 0,kI f 0,kR g,S_ L,kI h 0,kR i,J_,kR u,kR v,kR j,kI k 0,kI l 0,kS "/claim/cut.py" m]) #[]
noncomputable def KKa(P:Z9):Frag:=[(2,UU J_ U (VX #[]) #[]),(3,UU (rl "dict") U (VX #[kE P "__name__" 165 (kS "law_notejar_k74_whole_back" 1053),kE P "__doc__" 166 J_,kE P "__package__" 167 J_,kE P "__loader__" 168 (Vf "__main__.__loader__#opaque"),kE P "__spec__" 169 J_,kE P "__annotations__" 170 (kR 6),kE P "__builtins__" 171 (kR 4),kE P "__file__" 173 (kS "/claim/cut.py" 172),kE P "__cached__" 174 J_,kE P "_wall" 193 (kR 21),kE P "JarError" 213 (kR 31),kE P "NoName" 229 (kR 44),kE P "NoTable" 245 (kR 56),kE P "NoPath" 261 (kR 68),kE P "NoAsk" 277 (kR 80),kE P "NoNote" 293 (kR 92),kE P "NoJar" 309 (kR 104),kE P "NoNumber" 325 (kR 116),kE P "NoStep" 341 (kR 128),kE P "is_text_of" 349 (kR 135),kE P "is_whole_number" 358 (kR 142),kE P "is_tuple_of" 366 (kR 149),kE P "FIGURES" 370 (kS "0123456789" 369),kE P "LABEL_SIGNS" 372 (kS "abcdefghijklmnopqrstuvwxyz0123456789-" 371),kE P "LONGEST_LABEL" 374 (kI 8 373),kE P "MOST_LABELS" 376 (kI 5 375),kE P "MOST_RULES" 378 (kI 8 377),kE P "is_label" 385 (kR 156),kE P "is_name" 391 (kR 161),kE P "is_rule" 398 (kR 168),kE P "is_table" 404 (kR 173),kE P "need_name" 411 (kR 180),kE P "need_table" 418 (kR 187),kE P "lies_within" 426 (kR 194),kE P "ends_longest_first" 432 (kR 199),kE P "behind_first_dot" 439 (kR 206),kE P "is_told_open" 447 (kR 213),kE P "find_open_end" 457 (kR 220),kE P "find_own_end" 468 (kR 227),kE P "PATH_SIGNS" 472 (kS "abcdefghijklmnopqrstuvwxyz0123456789-_./" 471),kE P "LONGEST_PATH" 474 (kI 20 473),kE P "is_path" 481 (kR 234),kE P "need_path" 488 (kR 241),kE P "folder" 496 (kR 248),kE P "lies_under" 504 (kR 255),kE P "LAST_MOMENT" 508 (kI 9999 507),kE P "ASK_SAFE" 510 (kI 0 509),kE P "ASK_HOUSE" 512 (kI 1 511),kE P "ASK_PATH" 514 (kI 2 513),kE P "ASK_ORIGIN" 516 (kI 3 515),kE P "ASK_PARTS" 518 (kI 4 517),kE P "is_moment" 525 (kR 262),kE P "is_moment_or_none" 532 (kR 269),kE P "need_moment" 539 (kR 276),kE P "is_ask" 546 (kR 283),kE P "need_ask" 553 (kR 290),kE P "comes_from_near" 564 (kR 297),kE P "NOTE_NAME_SIGNS" 568 (kS "abcdefghijklmnopqrstuvwxyzABCDEFGHIJKLMNOPQRSTUVWXYZ0123456789-_" 567),kE P "LONGEST_NOTE_NAME" 570 (kI 10 569),kE P "NO_WORTH_SIGNS" 572 (kS ";,=" 571),kE P "LONGEST_WORTH" 574 (kI 12 573),kE P "MOST_FIGURES" 576 (kI 4 575),kE P "GIVEN_NAME" 578 (kI 0 577),kE P "GIVEN_WORTH" 580 (kI 1 579),kE P "GIVEN_HOUSE" 582 (kI 2 581),kE P "GIVEN_PATH" 584 (kI 3 583),kE P "GIVEN_UNTIL" 586 (kI 4 585),kE P "GIVEN_LASTS" 588 (kI 5 587),kE P "GIVEN_SAFE" 590 (kI 6 589),kE P "GIVEN_REACH" 592 (kI 7 591),kE P "GIVEN_PARTS" 594 (kI 8 593),kE P "is_note_name" 601 (kR 304),kE P "is_worth" 607 (kR 309),kE P "is_reach" 614 (kR 316),kE P "is_given" 621 (kR 323),kE P "need_given" 628 (kR 330),kE P "is_written_moment" 635 (kR 337),kE P "what_is_told" 645 (kR 344),kE P "read_given" 651 (kR 349),kE P "NOTE_NAME" 655 (kI 0 654),kE P "NOTE_WORTH" 657 (kI 1 656),kE P "NOTE_HOUSE" 659 (kI 2 658),kE P "NOTE_EXACT" 661 (kI 3 660),kE P "NOTE_PATH" 663 (kI 4 662),kE P "NOTE_ENDS" 665 (kI 5 664),kE P "NOTE_SAFE" 667 (kI 6 666),kE P "NOTE_REACH" 669 (kI 7 668),kE P "NOTE_MADE" 671 (kI 8 670),kE P "NOTE_USED" 673 (kI 9 672),kE P "NOTE_PARTS" 675 (kI 10 674),kE P "is_open" 683 (kR 356),kE P "is_exact" 693 (kR 363),kE P "keeps_its_mark" 703 (kR 370),kE P "why_refused" 713 (kR 377),kE P "is_note" 720 (kR 384),kE P "house_for" 728 (kR 391),kE P "path_for" 736 (kR 398),kE P "end_for" 744 (kR 405),kE P "made" 754 (kR 412),kE P "key" 761 (kR 419),kE P "has_ended" 769 (kR 426),kE P "MOST_NOTES" 773 (kI 20 772),kE P "is_jar" 779 (kR 431),kE P "is_by_made" 785 (kR 436),kE P "has_no_key_twice" 791 (kR 441),kE P "need_jar" 798 (kR 448),kE P "need_no_more_than_a_jar_has" 805 (kR 455),kE P "swept" 813 (kR 462),kE P "without_ended" 819 (kR 467),kE P "forgotten" 825 (kR 472),kE P "put" 831 (kR 477),kE P "read_what_is_given" 843 (kR 484),kE P "verdict" 855 (kR 491),kE P "word_of" 861 (kR 496),kE P "shadows" 870 (kR 503),kE P "taken" 876 (kR 508),kE P "take_in" 882 (kR 513),kE P "merged" 895 (kR 520),kE P "place_of" 902 (kR 527),kE P "later_of" 910 (kR 534),kE P "when_last" 917 (kR 541),kE P "Desk" 1052 (kR 642),kE P "_law_cell" 1062 (kR 653),kE P "_law_drawn" 1072 (kR 660),kE P "_law_name" 1081 (kR 667),kE P "_law_table" 1087 (kR 672),kE P "_law_path" 1096 (kR 679),kE P "_law_ask" 1105 (kR 686),kE P "_law_jar" 1111 (kR 691),kE P "_law_given" 1128 (kR 698),kE P "_law_text" 1146 (kR 705),kE P "_law_step" 1161 (kR 712),kE P "law" 1167 (kR 717)] 133) #[]),(20,kD "_wall" 187 188 189 1 1 3 15 181 16 17 18 19 191 1 192),(30,UU (rl "dict") U (VX #[kE P "__module__" 203 (kS "notejar.errors" 194),kE P "__firstlineno__" 207 (kI 5 206),kE P "__static_attributes__" 208 (kR 29),kE P "__weakref__" 210 (kR 32),kE P "__doc__" 211 J_] 3) #[]),(31,UU (rl "type") U (XH (UP (b_ "JarError") [rl "ValueError"] [kR 31,rl "ValueError",rl "Exception",rl "BaseException",rl "object"] 30 (b_ "JarError") L [] [kR 44,kR 56,kR 68,kR 80,kR 92,kR 104,kR 116,kR 128] D U D)) #[Z (kR 22),U,Z (kS "JarError" 196),Z (kS "JarError" 204),Z (Vf "ValueError.__new__"),Z (S_ L)]),(43,UU (rl "dict") U (VX #[kE P "__module__" 221 (kS "notejar.errors" 194),kE P "__firstlineno__" 225 (kI 7 224),kE P "__static_attributes__" 226 (kR 42),kE P "__doc__" 227 J_] 2) #[]),(44,UU (rl "type") U (XH (UP (b_ "NoName") [kR 31] [kR 44,kR 31,rl "ValueError",rl "Exception",rl "BaseException",rl "object"] 43 (b_ "NoName") L [] [] D U D)) #[Z (kR 35),U,Z (kS "NoName" 214),Z (kS "NoName" 222),Z (Vf "ValueError.__new__"),Z (S_ L)]),(55,UU (rl "dict") U (VX #[kE P "__module__" 237 (kS "notejar.errors" 194),kE P "__firstlineno__" 241 (kI 9 240),kE P "__static_attributes__" 242 (kR 54),kE P "__doc__" 243 J_] 2) #[]),(56,UU (rl "type") U (XH (UP (b_ "NoTable") [kR 31] [kR 56,kR 31,rl "ValueError",rl "Exception",rl "BaseException",rl "object"] 55 (b_ "NoTable") L [] [] D U D)) #[Z (kR 47),U,Z (kS "NoTable" 230),Z (kS "NoTable" 238),Z (Vf "ValueError.__new__"),Z (S_ L)]),(67,UU (rl "dict") U (VX #[kE P "__module__" 253 (kS "notejar.errors" 194),kE P "__firstlineno__" 257 (kI 11 256),kE P "__static_attributes__" 258 (kR 66),kE P "__doc__" 259 J_] 2) #[]),(68,UU (rl "type") U (XH (UP (b_ "NoPath") [kR 31] [kR 68,kR 31,rl "ValueError",rl "Exception",rl "BaseException",rl "object"] 67 (b_ "NoPath") L [] [] D U D)) #[Z (kR 59),U,Z (kS "NoPath" 246),Z (kS "NoPath" 254),Z (Vf "ValueError.__new__"),Z (S_ L)]),(79,UU (rl "dict") U (VX #[kE P "__module__" 269 (kS "notejar.errors" 194),kE P "__firstlineno__" 273 (kI 13 272),kE P "__static_attributes__" 274 (kR 78),kE P "__doc__" 275 J_] 2) #[]),(80,UU (rl "type") U (XH (UP (b_ "NoAsk") [kR 31] [kR 80,kR 31,rl "ValueError",rl "Exception",rl "BaseException",rl "object"] 79 (b_ "NoAsk") L [] [] D U D)) #[Z (kR 71),U,Z (kS "NoAsk" 262),Z (kS "NoAsk" 270),Z (Vf "ValueError.__new__"),Z (S_ L)]),(91,UU (rl "dict") U (VX #[kE P "__module__" 285 (kS "notejar.errors" 194),kE P "__firstlineno__" 289 (kI 15 288),kE P "__static_attributes__" 290 (kR 90),kE P "__doc__" 291 J_] 2) #[]),(92,UU (rl "type") U (XH (UP (b_ "NoNote") [kR 31] [kR 92,kR 31,rl "ValueError",rl "Exception",rl "BaseException",rl "object"] 91 (b_ "NoNote") L [] [] D U D)) #[Z (kR 83),U,Z (kS "NoNote" 278),Z (kS "NoNote" 286),Z (Vf "ValueError.__new__"),Z (S_ L)]),(103,UU (rl "dict") U (VX #[kE P "__module__" 301 (kS "notejar.errors" 194),kE P "__firstlineno__" 305 (kI 17 304),kE P "__static_attributes__" 306 (kR 102),kE P "__doc__" 307 J_] 2) #[]),(104,UU (rl "type") U (XH (UP (b_ "NoJar") [kR 31] [kR 104,kR 31,rl "ValueError",rl "Exception",rl "BaseException",rl "object"] 103 (b_ "NoJar") L [] [] D U D)) #[Z (kR 95),U,Z (kS "NoJar" 294),Z (kS "NoJar" 302),Z (Vf "ValueError.__new__"),Z (S_ L)]),(115,UU (rl "dict") U (VX #[kE P "__module__" 317 (kS "notejar.errors" 194),kE P "__firstlineno__" 321 (kI 19 320),kE P "__static_attributes__" 322 (kR 114),kE P "__doc__" 323 J_] 2) #[]),(116,UU (rl "type") U (XH (UP (b_ "NoNumber") [kR 31] [kR 116,kR 31,rl "ValueError",rl "Exception",rl "BaseException",rl "object"] 115 (b_ "NoNumber") L [] [] D U D)) #[Z (kR 107),U,Z (kS "NoNumber" 310),Z (kS "NoNumber" 318),Z (Vf "ValueError.__new__"),Z (S_ L)]),(127,UU (rl "dict") U (VX #[kE P "__module__" 333 (kS "notejar.errors" 194),kE P "__firstlineno__" 337 (kI 21 336),kE P "__static_attributes__" 338 (kR 126),kE P "__doc__" 339 J_] 2) #[]),(128,UU (rl "type") U (XH (UP (b_ "NoStep") [kR 31] [kR 128,kR 31,rl "ValueError",rl "Exception",rl "BaseException",rl "object"] 127 (b_ "NoStep") L [] [] D U D)) #[Z (kR 119),U,Z (kS "NoStep" 326),Z (kS "NoStep" 334),Z (Vf "ValueError.__new__"),Z (S_ L)]),(134,kC "is_text_of" 344 345 346 24 4 3 131 181 132 133 347 24 348),(135,kF "is_text_of" 12 "notejar.kinds" 342 134),(141,kD "is_whole_number" 350 351 352 30 3 3 136 181 137 138 139 140 356 30 357),(142,kF "is_whole_number" 13 "notejar.kinds" 342 141),(148,kD "is_tuple_of" 359 360 361 34 2 3 143 181 144 145 146 147 364 34 365),(149,kF "is_tuple_of" 14 "notejar.kinds" 342 148),(155,kD "is_label" 379 380 381 42 1 3 150 181 151 152 153 154 383 42 384),(156,kF "is_label" 21 "notejar.names" 367 155),(160,kC "is_name" 386 387 388 46 1 3 157 181 158 159 389 46 390),(161,kF "is_name" 22 "notejar.names" 367 160),(167,kD "is_rule" 392 393 394 53 1 3 162 181 163 164 165 166 396 53 397),(168,kF "is_rule" 23 "notejar.names" 367 167),(172,kC "is_table" 399 400 401 61 1 3 169 181 170 171 402 61 403),(173,kF "is_table" 24 "notejar.names" 367 172),(179,kD "need_name" 405 406 407 67 1 3 174 181 175 176 177 178 409 67 410),(180,kF "need_name" 25 "notejar.names" 367 179),(186,kD "need_table" 412 413 414 70 1 3 181 181 182 183 184 185 416 70 417),(187,kF "need_table" 26 "notejar.names" 367 186),(193,kD "lies_within" 419 420 421 73 2 3 188 181 189 190 191 192 424 73 425),(194,kF "lies_within" 27 "notejar.names" 367 193),(198,kC "ends_longest_first" 427 428 429 75 1 3 195 181 196 197 430 75 431),(199,kF "ends_longest_first" 28 "notejar.names" 367 198),(205,kD "behind_first_dot" 433 434 435 78 1 3 200 181 201 202 203 204 437 78 438),(206,kF "behind_first_dot" 29 "notejar.names" 367 205),(212,kD "is_told_open" 440 441 442 80 2 3 207 181 208 209 210 211 445 80 446),(213,kF "is_told_open" 30 "notejar.names" 367 212),(219,kD "find_open_end" 448 449 450 84 2 3 214 181 215 216 217 218 455 84 456),(220,kF "find_open_end" 31 "notejar.names" 367 219),(226,kD "find_own_end" 458 459 460 93 2 3 221 181 222 223 224 225 466 93 467),(227,kF "find_own_end" 32 "notejar.names" 367 226),(233,kD "is_path" 475 476 477 103 1 3 228 181 229 230 231 232 479 103 480),(234,kF "is_path" 36 "notejar.paths" 469 233),(240,kD "need_path" 482 483 484 105 1 3 235 181 236 237 238 239 486 105 487),(241,kF "need_path" 37 "notejar.paths" 469 240),(247,kD "folder" 489 490 491 108 1 3 242 181 243 244 245 246 494 108 495),(248,kF "folder" 38 "notejar.paths" 469 247),(254,kD "lies_under" 497 498 499 114 2 3 249 181 250 251 252 253 502 114 503),(255,kF "lies_under" 39 "notejar.paths" 469 254),(261,kD "is_moment" 519 520 521 127 1 3 256 181 257 258 259 260 523 127 524),(262,kF "is_moment" 47 "notejar.asks" 505 261),(268,kD "is_moment_or_none" 526 527 528 129 1 3 263 181 264 265 266 267 530 129 531),(269,kF "is_moment_or_none" 48 "notejar.asks" 505 268),(275,kD "need_moment" 533 534 535 131 1 3 270 181 271 272 273 274 537 131 538),(276,kF "need_moment" 49 "notejar.asks" 505 275),(282,kD "is_ask" 540 541 542 134 1 3 277 181 278 279 280 281 544 134 545),(283,kF "is_ask" 50 "notejar.asks" 505 282),(289,kD "need_ask" 547 548 549 138 1 3 284 181 285 286 287 288 551 138 552),(290,kF "need_ask" 51 "notejar.asks" 505 289),(296,kD "comes_from_near" 554 555 556 141 2 3 291 181 292 293 294 295 562 141 563),(297,kF "comes_from_near" 52 "notejar.asks" 505 296),(303,kD "is_note_name" 595 596 597 163 1 3 298 181 299 300 301 302 599 163 600),(304,kF "is_note_name" 68 "notejar.giving" 565 303),(308,kC "is_worth" 602 603 604 165 1 3 305 181 306 307 605 165 606),(309,kF "is_worth" 69 "notejar.giving" 565 308),(315,kD "is_reach" 608 609 610 169 1 3 310 181 311 312 313 314 612 169 613),(316,kF "is_reach" 70 "notejar.giving" 565 315),(322,kD "is_given" 615 616 617 171 1 3 317 181 318 319 320 321 619 171 620),(323,kF "is_given" 71 "notejar.giving" 565 322),(329,kD "need_given" 622 623 624 175 1 3 324 181 325 326 327 328 626 175 627),(330,kF "need_given" 72 "notejar.giving" 565 329),(336,kD "is_written_moment" 629 630 631 178 1 3 331 181 332 333 334 335 633 178 634),(337,kF "is_written_moment" 73 "notejar.giving" 565 336),(343,kD "what_is_told" 636 637 638 180 1 3 338 181 339 340 341 342 643 180 644),(344,kF "what_is_told" 74 "notejar.giving" 565 343),(348,kC "read_given" 646 647 648 197 1 3 345 181 346 347 649 197 650),(349,kF "read_given" 75 "notejar.giving" 565 348),(355,kD "is_open" 676 677 678 222 2 3 350 181 351 352 353 354 681 222 682),(356,kF "is_open" 88 "notejar.notes" 652 355),(362,kD "is_exact" 684 685 686 224 3 3 357 181 358 359 360 361 691 224 692),(363,kF "is_exact" 89 "notejar.notes" 652 362),(369,kD "keeps_its_mark" 694 695 696 229 3 3 364 181 365 366 367 368 701 229 702),(370,kF "keeps_its_mark" 90 "notejar.notes" 652 369),(376,kD "why_refused" 704 705 706 236 3 3 371 181 372 373 374 375 711 236 712),(377,kF "why_refused" 91 "notejar.notes" 652 376),(383,kD "is_note" 714 715 716 252 1 3 378 181 379 380 381 382 718 252 719),(384,kF "is_note" 92 "notejar.notes" 652 383),(390,kD "house_for" 721 722 723 258 2 3 385 181 386 387 388 389 726 258 727)]
noncomputable def KKb(P:Z9):Frag:=[(391,kF "house_for" 93 "notejar.notes" 652 390),(397,kD "path_for" 729 730 731 262 2 3 392 181 393 394 395 396 734 262 735),(398,kF "path_for" 94 "notejar.notes" 652 397),(404,kD "end_for" 737 738 739 266 2 3 399 181 400 401 402 403 742 266 743),(405,kF "end_for" 95 "notejar.notes" 652 404),(411,kD "made" 745 746 747 270 4 3 406 181 407 408 409 410 752 270 753),(412,kF "made" 96 "notejar.notes" 652 411),(418,kD "key" 755 756 757 278 1 3 413 181 414 415 416 417 759 278 760),(419,kF "key" 97 "notejar.notes" 652 418),(425,kD "has_ended" 762 763 764 280 2 3 420 181 421 422 423 424 767 280 768),(426,kF "has_ended" 98 "notejar.notes" 652 425),(430,kC "is_jar" 774 775 776 284 1 3 427 181 428 429 777 284 778),(431,kF "is_jar" 101 "notejar.jars" 770 430),(435,kC "is_by_made" 780 781 782 290 1 3 432 181 433 434 783 290 784),(436,kF "is_by_made" 102 "notejar.jars" 770 435),(440,kC "has_no_key_twice" 786 787 788 292 1 3 437 181 438 439 789 292 790),(441,kF "has_no_key_twice" 103 "notejar.jars" 770 440),(447,kD "need_jar" 792 793 794 295 1 3 442 181 443 444 445 446 796 295 797),(448,kF "need_jar" 104 "notejar.jars" 770 447),(454,kD "need_no_more_than_a_jar_has" 799 800 801 298 1 3 449 181 450 451 452 453 803 298 804),(455,kF "need_no_more_than_a_jar_has" 105 "notejar.jars" 770 454),(461,kD "swept" 806 807 808 301 2 3 456 181 457 458 459 460 811 301 812),(462,kF "swept" 106 "notejar.jars" 770 461),(466,kC "without_ended" 814 815 816 305 2 3 463 181 464 465 817 305 818),(467,kF "without_ended" 107 "notejar.jars" 770 466),(471,kC "forgotten" 820 821 822 307 2 3 468 181 469 470 823 307 824),(472,kF "forgotten" 108 "notejar.jars" 770 471),(476,kC "put" 826 827 828 311 2 3 473 181 474 475 829 311 830),(477,kF "put" 109 "notejar.jars" 770 476),(483,kD "read_what_is_given" 832 833 834 317 5 3 478 181 479 480 481 482 841 317 842),(484,kF "read_what_is_given" 110 "notejar.jars" 770 483),(490,kD "verdict" 844 845 846 324 5 3 485 181 486 487 488 489 853 324 854),(491,kF "verdict" 111 "notejar.jars" 770 490),(495,kC "word_of" 856 857 858 327 5 3 492 181 493 494 859 327 860),(496,kF "word_of" 112 "notejar.jars" 770 495),(502,kD "shadows" 862 863 864 337 3 3 497 181 498 499 500 501 868 337 869),(503,kF "shadows" 113 "notejar.jars" 770 502),(507,kC "taken" 871 872 873 343 5 3 504 181 505 506 874 343 875),(508,kF "taken" 114 "notejar.jars" 770 507),(512,kC "take_in" 877 878 879 350 5 3 509 181 510 511 880 350 881),(513,kF "take_in" 115 "notejar.jars" 770 512),(519,kD "merged" 885 886 887 360 2 3 514 181 515 516 517 518 893 360 894),(520,kF "merged" 117 "notejar.comparing" 883 519),(526,kD "place_of" 896 897 898 371 1 3 521 181 522 523 524 525 900 371 901),(527,kF "place_of" 118 "notejar.comparing" 883 526),(533,kD "later_of" 903 904 905 373 2 3 528 181 529 530 531 532 908 373 909),(534,kF "later_of" 119 "notejar.comparing" 883 533),(540,kD "when_last" 911 912 913 377 1 3 535 181 536 537 538 539 915 377 916),(541,kF "when_last" 120 "notejar.comparing" 883 540),(554,UU (rl "code") U (UY #[kS "__init__" 932,kS "Desk.__init__" 933,kS "/claim/cut.py" 934,kI 382 0,kI 2 0,kI 0 0,kI 0 0,kI 3 0,kR 549,S_ L,kI 181 0,kR 550,J_,kR 551,kR 552,kR 553,kI 937 0,kI 382 0,kS "/claim/cut.py" 938]) #[]),(555,kM "__init__" "Desk.__init__" 122 0 "notejar.desks" 918 554),(561,UU (rl "code") U (UY #[kS "notes" 940,kS "Desk.notes" 941,kS "/claim/cut.py" 942,kI 389 0,kI 1 0,kI 0 0,kI 0 0,kI 3 0,kR 556,S_ L,kI 181 0,kR 557,J_,kR 558,kR 559,kR 560,kI 944 0,kI 389 0,kS "/claim/cut.py" 945]) #[]),(562,kM "notes" "Desk.notes" 122 1 "notejar.desks" 918 561),(568,UU (rl "code") U (UY #[kS "do_step" 947,kS "Desk.do_step" 948,kS "/claim/cut.py" 949,kI 392 0,kI 3 0,kI 0 0,kI 0 0,kI 3 0,kR 563,S_ L,kI 181 0,kR 564,J_,kR 565,kR 566,kR 567,kI 953 0,kI 392 0,kS "/claim/cut.py" 954]) #[]),(569,kM "do_step" "Desk.do_step" 122 2 "notejar.desks" 918 568),(575,UU (rl "code") U (UY #[kS "give" 956,kS "Desk.give" 957,kS "/claim/cut.py" 958,kI 397 0,kI 4 0,kI 0 0,kI 0 0,kI 3 0,kR 570,S_ L,kI 181 0,kR 571,J_,kR 572,kR 573,kR 574,kI 965 0,kI 397 0,kS "/claim/cut.py" 966]) #[]),(576,kM "give" "Desk.give" 122 3 "notejar.desks" 918 575),(582,UU (rl "code") U (UY #[kS "sweep" 968,kS "Desk.sweep" 969,kS "/claim/cut.py" 970,kI 403 0,kI 2 0,kI 0 0,kI 0 0,kI 3 0,kR 577,S_ L,kI 181 0,kR 578,J_,kR 579,kR 580,kR 581,kI 973 0,kI 403 0,kS "/claim/cut.py" 974]) #[]),(583,kM "sweep" "Desk.sweep" 122 4 "notejar.desks" 918 582),(589,UU (rl "code") U (UY #[kS "forget" 976,kS "Desk.forget" 977,kS "/claim/cut.py" 978,kI 406 0,kI 2 0,kI 0 0,kI 0 0,kI 3 0,kR 584,S_ L,kI 181 0,kR 585,J_,kR 586,kR 587,kR 588,kI 981 0,kI 406 0,kS "/claim/cut.py" 982]) #[]),(590,kM "forget" "Desk.forget" 122 5 "notejar.desks" 918 589),(596,UU (rl "code") U (UY #[kS "do_and_count" 984,kS "Desk.do_and_count" 985,kS "/claim/cut.py" 986,kI 409 0,kI 3 0,kI 0 0,kI 0 0,kI 3 0,kR 591,S_ L,kI 181 0,kR 592,J_,kR 593,kR 594,kR 595,kI 991 0,kI 409 0,kS "/claim/cut.py" 992]) #[]),(597,kM "do_and_count" "Desk.do_and_count" 122 6 "notejar.desks" 918 596),(603,UU (rl "code") U (UY #[kS "merge" 994,kS "Desk.merge" 995,kS "/claim/cut.py" 996,kI 414 0,kI 2 0,kI 0 0,kI 0 0,kI 3 0,kR 598,S_ L,kI 181 0,kR 599,J_,kR 600,kR 601,kR 602,kI 1000 0,kI 414 0,kS "/claim/cut.py" 1001]) #[]),(604,kM "merge" "Desk.merge" 122 7 "notejar.desks" 918 603),(610,UU (rl "code") U (UY #[kS "back" 1003,kS "Desk.back" 1004,kS "/claim/cut.py" 1005,kI 419 0,kI 1 0,kI 0 0,kI 0 0,kI 3 0,kR 605,S_ L,kI 181 0,kR 606,J_,kR 607,kR 608,kR 609,kI 1007 0,kI 419 0,kS "/claim/cut.py" 1008]) #[]),(611,kM "back" "Desk.back" 122 8 "notejar.desks" 918 610),(617,UU (rl "code") U (UY #[kS "forth" 1010,kS "Desk.forth" 1011,kS "/claim/cut.py" 1012,kI 422 0,kI 1 0,kI 0 0,kI 0 0,kI 3 0,kR 612,S_ L,kI 181 0,kR 613,J_,kR 614,kR 615,kR 616,kI 1014 0,kI 422 0,kS "/claim/cut.py" 1015]) #[]),(618,kM "forth" "Desk.forth" 122 9 "notejar.desks" 918 617),(624,UU (rl "code") U (UY #[kS "move" 1017,kS "Desk.move" 1018,kS "/claim/cut.py" 1019,kI 425 0,kI 3 0,kI 0 0,kI 0 0,kI 3 0,kR 619,S_ L,kI 181 0,kR 620,J_,kR 621,kR 622,kR 623,kI 1024 0,kI 425 0,kS "/claim/cut.py" 1025]) #[]),(625,kM "move" "Desk.move" 122 10 "notejar.desks" 918 624),(631,UU (rl "code") U (UY #[kS "steps" 1027,kS "Desk.steps" 1028,kS "/claim/cut.py" 1029,kI 433 0,kI 1 0,kI 0 0,kI 0 0,kI 3 0,kR 626,S_ L,kI 181 0,kR 627,J_,kR 628,kR 629,kR 630,kI 1031 0,kI 433 0,kS "/claim/cut.py" 1032]) #[]),(632,kM "steps" "Desk.steps" 122 11 "notejar.desks" 918 631),(638,UU (rl "code") U (UY #[kS "twin" 1034,kS "Desk.twin" 1035,kS "/claim/cut.py" 1036,kI 436 0,kI 1 0,kI 0 0,kI 0 0,kI 3 0,kR 633,S_ L,kI 181 0,kR 634,J_,kR 635,kR 636,kR 637,kI 1038 0,kI 436 0,kS "/claim/cut.py" 1039]) #[]),(641,UU (rl "dict") U (VX #[kE P "__module__" 927 (kS "notejar.desks" 918),kE P "__firstlineno__" 931 (kI 380 930),kE P "__init__" 939 (kR 555),kE P "notes" 946 (kR 562),kE P "do_step" 955 (kR 569),kE P "give" 967 (kR 576),kE P "sweep" 975 (kR 583),kE P "forget" 983 (kR 590),kE P "do_and_count" 993 (kR 597),kE P "merge" 1002 (kR 604),kE P "back" 1009 (kR 611),kE P "forth" 1016 (kR 618),kE P "move" 1026 (kR 625),kE P "steps" 1033 (kR 632),kE P "twin" 1040 (kR 639),kE P "__static_attributes__" 1045 (kR 640),kE P "__dict__" 1047 (kR 643),kE P "__weakref__" 1049 (kR 644),kE P "__doc__" 1050 J_] 4) #[]),(642,UU (rl "type") U (XH (UP (b_ "Desk") [rl "object"] [kR 642,rl "object"] 641 (b_ "Desk") L [] [] D U D)) #[U,U,Z (kS "Desk" 920),Z (kS "Desk" 928),Z (Vf "object.__new__"),Z (S_ L)]),(652,kD "_law_cell" 1055 1056 1057 439 2 3 647 181 648 649 650 651 1060 439 1061),(653,ť "_law_cell" 124 652),(659,kD "_law_drawn" 1063 1064 1065 443 3 3 654 181 655 656 657 658 1070 443 1071),(660,ť "_law_drawn" 125 659),(666,kD "_law_name" 1073 1074 1075 447 2 3 661 181 662 663 664 665 1079 447 1080),(667,ť "_law_name" 126 666),(671,kC "_law_table" 1082 1083 1084 451 2 3 668 181 669 670 1085 451 1086),(672,ť "_law_table" 127 671),(678,kD "_law_path" 1088 1089 1090 454 2 3 673 181 674 675 676 677 1094 454 1095),(679,ť "_law_path" 128 678),(685,kD "_law_ask" 1097 1098 1099 457 2 3 680 181 681 682 683 684 1103 457 1104),(686,ť "_law_ask" 129 685),(690,kC "_law_jar" 1106 1107 1108 460 3 3 687 181 688 689 1109 460 1110),(691,ť "_law_jar" 130 690),(697,kD "_law_given" 1112 1113 1114 478 3 3 692 181 693 694 695 696 1126 478 1127),(698,ť "_law_given" 131 697),(704,kD "_law_text" 1129 1130 1131 489 1 3 699 181 700 701 702 703 1144 489 1145),(705,ť "_law_text" 132 704),(711,kD "_law_step" 1147 1148 1149 497 4 3 706 181 707 708 709 710 1159 497 1160),(712,ť "_law_step" 133 711),(716,kC "law" 1162 1163 1164 513 1 3 713 181 714 715 1165 513 1166),(717,ť "law" 134 716)]
noncomputable def KK(P:Z9):Frag:=KKa P++KKb P
noncomputable def KAa:List O:=[2,3,20,30,31,43,44,55,56,67,68,79,80,91,92,103,104,115,116,127,128,134,135,141,142,148,149,155,156,160,161,167,168,172,173,179,180,186,187,193,194,198,199,205,206,212,213,219,220,226,227,233,234,240,241,247,248,254,255,261,262,268,269,275,276,282,283,289,290,296,297,303,304,308,309,315,316,322,323,329,330,336,337,343,344,348,349,355,356,362,363,369,370,376,377,383,384,390]
noncomputable def KAb:List O:=[391,397,398,404,405,411,412,418,419,425,426,430,431,435,436,440,441,447,448,454,455,461,462,466,467,471,472,476,477,483,484,490,491,495,496,502,503,507,508,512,513,519,520,526,527,533,534,540,541,554,555,561,562,568,569,575,576,582,583,589,590,596,597,603,604,610,611,617,618,624,625,631,632,638,641,642,652,653,659,660,666,667,671,672,678,679,685,686,690,691,697,698,704,705,711,712,716,717]
noncomputable def KA:List O:=KAa++KAb
theorem KA_ok(P:Z9):KA=(KK P).map (·.1):=by lk
noncomputable def VQ:n_:=view p9_ [134]
theorem hbr:r9_.row.prog.bare:=⟨rfl,rfl,rfl,rfl,rfl,by decide+kernel⟩
theorem slo:PySem.W.looksOpen r9_.row.prog=L:=by lk
set_option maxRecDepth 100000 in
theorem sd1:r9_.row.wellSaid=L:=by unfold PySem.W.OpenRow.wellSaid PySem.W.OpenRow.partSaid;rw[slo];lk
set_option maxRecDepth 100000 in
theorem sd:r9_.wellSaid=L:=by unfold PySem.W.OpenLaw.wellSaid;rw[sd1];lk
theorem hld(h:r9_.row.wellSaid=L->r9_.row.Holds):r9_.Holds:=PySem.W.holds_law sd h
noncomputable def VL:List Str:=(["_wall","JarError","NoName","NoTable","NoPath","NoAsk","NoNote","NoJar","NoNumber","NoStep","is_text_of","is_whole_number","is_tuple_of","FIGURES","LABEL_SIGNS","LONGEST_LABEL","MOST_LABELS","MOST_RULES","is_label","is_name","is_rule","is_table","need_name","need_table","lies_within","ends_longest_first","behind_first_dot","is_told_open","find_open_end","find_own_end","PATH_SIGNS","LONGEST_PATH","is_path","need_path","folder","lies_under","LAST_MOMENT","ASK_SAFE","ASK_HOUSE","ASK_PATH","ASK_ORIGIN","ASK_PARTS","is_moment","is_moment_or_none","need_moment","is_ask","need_ask","comes_from_near","NOTE_NAME_SIGNS","LONGEST_NOTE_NAME","NO_WORTH_SIGNS","LONGEST_WORTH","MOST_FIGURES","GIVEN_NAME","GIVEN_WORTH","GIVEN_HOUSE","GIVEN_PATH","GIVEN_UNTIL","GIVEN_LASTS","GIVEN_SAFE","GIVEN_REACH","GIVEN_PARTS","is_note_name","is_worth","is_reach","is_given","need_given","is_written_moment","what_is_told","read_given","NOTE_NAME","NOTE_WORTH","NOTE_HOUSE","NOTE_EXACT","NOTE_PATH","NOTE_ENDS","NOTE_SAFE","NOTE_REACH","NOTE_MADE","NOTE_USED","NOTE_PARTS","is_open","is_exact","keeps_its_mark","why_refused","is_note","house_for","path_for","end_for","made","key","has_ended","MOST_NOTES","is_jar","is_by_made","has_no_key_twice","need_jar","need_no_more_than_a_jar_has","swept","without_ended","forgotten","put","read_what_is_given","verdict","word_of","shadows","taken","take_in","merged","place_of","later_of","when_last","Desk","_law_cell","_law_drawn","_law_name","_law_table","_law_path","_law_ask","_law_jar","_law_given","_law_text","_law_step"].map b_)
theorem Sj{e d:Type}{o:Option ε}{f:ε->e}{g:ε->d}{a:e}{b:d}(h:o.map f=Z a)(i:o.map g=Z b):o.map (λs=>(f s,g s))=Z (a,b):=by cases o with|none=>cases h|some x=>cases h;cases i;rfl
set_option maxRecDepth 100000 in
theorem OP(w:x_):(TR.openQ aag p9_ w 10466).map (openSeen VQ VL (ZM p9_.main.body) (λs=>recOk [] s) L)=Z (openGood VQ VL):=by lk
set_option maxRecDepth 100000 in
theorem JJ(w:x_):(TR.openQ aag p9_ w 10466).map (λs=>KAa.map s.heap.get?)=Z ((KKa w.params).map λp=>Z p.2):=by lk
set_option maxRecDepth 100000 in
theorem JK(w:x_):(TR.openQ aag p9_ w 10466).map (λs=>KAb.map s.heap.get?)=Z ((KKb w.params).map λp=>Z p.2):=by lk
theorem Bo{b a:Type}{o:Option ε}{f:ε->b->a}{A B:List b}{X Y:List a}(d:o.map (λs=>A.map (f s))=Z X)(e:o.map (λs=>B.map (f s))=Z Y):o.map (λs=>(A++B).map (f s))=Z (X++Y):=by cases o with|none=>cases d|some x=>cases d;cases e;simp
theorem OQ(w:x_):(TR.openQ aag p9_ w 10466).map (λs=>KA.map s.heap.get?)=Z ((KK w.params).map λp=>Z p.2):=by show(TR.openQ aag p9_ w 10466).map (λs=>(KAa++KAb).map s.heap.get?)=Z ((KKa w.params++KKb w.params).map λp=>Z p.2);rw[UH];exact Bo (f:=λs:ge=>s.heap.get?) (JJ w) (JK w)
theorem left:LeftO p9_ VQ VL (λs=>recOk [] s) (Hook.obs (abZ KK KA KA_ok)) (Hook.val (abZ KK KA KA_ok)) 10466:=λw=>TR.openQ_map (Sj (OP w) (OQ w))
end G
set_option Elab.async false
set_option linter.all false
set_option maxRecDepth 100000
noncomputable section
open PySem PySem.Spec PyProof.Rows
namespace L2
abbrev ô:=Sum Int Str
noncomputable def vT:ô->B->Bool|.inl k,v=>Value.isInt k v|.inr x,v=>Xc x v
noncomputable def Sk(w:x_):ô->Int|.inl k=>hashInt k|.inr x=>hashStr w x
theorem cj:∀{k:ô}{v:B},vT k v=L->(∃i t,k=X7 i/\v=Zg i t)\/(∃x t,k=YZ x/\v=Wh x t)|.inl i,v,h=>by obtain⟨t,e⟩:=Value.isInt_shape (k:=i) (v:=v) h;exact .inl ⟨i,t,rfl,e⟩|.inr x,v,h=>by obtain⟨t,e⟩:=aal (x:=x) (v:=v) h;exact .inr ⟨x,t,rfl,e⟩
theorem xj(i:Int)(t:Tok):vT (.inl i) (.int i t)=L:=by simp[vT,Value.isInt]
theorem xl(x:Str)(t:Tok):vT (.inr x) (.str x t)=L:=by simp[vT,Xc]
theorem JL(a b:Int):t_ ((X7 a:ô)=X7 b)=(a==b):=by
 by_cases e:a=b;·subst e;simp
 ·have h:¬(X7 a:ô)=X7 b:=λq=>e (Sum.inl.inj q);rw[decide_eq_false h];exact(beq_eq_false_iff_ne.mpr e).symm
theorem JM(a b:Str):t_ ((YZ a:ô)=YZ b)=t_ (a=b):=by
 by_cases e:a=b;·subst e;simp
 ·have h:¬(YZ a:ô)=YZ b:=λq=>e (Sum.inr.inj q);rw[decide_eq_false h,decide_eq_false e]
theorem JN(a:Int)(b:Str):t_ ((X7 a:ô)=YZ b)=D:=decide_eq_false (λq=>nomatch q)
theorem JO(a:Str)(b:Int):t_ ((YZ a:ô)=X7 b)=D:=decide_eq_false (λq=>nomatch q)
def dk(f:n_)(w:x_):PySem.KeyKind f w ô where
 is:=vT;hash:=Sk w;inj:=λv a b o m=>by
  rcases cj o with⟨i,t,rfl,rfl⟩|⟨x,t,rfl,rfl⟩
  · rcases cj m with⟨j,u,rfl,e⟩|⟨y,u,rfl,e⟩;·injection e with d _;rw[d]
    ·exact nomatch e
  · rcases cj m with⟨j,u,rfl,e⟩|⟨y,u,rfl,e⟩;·exact nomatch e
    ·injection e with d _;rw[d]
 byValue:=λk v h=>by rcases cj h with⟨i,t,rfl,rfl⟩|⟨x,t,rfl,rfl⟩<;>rfl
 pyHash:=λg h=>by
  rcases cj g with⟨i,t,rfl,rfl⟩|⟨x,t,rfl,rfl⟩;·exact wpAny_pyHash_int h
  ·exact wpAny_pyHash_str h
 eqBool:=λn g h=>by
  rcases cj n with⟨i,t,rfl,rfl⟩|⟨x,t,rfl,rfl⟩
  · rcases cj g with⟨j,u,rfl,rfl⟩|⟨y,u,rfl,rfl⟩;·rw[JL]at h;exact wpAny_eqBool_int h
    ·rw[JN]at h;exact aaF i t y u _ _ _ _ h
  · rcases cj g with⟨j,u,rfl,rfl⟩|⟨y,u,rfl,rfl⟩;·rw[JO]at h;exact aaE x t j u _ _ _ _ h
    ·rw[JM]at h;exact wpAny_eqBool_str h
 «strs»:=λk x t v h=>by
  rcases cj h with⟨i,u,rfl,e⟩|⟨y,u,rfl,e⟩;·exact nomatch e
  ·injection e with d _;subst d;cases v<;>rfl
theorem sI(a:n_)(w:x_)(i:Int)(t:Tok):(dk a w).is (.inl i) (.int i t)=L:=xj i t
theorem sJ(a:n_)(w:x_)(x:Str)(t:Tok):(dk a w).is (.inr x) (.str x t)=L:=xl x t
inductive V where|non|bl(b:Bool)|int(i:Int)|str(x:Str)|byt(b:Array UInt8)|flt(b:UInt64)|ref(a:O)|ty(n:String)deriving DecidableEq
def Ø:V->B->Prop|.non,u=>u=J_|.bl b,u=>u=S_ b|.int i,u=>∃t,u=Zg i t|.str x,u=>∃t,u=Wh x t|.byt b,u=>∃t,u=Value.bytes b t|.flt b,u=>∃t,u=abr b t|.ref a,u=>u=z_ a|.ty n,u=>u=rl n
abbrev Ñ:List V->List B->Prop:=abN Ø
variable{η:List V}{θ:List B}
theorem Ñ.length(r:Ñ η θ):η.length=θ.length:=Y9 r
theorem Ñ.get:∀{a:List V}{us:List B}{i:Nat}{x:V},Ñ a us->a[i]?=Z x->∃u,us[i]?=Z u/\Ø x u|_,_,_,_,.nil,e=>by simp at e|_,_,0,_,.cons r _,e=>by simp at e;subst e;exact⟨_,rfl,r⟩|_,_,i+1,x,.cons _ t,e=>by obtain⟨u,d,b⟩:=Ñ.get (i:=i) (x:=x) t (by simpa using e);exact⟨u,by simpa using d,b⟩
theorem Ñ.set{x:V}{u:B}(r:Ø x u):∀{a:List V}{us:List B}(i:Nat),Ñ a us->Ñ (a.set i x) (us.set i u)|_,_,_,.nil=>.nil|_,_,0,.cons _ t=>.cons r t|_,_,i+1,.cons q t=>.cons q (Ñ.set r i t)
theorem Ñ.append:∀{b a:List V}{us d:List B},Ñ b us->Ñ a d->Ñ (b++a) (us++d)|_,_,_,_,.nil,s=>s|_,_,_,_,.cons r t,s=>.cons r (Ñ.append t s)
theorem Ñ.take:∀{a:List V}{us:List B}(n:Nat),Ñ a us->Ñ (a.take n) (us.take n)|_,_,0,_=>.nil|_,_,_+1,.nil=>.nil|_,_,n+1,.cons r t=>.cons r (Ñ.take n t)
theorem Ñ.drop:∀{a:List V}{us:List B}(n:Nat),Ñ a us->Ñ (a.drop n) (us.drop n)|_,_,0,r=>r|_,_,_+1,.nil=>.nil|_,_,n+1,.cons _ t=>Ñ.drop n t
def Č:Option V->Option B->Prop|some v,Z u=>Ø v u|none,U=>True|_,_=>False
def KV:List (ε×V)->List (ε×B)->Prop:=abN λ(p:ε×V)(q:ε×B)=>p.1=q.1/\Ø p.2 q.2
noncomputable def kV:ô->V|.inl i=>.int i|.inr x=>.str x
inductive HO where|lst(xs:List V)|tup(xs:List V)|dK(kvs:List (ô×V))|dT(kvs:List (List ô×V))|set(S:Int->Bool)(n:Nat)|ins(C dx:O)(fs:List (Str×V))|own(x:O)|xd(fs:List (Str×V))|met(f x:O)|rng(lo hi:Int)|frz(o:Obj)(u:HO)|tbl(ps:Array B)|ext(φ:TC->Prop)
abbrev Hp:=O->Option HO
noncomputable def Þ(H:Hp)(a:O)(o:HO):Hp:=λb=>if b=a then Z o else H b
variable{h:Hp}{e:O}
theorem av{o:HO}:Þ h e o e=Z o:=by unfold Þ;rw[if_pos rfl]
variable{z:O}
theorem ax{o:HO}(a:z≠e):Þ h e o z=h z:=by unfold Þ;rw[if_neg a]
theorem xm{o u:HO}:Þ (Þ h e o) e u=Þ h e u:=by funext b;unfold Þ;split<;>rfl
theorem OR{o u:HO}(a:h e=Z o)(f:h z=Z u)(d:o≠u):e≠z:=by intro b;subst b;rw[a]at f;exact d (Ub f)
theorem aE{o:HO}(a:h e=Z o)(d:h z=U):e≠z:=by intro b;subst b;rw[a]at d;cases d
def å(P:n_)(w:x_)(H:Hp)(h:TC)(a:O):HO->Prop|.lst e=>e.length<=sizeLine/\∃(d:List B)(n:Nat),Ñ e d/\h.get? a=Z {cls:=.type "list",data:=.seq d.toArray n}|.tup e=>e.length<=sizeLine/\∃d:List B,Ñ e d/\X' h a d.toArray|.dK b=>b.length<=sizeLine/\(a==V8)=D/\∃i,KV b i/\h.DictOf (dk P w) a i|.dT b=>b.length<=sizeLine/\(a==V8)=D/\∃e:List (List ô×O×B),abN (λ(p:List ô×V)(q:List ô×O×B)=>p.1=q.1/\H q.2.1=Z (.tup (p.1.map kV))/\Ø p.2 q.2.2) b e/\∃o z N,h.get? a=Z o/\o.ExactDict/\o.data=.dict z N/\z.toList=e.map (entryOfKey (Ze (dk P w)))/\(e.map (·.1)).Nodup|.set S n=>h.SetOf (intKind P w) a S n|.ins C j fs=>H j=Z (.own a)/\fs.length<=1000/\j≠a/\h.get? a=Z (VC C j)/\∃g,h.Ns1 j g/\(∀f,Č (fs.lookup f) (g f))/\aaQ g (fs.map (·.1))|.own _=>∃o,h.get? a=Z o|.xd fs=>∃g,h.Ns1 a g/\∀f,Č (fs.lookup f) (g f)|.rng lo I=>∃t u v,h.get? a=Z {cls:=.type "range",data:=.fields #[.int lo t,.int I u,.int 1 v]}|.frz o u=>h.get? a=Z o/\å P w H h a u|.tbl E=>∃m:Array B,h.get? a=Z {cls:=.none,data:=.fields m}/\TriplesOk m.toList/\∀pos v,codeAmong pos m.toList=Z v->∃c r i q t A,v=.ref c/\H c=Z (.frz r (.ext λ_=>True))/\r.data=.fields i/\i[1]?=Z (.str q t)/\E[0]?=Z (.str q A)|.met f x=>h.get? a=Z (Y2 (.ref f) (.ref x))|.ext k=>k h/\(∃o,h.get? a=Z o)/\∀y s:TC,k y->(∀o,y.get? a=Z o->s.get? a=Z o)->k s
def ĉ(P:n_)(w:x_)(H:Hp)(h:TC):Prop:=∀a o,H a=Z o->å P w H h a o
variable{I:TC}
theorem å.lt{o:HO}(x:å s r h I e o):e<I.objs.size:=by cases o with|lst d=>obtain⟨_,_,_,_,a⟩:=x;exact y_ a|tup d=>obtain⟨_,_,_,p⟩:=x;exact p.lt|dK b=>obtain⟨_,_,_,_,o,_,_,a,_⟩:=x;exact y_ a|dT b=>obtain⟨_,_,_,_,o,_,_,a,_⟩:=x;exact y_ a|set S n=>obtain⟨o,_,_,_,a,_⟩:=x;exact y_ a|ins C m fs=>obtain⟨_,_,_,a,_⟩:=x;exact y_ a|own y=>obtain⟨_,a⟩:=x;exact y_ a|xd fs=>obtain⟨_,⟨_,_,_,a,_⟩,_⟩:=x;exact y_ a|rng lo k=>obtain⟨_,_,_,a⟩:=x;exact y_ a|frz j u=>obtain⟨a,_⟩:=x;exact y_ a|tbl i=>obtain⟨_,a,_⟩:=x;exact y_ a|met f y=>exact y_ (show I.get? e=Z _ from x)|ext g=>obtain⟨_,⟨_,a⟩,_⟩:=x;exact y_ a
theorem Paired.mapP{h g:Type}{F G:h->g->Prop}:∀{e:List h}{d:List g},abN F e d->(∀a b,F a b->G a b)->abN G e d|_,_,.nil,_=>.nil|_,_,.cons r t,f=>.cons (f _ _ r) (Paired.mapP t f)
variable{Β:Hp}
theorem å.stay{P:TC}{o:HO}(x:å s r h I e o)(k:∀b u,(b=e\/h b=Z (.own e))->I.get? b=Z u->P.get? b=Z u)(ho:∀b,h b=Z (.own e)->Β b=Z (.own e))(ht:∀b A,h b=Z (.tup A)->Β b=Z (.tup A))(hf:∀b o u,h b=Z (.frz o u)->Β b=Z (.frz o u):=by first|exactλ_ _ _ q=>q|(intro c _ _ q;rw[ax (aE q (by assumption))];exact q)):å s r Β P e o:=by induction o with|lst A=>obtain⟨z,w,n,g,a⟩:=x;exact⟨z,w,n,g,k _ _ (.inl rfl) a⟩|tup A=>obtain⟨z,w,g,i,a,c⟩:=x;exact⟨z,w,g,i,k _ _ (.inl rfl) a,c⟩|dK a'=>obtain⟨z,y,E,g,i,j,m,a,c⟩:=x;exact⟨z,y,E,g,i,j,m,k _ _ (.inl rfl) a,c⟩|dT a'=>obtain⟨z,y,A,g,i,j,m,a,c⟩:=x;exact⟨z,y,A,Paired.mapP g λp q z=>⟨z.1,ht _ _ z.2.1,z.2.2⟩,i,j,m,k _ _ (.inl rfl) a,c⟩|set S n=>obtain⟨i,j,m,t,a,c⟩:=x;exact⟨i,j,m,t,k _ _ (.inl rfl) a,c⟩|ins C dx fs=>obtain⟨d,z,ne,a,N,⟨H,j,m,e2,c⟩,g⟩:=x;exact⟨ho _ d,z,ne,k _ _ (.inl rfl) a,N,⟨H,j,m,k _ _ (.inr d) e2,c⟩,g⟩|own y=>obtain⟨i,a⟩:=x;exact⟨i,k _ _ (.inl rfl) a⟩|xd fs=>obtain⟨N,⟨H,j,m,a,c⟩,g⟩:=x;exact⟨N,⟨H,j,m,k _ _ (.inl rfl) a,c⟩,g⟩|rng lo hi=>obtain⟨t,u,v,a⟩:=x;exact⟨t,u,v,k _ _ (.inl rfl) a⟩|frz i u ih=>obtain⟨a,q⟩:=x;exact⟨k _ _ (.inl rfl) a,ih q⟩|tbl ps=>obtain⟨qs,a,tr,ch⟩:=x;exact⟨qs,k e _ (.inl rfl) a,tr,λpos v hv=>let⟨c,oc,E,q,t,t',e1,e2,g⟩:=ch pos v hv;⟨c,oc,E,q,t,t',e1,hf _ _ _ e2,g⟩⟩|met f y=>have a:I.get? e=Z (Y2 (.ref f) (.ref y)):=x;show P.get? e=Z (Y2 (.ref f) (.ref y));exact k e _ (.inl rfl) a|ext φ=>obtain⟨p,⟨o,a⟩,st⟩:=x;exact⟨st _ _ p λo q=>k _ _ (.inl rfl) q,⟨o,k _ _ (.inl rfl) a⟩,st⟩
theorem ĉ.lt{P:n_}{w:x_}{H:Hp}{h:TC}{a:O}{o:HO}(x:ĉ P w H h)(e:H a=Z o):a<h.objs.size:=(x a o e).lt
theorem ĉ.fresh(x:ĉ s r h I)(a:I.objs.size<=e):h e=U:=by cases q:h e with|none=>rfl|some u=>exact absurd (TJ (x.lt q) a) (U1 _)
theorem ĉ.kept{h':TC}(x:ĉ s r h I)(k:∀b u,I.get? b=Z u->h'.get? b=Z u):ĉ s r h h':=λa o e=>(x a o e).stay (λb u _ q=>k b u q) (λ_ q=>q) λ_ _ q=>q
theorem ĉ.laid{h':TC}{a:O}{o:HO}(x:ĉ s r h I)(k:∀b u,I.get? b=Z u->h'.get? b=Z u)(i:I.objs.size<=a)(d:å s r (Þ h a o) h' a o):ĉ s r (Þ h a o) h':=λb u e=>by
 have f:=x.fresh i;by_cases g:b=a;·subst g;rw[av]at e;cases e;exact d
 ·rw[ax g]at e;exact(x b u e).stay (λc v _ q=>k c v q) (λc q=>by rw[ax (aE q f)];exact q) λc j q=>by rw[ax (aE q f)];exact q
def Rd(H:Hp)(a:O)(u:HO):Prop:=H a=Z u\/∃o,H a=Z (.frz o u)
theorem Rd.ok{u:HO}(a:Rd h e u)(x:ĉ s r h I):å s r h I e u:=by
 rcases a with a|⟨o,a⟩;·exact x e u a
 ·obtain⟨_,q⟩:=x e _ a;exact q
def Mut:Option HO->Prop|some (.lst _)=>True|some (.dK _)=>True|some (.dT _)=>True|some (.set _ _)=>True|some (.ins _ _ _)=>True|some (.ext _)=>True|_=>False
theorem ĉ.write{h':TC}{x e:O}{o:HO}(H:ĉ s r h I)(g:Mut (h x))(E:e=x\/h e=Z (.own x))(k:∀b u,b≠e->I.get? b=Z u->h'.get? b=Z u)(w:∃u,h'.get? e=Z u)(p:å s r (Þ h x o) h' x o):ĉ s r (Þ h x o) h':=λb u q=>by
 have f:∀c y,h c=Z (.own y)->c≠x:=λc y a z=>by subst z;rw[a]at g;exact g
 have i:∀c j,h c=Z (.tup j)->c≠x:=λc j a z=>by subst z;rw[a]at g;exact g
 by_cases n:b=x;·subst n;rw[av]at q;cases q;exact p
 · rw[ax n]at q;by_cases d:b=e
   · have A:h b=Z (.own x):=by
      rcases E with z|z;·exact absurd (d.trans z) n
      ·rw[d];exact z
     rw[q]at A;cases A;obtain⟨v,N⟩:=w;exact⟨v,by rw[d];exact N⟩
   · refine(H b u q).stay (λc v m a=>k c v ?_ a) (λc a=>by rw[ax (f c b a)];exact a) (λc j a=>by rw[ax (i c j a)];exact a) λc _ _ a=>by rw[ax (λz=>by subst z;rw[a]at g;exact g)];exact a
     rcases m with rfl|m;·exact d
     · rintro rfl;rcases E with z|z;·exact f c b m z
       ·rw[m]at z;cases z;exact n rfl
structure Un(fs ex:List O)(H H':Hp)(h h':TC):Prop where
 keep:∀b o,h.get? b=Z o->H b=U->b∉fs->b∉ex->h'.get? b=Z o
 slot:∀b o,h.get? b=Z o->H b=U->b∈fs->b∉ex->∃sl,h'.get? b=Z {o with slots:=sl}free:∀b o,h.get? b=Z o->H b=U->b∉ex->H' b=U
 there:∀b o,h.get? b=Z o->b∉ex->∃o',h'.get? b=Z o'
 tups:∀b xs,H b=Z (.tup xs)->H' b=Z (.tup xs)frzs:∀b o u,H b=Z (.frz o u)->H' b=Z (.frz o u)tbls:∀b ps,H b=Z (.tbl ps)->∃more,H' b=Z (.tbl (ps++more))
variable{ο:List O}
theorem Un.any{g:List O}{f:TC}(u:Un ο g h Β I f){b:O}{a:Obj}(q:I.get? b=Z a)(n:h b=U)(d:b∉g):∃i,f.get? b=Z {a with slots:=i}:=by
 by_cases e:b∈ο;·exact u.slot b a q n e d
 ·exact⟨a.slots,u.keep b a q n e d⟩
theorem Un.kept{d:List O}{h':TC}(k:∀b u,I.get? b=Z u->h'.get? b=Z u):Un ο d h h I h':=⟨λb a q _ _ _=>k b a q,λb a q _ _ _=>⟨a.slots,k b a q⟩,λ_ _ _ n _=>n,λb a q _=>⟨a,k b a q⟩,λ_ _ q=>q,λ_ _ _ q=>q,λ_ e q=>⟨#[],by rw[q];simp⟩⟩
theorem Un.refl{a:List O}:Un ο a h h I I:=Un.kept λ_ _ q=>q
theorem Un.laid{g:List O}{h':TC}{a:O}{o:HO}(k:∀b u,I.get? b=Z u->h'.get? b=Z u)(f:I.objs.size<=a)(d:h a=U):Un ο g h (Þ h a o) I h' where
 keep:=λb u q _ _ _=>k b u q;slot:=λb u q _ _ _=>⟨u.slots,k b u q⟩;free:=λb u q n _=>by rw[ax (TY (TJ (y_ q) f))];exact n
 there:=λb u q _=>⟨u,k b u q⟩;tups:=λb e q=>by rw[ax (aE q d)];exact q
 frzs:=λb u e q=>by rw[ax (aE q d)];exact q
 tbls:=λb i q=>⟨#[],by rw[ax (aE q d),q];simp⟩
theorem Un.write{v:List O}{h':TC}{x e:O}{o:HO}(d:Mut (h x))(s:e=x\/h e=Z (.own x))(k:∀b u,b≠e->I.get? b=Z u->h'.get? b=Z u)(g:∃u,h'.get? e=Z u):Un ο v h (Þ h x o) I h':=by
 have i:∀b,h b=U->b≠x:=λb n z=>by subst z;rw[n]at d;exact d
 have j:∀b,h b=U->b≠e:=λb n z=>by
  subst z;rcases s with r|r;·exact i b n r
  ·rw[n]at r;cases r
 have f:∀b u,h b=Z u->¬Mut (Z u)->b≠x:=λb u q p z=>by subst z;rw[q]at d;exact p d
 refine⟨λb u q n _ _=>k b u (j b n) q,λb u q n _ _=>⟨u.slots,k b u (j b n) q⟩,λb u q n _=>by rw[ax (i b n)];exact n,λb u q _=>?_,λb m q=>by rw[ax (f b _ q λz=>z)];exact q,λb u m q=>by rw[ax (f b _ q λz=>z)];exact q,λb w q=>⟨#[],by rw[ax (f b _ q λz=>z),q];simp⟩⟩;by_cases a:b=e;·subst a;exact g
 ·exact⟨u,k b u a q⟩
noncomputable def trk(h:TC)(H:Hp):List O:=(p_ h.objs.size).filter λa=>(H a).isSome
def Bp(h:TC)(H:Hp):TC:=abv h (trk h H)
theorem xn(h:TC)(H:Hp):(Bp h H).objs.size=h.objs.size:=PySem.W.hideAll_size _ _
theorem Bq{o:Obj}(a:I.get? e=Z o)(n:h e=U):(Bp I h).get? e=Z o:=Ys _ a λb=>by have q:(h e).isSome=L:=(Ui.mp b).2;rw[n]at q;simp at q
theorem FL{o:Obj}(a:(Bp I h).get? e=Z o):I.get? e=Z o/\h e=U:=by have b:I.get? e=Z o:=Wu (trk I h) a;refine⟨b,?_⟩;cases q:h e with|none=>rfl|some x=>have d:e∈trk I h:=Ui.mpr ⟨TX.mpr (y_ b),by simp[q]⟩;have z:(Bp I h).get? e=U:=Ve (trk I h) d;rw[z]at a;cases a
noncomputable def FM(g h:TC)(b:O):List (O×Obj):=(p_ h.objs.size).filterMap λa=>if a=b\/(g.get? a).isSome=L then U else(h.get? a).map λo=>(a,o)
def rest(g h:TC)(a d:O):List (O×Obj):=(FM g h a).filter λp=>t_ (p.1≠d)
structure Mod(K:d_)(mg:Str->Option B)(base:TC):Prop where
 kin:K.In base
 glob:base.Ns B_ mg
 blt:∃mb,base.Ns YI mb/\∀x:Str,x≠"__name__"->mb x=Vb x
 nolimit:base.NoLimit
structure C where
 prog:n_
 w:x_
 K:d_
 mg:Str->Option B
 base:TC
 A:C_
 N:List Str
 s₀:ge
 H₀:Hp
 env:Env
 outer:List Env
 stack:List Env
 ex:List O
 fn:Str->Bool
 calm:Bool
 pn:List (O×Obj)xe:B->ge->Prop
noncomputable def frs(l:List Env):List O:=l.filterMap (·.frame)
abbrev C.fs(X:C):List O:=frs X.outer
def Vis(a:U_)(x:Str):Prop:=a.names.lookup x=Z .local\/a.names.lookup x=Z .cell\/a.names.lookup x=Z .free
def Ł(a:U_)(x:Str):Prop:=a.names.lookup x=Z .local\/a.names.lookup x=Z .cell
def Sl(a:Env)(h:TC)(m:Str->Option B)(x:Str)(u:B):Prop:=(a.kindOf x=Z .local/\m x=Z u)\/((a.kindOf x=Z .cell\/a.kindOf x=Z .free)/\∃c,a.cells.lookup x=Z c/\h.IsCell c (Z u))
structure C.Ok(X:C):Prop where
 mod:Mod X.K X.mg X.base
 kind:X.env.scope.kind=.function
 glob:X.env.globals=B_
 blt:X.env.builtins=YI
 above:X.s₀.heap.objs.size<=X.env.locals
 inj:∀x y c,X.env.cells.lookup x=Z c->X.env.cells.lookup y=Z c->x=y
 has:∀x,(X.env.kindOf x=Z .cell\/X.env.kindOf x=Z .free)->∃c,X.env.cells.lookup x=Z c
 cab:∀x c,X.fn x=L->X.env.cells.lookup x=Z c->X.s₀.heap.objs.size<=c
 hd:X.calm=L->X.A.handled=U
 frames:X.A.frames=Z X.stack
 stk:X.stack=X.outer\/(X.stack=X.env::X.outer/\X.env.frame=Z X.env.locals)exf:∀b∈X.ex,b≠X.env.locals/\∀x c,X.env.cells.lookup x=Z c->c≠b
 bs:∀b o,X.base.get? b=Z o->X.s₀.heap.get? b=Z o/\X.H₀ b=U
 bsz:X.base.objs.size<=X.s₀.heap.objs.size
 noex:∀b o,X.base.get? b=Z o->b∉X.ex
 exfs:∀b∈X.ex,b∉X.fs
 funs:X.s₀.heap.FunFrames X.base X.outer
 frf:∀b∈X.fs,X.H₀ b=U
structure Í(X:C)(f':List (O×Obj))(σ:List (Option V))(H:Hp)(s:ge):Prop where
 ok:X.Ok
 os:s.os=X.s₀.os
 bare:YA s.gens
 base:Un X.fs X.ex X.H₀ H X.s₀.heap s.heap
 loc:∃m,s.heap.Ns X.env.locals m/\∀(i:Nat)(x:Str)(v:V),X.N[i]?=Z x->σ[i]?=Z (Z v)->Vis X.env.scope x->∃u,Ø v u/\Sl X.env s.heap m x u
 cell:∀x c,X.env.cells.lookup x=Z c->∃v,s.heap.IsCell c v
 free:H X.env.locals=U
 freeC:∀x c,X.env.cells.lookup x=Z c->H c=U
 pin:∀p∈X.pn++f',s.heap.get? p.1=Z p.2/\H p.1=U/\p.1≠X.env.locals/\p.1∉X.fs/\∀v,p.2.data≠.cell v
 hok:ĉ X.prog X.w H s.heap
 len:σ.length=X.N.length
variable{a:C}
theorem C.Ok.nofr(d:a.Ok){b:O}{o:Obj}(e:a.base.get? b=Z o):b∉a.fs:=λf=>by have:=(d.funs.mem f).1;rw[e]at this;cases this
variable{P:List (O×Obj)}{Å:List (Option V)}
theorem Í.bs(I:Í a P Å h f):∀b o,a.base.get? b=Z o->f.heap.get? b=Z o/\h b=U:=λb o e=>⟨I.base.keep b o (I.ok.bs b o e).1 (I.ok.bs b o e).2 (I.ok.nofr e) (I.ok.noex b o e),I.base.free b o (I.ok.bs b o e).1 (I.ok.bs b o e).2 (I.ok.noex b o e)⟩
theorem Í.bk(I:Í a P Å h f):∀b o,a.base.get? b=Z o->f.heap.get? b=Z o:=λb o e=>(I.bs b o e).1
theorem Í.mod(I:Í a P Å h f):Mod a.K a.mg a.base:=I.ok.mod
theorem Í.kIn(I:Í a P Å h f):a.K.In f.heap:=I.ok.mod.kin.keeps I.bk
theorem Í.lt(I:Í a P Å h f):a.env.locals<f.heap.objs.size:=let⟨_,b,_⟩:=I.loc;b.lt
theorem Í.sz(I:Í a P Å h f):a.s₀.heap.objs.size<=f.heap.objs.size:=TU I.ok.above (YB I.lt)
theorem Í.nofs(I:Í a P Å h f){b:O}(d:f.heap.objs.size<=b):b∉a.fs:=λg=>by obtain⟨_,o,e,_⟩:=I.ok.funs.mem g;exact absurd (TJ (y_ e) (TU I.sz d)) (U1 _)
theorem Í.cne(I:Í a P Å h f):∀x c,a.env.cells.lookup x=Z c->c≠a.env.locals:=λx c e z=>by obtain⟨v,o,g,i⟩:=I.cell x c e;obtain⟨m,⟨j,k,n,b,d,_⟩,_⟩:=I.loc;rw[z,b]at g;cases g;rw[d]at i;cases i
theorem Í.funs(I:Í a P Å h f):f.heap.FunFrames a.base a.outer:=by
 have all:∀(l:List Env),(∀b∈frs l,b∈a.fs)->a.s₀.heap.FunFrames a.base l->f.heap.FunFrames a.base l:=by intro l;induction l with|nil=>intro _ _;trivial|cons w r m=>intro k s;obtain⟨u,⟨d,o,g,q,p,v⟩,n⟩:=s;have j:d∈a.fs:=k d (by unfold frs;rw[W_,g];exact q_);obtain⟨y,e⟩:=I.base.slot d o p (I.ok.frf d j) j λz=>I.ok.exfs d z j;exact⟨u,⟨d,_,g,q,e,v⟩,m (λb i=>k b (by unfold frs;rw[W_,g];exact r_ _ i)) n⟩
 exact all a.outer (λ_ i=>i) I.ok.funs
theorem Í.stack(I:Í a P Å h f):f.heap.FunFrames a.base a.stack:=by
 rcases I.ok.stk with e|⟨e,d⟩;·rw[e];exact I.funs
 ·rw[e];obtain⟨m,b,_⟩:=I.loc;refine .cons (by rw[I.ok.kind];decide) d b ?_ I.funs;exact Yb (TU I.ok.bsz I.ok.above)
theorem Í.stkSub(I:Í a P Å h f):∀b∈frs a.stack,b∈a.env.locals::a.fs:=λb d=>by
 rcases I.ok.stk with e|⟨e,g⟩;·rw[e]at d;exact r_ _ d
 ·rw[e]at d;unfold frs at d;rw[W_,g]at d;exact d
theorem Í.stkFree(I:Í a P Å h f):∀b∈frs a.stack,h b=U:=λb d=>by
 rcases uk.mp (I.stkSub b d)with e|d;·rw[e];exact I.free
 ·obtain⟨_,o,g,_⟩:=I.ok.funs.mem d;exact I.base.free b o g (I.ok.frf b d) λz=>I.ok.exfs b z d
theorem Í.step{g':Array abP}{t':Nat}{d':Drawn}{ch:List O}(g:Í a P Å h f)(y:∀b∈ch,(b∈a.ex\/a.s₀.heap.objs.size<=b)/\b≠a.env.locals/\(∀x c,a.env.cells.lookup x=Z c->c≠b)/\∀p∈a.pn++P,p.1≠b)(A:∀b o,b≠a.env.locals->b∉a.fs->b∉ch->f.heap.get? b=Z o->h b=U->I.get? b=Z o)(a':∀b o,b≠a.env.locals->b∈a.fs->b∉ch->f.heap.get? b=Z o->h b=U->∃sl,I.get? b=Z {o with slots:=sl})(s:∀b o,b∉ch->f.heap.get? b=Z o->h b=U->Β b=U)(b':∀b o,b∉ch->f.heap.get? b=Z o->∃o',I.get? b=Z o')(e':∀b xs,h b=Z (.tup xs)->Β b=Z (.tup xs))(l':∀b o u,h b=Z (.frz o u)->Β b=Z (.frz o u))(i':∀b ps,h b=Z (.tbl ps)->∃k',Β b=Z (.tbl (ps++k')))(ns:∀m,f.heap.Ns a.env.locals m->I.Ns a.env.locals m)(n':ĉ a.prog a.w Β I)(hg:YA g'):Í a P Å Β {f with heap:=I,gens:=g',drawn:=d',toks:=t'}:=by
 have c':∀b o,a.s₀.heap.get? b=Z o->b≠a.env.locals:=λb o e=>TY (TJ (y_ e) g.ok.above);have N:∀b o,a.s₀.heap.get? b=Z o->b∉a.ex->b∉ch:=λb o e j hb=>by
  rcases(y b hb).1 with z|z;·exact j z
  ·exact absurd (TJ (y_ e) z) (U1 _)
 have E:∀x c,a.env.cells.lookup x=Z c->∀v,f.heap.IsCell c v->I.IsCell c v:=λx c e v⟨o,ho,hd⟩=>by
  have w:c∉ch:=λz=>(y c z).2.2.1 x c e rfl;by_cases hc:c∈a.fs;·obtain⟨sl,q⟩:=a' c o (g.cne x c e) hc w ho (g.freeC x c e);exact⟨_,q,hd⟩
  ·exact⟨o,A c o (g.cne x c e) hc w ho (g.freeC x c e),hd⟩
 refine⟨g.ok,g.os,hg,⟨λb o e n hb j=>?_,λb o e n hb j=>?_,λb o e n j=>?_,λb o e j=>?_,λb xs e=>e' b xs (g.base.tups b xs e),λb o xs e=>l' b o xs (g.base.frzs b o xs e),λb ps e=>?_⟩,?_,λx c e=>?_,?_,λx c e=>?_,λp hp=>?_,n',g.len⟩;·exact A b o (c' b o e) hb (N b o e j) (g.base.keep b o e n hb j) (g.base.free b o e n j)
 ·obtain⟨sl,H⟩:=g.base.slot b o e n hb j;obtain⟨m',e2⟩:=a' b _ (c' b o e) hb (N b o e j) H (g.base.free b o e n j);exact⟨m',e2⟩
 ·obtain⟨o',H⟩:=g.base.there b o e j;exact s b o' (N b o e j) H (g.base.free b o e n j)
 ·obtain⟨o',H⟩:=g.base.there b o e j;exact b' b o' (N b o e j) H
 ·obtain⟨m1,H⟩:=g.base.tbls b ps e;obtain⟨m2,e2⟩:=i' b _ H;exact⟨m1++m2,by rw[e2,aaK]⟩
 · obtain⟨m,hn,hl⟩:=g.loc;refine⟨m,ns m hn,λi x v H e2 e3=>?_⟩;obtain⟨u,r,l⟩:=hl i x v H e2 e3;refine⟨u,r,?_⟩;rcases l with l|⟨k,c,e,z⟩;·exact .inl l
   ·exact .inr ⟨k,c,e,E x c e _ z⟩
 ·obtain⟨v,z⟩:=g.cell x c e;exact⟨v,E x c e v z⟩
 ·obtain⟨m,⟨o,_,_,ho,_⟩,_⟩:=g.loc;exact s _ o (λz=>(y _ z).2.1 rfl) ho g.free
 ·obtain⟨v,o,ho,hd⟩:=g.cell x c e;exact s c o (λz=>(y c z).2.2.1 x c e rfl) ho (g.freeC x c e)
 ·obtain⟨e,n,ne,nf,d⟩:=g.pin p hp;have w:p.1∉ch:=λz=>(y p.1 z).2.2.2 p hp rfl;exact⟨A p.1 p.2 ne nf w e n,s p.1 p.2 w e n,ne,nf,d⟩
theorem Í.un{h':TC}{t':Nat}(I:Í a P Å h f)(u:Un a.fs [] h Β f.heap h')(i:ĉ a.prog a.w Β h'):Í a P Å Β {f with heap:=h',toks:=t'}:=by obtain⟨m,⟨o,E,H,p,r⟩,_⟩:=id I.loc;obtain⟨w,v⟩:=u.any p I.free (by simp);exact I.step (g':=f.gens) (d':=f.drawn) (ch:=[]) (λ_ z=>nomatch z) (λb o _ g _ e n=>u.keep b o e n g (by simp)) (λb o _ g _ e n=>u.slot b o e n g (by simp)) (λb o _ e n=>u.free b o e n (by simp)) (λb o _ e=>u.there b o e (by simp)) u.tups u.frzs u.tbls (λA s=>by obtain⟨y,j,k,d,q⟩:=s;rw[p]at d;cases d;exact⟨_,j,k,v,q⟩) i I.bare
theorem Í.call{h':TC}{g':Array abP}{t':Nat}{d':Drawn}{ch:List O}(I:Í a P Å h f)(u:Un (frs a.stack) ch h Β f.heap h')(k:ĉ a.prog a.w Β h')(A:YA g')(i:∀b∈ch,(b∈a.ex\/a.s₀.heap.objs.size<=b)/\b≠a.env.locals/\(∀x c,a.env.cells.lookup x=Z c->c≠b)/\∀p∈a.pn++P,p.1≠b):Í a P Å Β {f with heap:=h',gens:=g',drawn:=d',toks:=t'}:=by obtain⟨m,⟨o,es,ep,v,r⟩,_⟩:=id I.loc;obtain⟨H,j⟩:=u.any v I.free λz=>(i _ z).2.1 rfl;exact I.step (ch:=ch) i (λb o j E d e n=>u.keep b o e n (λz=>(uk.mp (I.stkSub b z)).elim j E) d) (λb o _ _ d e n=>u.any e n d) (λb o d e n=>u.free b o e n d) (λb o d e=>u.there b o e d) u.tups u.frzs u.tbls (λm' y=>by obtain⟨N,q,s,g,w⟩:=y;rw[v]at g;cases g;exact⟨_,q,s,j,w⟩) k A
theorem Í.turned{h':TC}{t':Nat}{it:O}(I:Í a P Å h f)(k:∀b o,b≠it->f.heap.get? b=Z o->h'.get? b=Z o)(s:h it=U)(i:it≠a.env.locals)(H:it∈a.ex\/a.s₀.heap.objs.size<=it)(E:∀x c,a.env.cells.lookup x=Z c->c≠it)(A:∀p∈a.pn++P,p.1≠it):Í a P Å h {f with heap:=h',toks:=t'}:=by
 have g:∀b u,h b=Z u->b≠it:=λb u e z=>by rw[z,s]at e;cases e
 refine I.step (g':=f.gens) (d':=f.drawn) (ch:=[it]) (λb y=>?_) (λb o _ _ d e _=>k b o (λz=>d (by simp[z])) e) (λb o _ _ d e _=>⟨o.slots,k b o (λz=>d (by simp[z])) e⟩) (λ_ _ _ _ n=>n) (λb o d e=>⟨o,k b o (λz=>d (by simp[z])) e⟩) (λ_ _ e=>e) (λ_ _ _ e=>e) (λb ps e=>⟨#[],by rw[e];simp⟩) (λm w=>?_) (λb u e=>?_) I.bare
 · have e:b=it:=by simpa using y
   subst e;exact⟨H,i,E,A⟩
 ·obtain⟨o,N,ep,j,r⟩:=w;exact⟨o,N,ep,k _ o (Uq i) j,r⟩
 · refine(I.hok b u e).stay (λc v d q=>k c v ?_ q) (λ_ q=>q) λ_ _ q=>q;rcases d with z|z;·rw[z];exact g b u e
   ·exact g c _ z
theorem Í.tok(I:Í a P Å h f)(t:Nat):Í a P Å h {f with toks:=t}:=I.un (h':=f.heap) (t':=t) Un.refl I.hok
theorem Í.kept{h':TC}{t':Nat}(I:Í a P Å h f)(k:∀b u,f.heap.get? b=Z u->h'.get? b=Z u):Í a P Å h {f with heap:=h',toks:=t'}:=I.un (Un.kept k) (I.hok.kept k)
theorem Í.laid{X:C}{g:List (O×Obj)}{f:List (Option V)}{H:Hp}{s:ge}{h':TC}{a:O}{o:HO}{t':Nat}(I:Í X g f H s)(k:∀b u,s.heap.get? b=Z u->h'.get? b=Z u)(d:s.heap.objs.size<=a)(e:å X.prog X.w (Þ H a o) h' a o):Í X g f (Þ H a o) {s with heap:=h',toks:=t'}:=I.un (Un.laid k d (I.hok.fresh d)) (I.hok.laid k d e)
theorem Í.write{h':TC}{x e:O}{o:HO}{t':Nat}(I:Í a P Å h f)(i:Mut (h x))(j:e=x\/h e=Z (.own x))(k:∀b u,b≠e->f.heap.get? b=Z u->h'.get? b=Z u)(d:∃u,h'.get? e=Z u)(g:å a.prog a.w (Þ h x o) h' x o):Í a P Å (Þ h x o) {f with heap:=h',toks:=t'}:=I.un (Un.write i j k d) (I.hok.write i j k d g)
theorem Í.pins_of{pins':List (O×Obj)}(I:Í a P Å h f)(b:∀p∈pins',f.heap.get? p.1=Z p.2/\h p.1=U/\p.1≠a.env.locals/\p.1∉a.fs/\∀v,p.2.data≠.cell v):Í a pins' Å h f:=⟨I.ok,I.os,I.bare,I.base,I.loc,I.cell,I.free,I.freeC,λp d=>(TH.mp d).elim (λz=>I.pin p (O_ _ z)) (b p),I.hok,I.len⟩
variable{A:List Str}
theorem uC(d:A.Nodup){i j:Nat}{x:Str}(a:A[i]?=Z x)(b:A[j]?=Z x):i=j:=by obtain⟨h,f⟩:=G_.mp a;obtain⟨g,e⟩:=G_.mp b;exact(abk d).mp (f.trans e.symm)
variable{Æ:WO}{N:C_}{χ:B->ge->Prop}{d:Str}{ψ:V}{ω:B}
theorem xo{Q:Unit->ge->Prop}(I:Í a P Å h f)(hN:a.N.Nodup)(hi:a.N[b]?=Z d)(H:Ł a.env.scope d)(r:Ø ψ ω)(u:∀s',Í a P (Å.set b (Z ψ)) h s'->(∃i,V2 i f.heap s'.heap/\(i=a.env.locals\/a.env.cells.lookup d=Z i))->Q () s')(hf:a.fn d=L\/a.env.scope.names.lookup d=Z .local:=by first|exact .inl rfl|exact .inr rfl|assumption):u_ Æ N (storeName a.env d ω) Q χ f:=by
 obtain⟨m,hn,hl⟩:=id I.loc;have l':(a.env.scope.kind==.class||(a.env.scope.kind==.module&&a.env.locals !=a.env.globals))=D:=by rw[I.ok.kind];rfl
 have b':b<Å.length:=by rw[I.len];exact(G_.mp hi).1
 have cne:=I.cne;have A:∀{i:O}{h':TC},(∃o,f.heap.get? i=Z o/\h i=U)->V2 i f.heap h'->ĉ a.prog a.w h h':=λ{i h'}ha v g ob e=>by
  obtain⟨_,_,a'⟩:=ha;refine(I.hok g ob e).stay (λc w' E q=>(v.2 c ?_).trans q) (λ_ q=>q) λ_ _ q=>q;rintro rfl;rcases E with rfl|E;·rw[a']at e;cases e
  ·rw[a']at E;cases E
 rcases H with hk|hk
 · refine wpAny_storeName_local hk hn (λh' n' v=>?_) l';obtain⟨oL,_,_,m',_⟩:=id hn;refine u _ ⟨I.ok,I.os,I.bare,⟨λg o e n hb H=>?_,λg o e n hb H=>?_,I.base.free,λg o e H=>?_,I.base.tups,I.base.frzs,I.base.tbls⟩,⟨_,n',λj y v' w e2 e3=>?_⟩,λy c e=>?_,I.free,I.freeC,λp hp=>?_,A ⟨oL,m',I.free⟩ v,by simpa using I.len⟩ ⟨_,v,.inl rfl⟩;·exact(v.2 g (TY (TJ (y_ e) I.ok.above))).trans (I.base.keep g o e n hb H)
   ·obtain⟨sl,w⟩:=I.base.slot g o e n hb H;exact⟨sl,(v.2 g (TY (TJ (y_ e) I.ok.above))).trans w⟩
   ·obtain⟨o',w⟩:=I.base.there g o e H;exact⟨o',(v.2 g (TY (TJ (y_ e) I.ok.above))).trans w⟩
   · by_cases hj:j=b;·subst hj;rw[hi]at w;cases w;rw[w_ b']at e2;cases e2;exact⟨ω,r,.inl ⟨hk,by simp⟩⟩
     · rw[on (Uq hj)]at e2;obtain⟨u',r',q⟩:=hl j y v' w e2 e3;refine⟨u',r',?_⟩;rcases q with⟨k,e⟩|⟨k,c,e,z⟩;·refine .inl ⟨k,?_⟩;have:y≠d:=λe=>hj (uC hN w (e▸hi));simp[this,e]
       ·exact .inr ⟨k,c,e,z.sameBut v (cne y c e)⟩
   ·obtain⟨w',z⟩:=I.cell y c e;exact⟨w',z.sameBut v (cne y c e)⟩
   ·obtain⟨e,n,ne,nf,s⟩:=I.pin p hp;exact⟨(v.2 p.1 ne).trans e,n,ne,nf,s⟩
 · have d':a.fn d=L:=by
    rcases hf with z|z;·exact z
    ·rw[z]at hk;cases hk
   obtain⟨c,E⟩:=I.ok.has d (.inl hk);obtain⟨w',z⟩:=I.cell d c E;refine wpAny_storeName_cell I.ok.kind hk E z (λh' i' v=>?_);obtain⟨oc,e',k'⟩:=id z;refine u {f with heap:=h'} ⟨I.ok,I.os,I.bare,⟨λg o e n hb H=>?_,λg o e n hb H=>?_,I.base.free,λg o e H=>?_,I.base.tups,I.base.frzs,I.base.tbls⟩,⟨m,hn.sameBut v (Uq (cne d c E)),λj y v' w e2 e3=>?_⟩,λy c' e=>?_,I.free,I.freeC,λp hp=>?_,A ⟨oc,e',I.freeC d c E⟩ v,by simpa using I.len⟩ ⟨c,v,.inr E⟩;·exact(v.2 g (TY (TJ (y_ e) (I.ok.cab d c d' E)))).trans (I.base.keep g o e n hb H)
   ·obtain⟨sl,w⟩:=I.base.slot g o e n hb H;exact⟨sl,(v.2 g (TY (TJ (y_ e) (I.ok.cab d c d' E)))).trans w⟩
   ·obtain⟨o',w⟩:=I.base.there g o e H;exact⟨o',(v.2 g (TY (TJ (y_ e) (I.ok.cab d c d' E)))).trans w⟩
   · by_cases hj:j=b;·subst hj;rw[hi]at w;cases w;rw[w_ b']at e2;cases e2;exact⟨ω,r,.inr ⟨.inl hk,c,E,i'⟩⟩
     · rw[on (Uq hj)]at e2;obtain⟨u',r',q⟩:=hl j y v' w e2 e3;refine⟨u',r',?_⟩;rcases q with q|⟨k,c',e,z'⟩;·exact .inl q
       ·refine .inr ⟨k,c',e,z'.sameBut v ?_⟩;rintro rfl;exact hj (uC hN w (I.ok.inj _ _ _ e E▸hi))
   · by_cases g':c'=c;·subst g';exact⟨_,i'⟩
     ·obtain⟨w2,z2⟩:=I.cell y c' e;exact⟨w2,z2.sameBut v g'⟩
   ·obtain⟨e,n,ne,nf,s⟩:=I.pin p hp;refine⟨(v.2 p.1 ?_).trans e,n,ne,nf,s⟩;intro q;rw[q,e']at e;have q':oc=p.2:=Ub e;exact s w' (by rw[<-q'];exact k')
theorem uD{Q:Unit->ge->Prop}(I:Í a P Å h f)(m:a.N.Nodup)(j:a.N[b]?=Z d)(i:Ł a.env.scope d)(r:Ø ψ ω)(e:∀g,Í a P (Å.set b (Z ψ)) h g->Q () g)(k:a.fn d=L\/a.env.scope.names.lookup d=Z .local:=by first|exact .inl rfl|exact .inr rfl|assumption):u_ Æ N (storeName a.env d ω) Q χ f:=xo I m j i r (λg n _=>e g n) k
theorem Í.call'{s':ge}{ch:List O}(I:Í a P Å h f)(k:s'.os=f.os)(u:Un (frs a.stack) ch h Β f.heap s'.heap)(d:ĉ a.prog a.w Β s'.heap)(m:YA s'.gens)(g:∀b∈ch,(b∈a.ex\/a.s₀.heap.objs.size<=b)/\b≠a.env.locals/\(∀x c,a.env.cells.lookup x=Z c->c≠b)/\∀p∈a.pn++P,p.1≠b):Í a P Å Β s':=by obtain⟨q,n,o,i,j⟩:=s';have e:j=f.os:=k;subst e;exact I.call (g':=n) (t':=i) (d':=o) u d m g
abbrev XK:=B->Option O->Hp->Prop
abbrev St:=List (Option V)
abbrev VK:=V->Hp->Prop
abbrev TE:=St->Hp->VK->Prop
abbrev TT:=St->Hp->(Bool->Hp->Prop)->Prop
abbrev TA:=St->Hp->(List V->Hp->Prop)->Prop
structure uE where
 nx:St->Hp->Prop
 rt:VK
 bk:St->Hp->Prop:=λ_ _=>False
 ct:St->Hp->Prop:=λ_ _=>False
abbrev TS:=uE->St->Hp->Prop
def EP(X:C)(e:List (O×Obj))(b:St)(Q:VK)(u:B)(d:ge):Prop:=∃v a,Í X e b a d/\Ø v u/\Q v a
def TP(X:C)(f:List (O×Obj))(d:St)(Q:Bool->Hp->Prop)(b:Bool)(e:ge):Prop:=∃a,Í X f d a e/\Q b a
def AP(X:C)(g:List (O×Obj))(d:St)(Q:List V->Hp->Prop)(e:List B)(f:ge):Prop:=∃a b,Í X g d b f/\Ñ a e/\Q a b
def SP(X:C)(g:List (O×Obj))(a:uE)(f:Flow)(e:ge):Prop:=match f with|.next=>∃b d,Í X g b d e/\a.nx b d|.brk=>∃b d,Í X g b d e/\a.bk b d|.cont=>∃b d,Í X g b d e/\a.ct b d|.ret u=>∃v b d,Í X g b d e/\Ø v u/\a.rt v d
def PE(X:C)(e:s_)(t:TE):Prop:=∀(b:List (O×Obj))(s:ge)(a:St)(H:Hp)(Q:VK),Í X b a H s->t a H Q->u_ (D_ X.prog X.w) X.A (eval e X.env) (EP X b a Q) X.xe s
def PT(X:C)(e:s_)(t:TT):Prop:=∀(b:List (O×Obj))(s:ge)(a:St)(H:Hp)(Q:Bool->Hp->Prop),Í X b a H s->t a H Q->u_ (D_ X.prog X.w) X.A (isTrue e X.env (eval e X.env)) (TP X b a Q) X.xe s
def PW(X:C)(e:s_)(t:TT):Prop:=∀(û:Sem B)(b:List (O×Obj))(s:ge)(a:St)(H:Hp)(Q:Bool->Hp->Prop),Í X b a H s->t a H Q->u_ (D_ X.prog X.w) X.A (isTrue e X.env û) (TP X b a Q) X.xe s
def PA(X:C)(d:List s_)(t:TA):Prop:=∀(pos:Pos)(b:List (O×Obj))(s:ge)(a:St)(H:Hp)(Q:List V->Hp->Prop),Í X b a H s->t a H Q->u_ (D_ X.prog X.w) X.A (spliced (TW pos (k_ d X.env))) (AP X b a Q) X.xe s
def PS(X:C)(e:Us)(t:TS):Prop:=∀(d:List (O×Obj))(s:ge)(b:St)(H:Hp)(a:uE),Í X d b H s->t a b H->u_ (D_ X.prog X.w) X.A (exec e X.env) (SP X d a) X.xe s
def Ļ(X:C)(e:List Us)(t:TS):Prop:=∀(d:List (O×Obj))(s:ge)(b:St)(H:Hp)(a:uE),Í X d b H s->t a b H->u_ (D_ X.prog X.w) X.A (execs e X.env) (SP X d a) X.xe s
theorem ã{t:Sem ε}{Q b:ε->ge->Prop}(h:u_ Æ N t Q χ f)(d:∀a f,Q a f->b a f):u_ Æ N t b χ f:=Uj h d λ_ _ x=>x
noncomputable def xq(i:Nat):TE:=λa H Q=>∃v,a[i]?=Z (Z v)/\Q v H
noncomputable def tC(v:V):TE:=λ_ H Q=>Q v H
variable{m:Pos}
theorem xr(A:a.N[b]?=Z d)(q:Vis a.env.scope d)(k:(d==("__debug__":Str))=D:=by decide)(n:(d==("__classdict__":Str))=D:=by decide):PE a (.Name d m) (xq b):=by
 intro E s p H Q I h;obtain⟨v,e,h⟩:=h;obtain⟨f,w,z⟩:=I.loc;obtain⟨u,r,l⟩:=z b d v A e q;have j:EP a E p Q u s:=⟨v,H,I,r,h⟩;rcases l with⟨i,y⟩|⟨i,c,o,g⟩;·exact wpAny_Name (wpAny_loadName_local I.ok.kind i w y j) k
 · rcases i with i|i;·exact wpAny_Name (wpAny_loadName_cell I.ok.kind i o g j) k
   ·exact wpAny_Name (wpAny_loadName_free I.ok.kind i o g j n) k
theorem JP{i j b}:PE a (.Constant (.int i) j b) (tC (.int i)):=λ_ _ _ H _ I h=>wpAny_Constant_int ⟨.int i,H,I.tok _,⟨_,rfl⟩,h⟩
theorem OS{b j d}:PE a (.Constant (.bool b) j d) (tC (.bl b)):=λ_ _ _ H _ I h=>Constant_bool ⟨.bl b,H,I,rfl,h⟩
theorem JQ{j b}:PE a (.Constant .none j b) (tC .non):=λ_ _ _ H _ I h=>Constant_none ⟨.non,H,I,rfl,h⟩
theorem JR{x j b}:PE a (.Constant (.str x) j b) (tC (.str x)):=λ_ _ _ H _ I h=>Calls.Constant_str ⟨.str x,H,I.tok _,⟨_,rfl⟩,h⟩
def Gl(X:C)(x:Str):Prop:=X.env.kindOf x=Z .globalImplicit
variable{Φ:St}{Ç:B->ge->Prop}
theorem kA(I:Í a P Φ h f)(g:Gl a d)(e:a.mg d=Z ω)(b:Ç ω f)(i:(d==("__debug__":Str))=D:=by decide):u_ (D_ a.prog a.w) a.A (eval (.Name d m) a.env) Ç χ f:=YQ I.ok.kind g (Calls.loadGlobal_global (by rw[I.ok.glob];exact I.mod.glob.keeps I.bk) e b) i
theorem iP(I:Í a P Φ h f)(j:Gl a d)(i:a.mg d=U)(e:Vb d=Z ω)(b:Ç ω f)(g:d≠"__name__":=by decide)(k:(d==("__debug__":Str))=D:=by decide):u_ (D_ a.prog a.w) a.A (eval (.Name d m) a.env) Ç χ f:=by obtain⟨p,o,n⟩:=I.mod.blt;exact YQ I.ok.kind j (Calls.loadGlobal_builtin (by rw[I.ok.glob];exact I.mod.glob.keeps I.bk) i (by rw[I.ok.blt];exact o.keeps I.bk) ((n d g).trans e) b) k
theorem xt(e:Gl a d)(b:a.mg d=Z ω)(r:Ø ψ ω)(f:(d==("__debug__":Str))=D:=by decide):PE a (.Name d m) (tC ψ):=λ_ _ _ H _ I h=>kA I e b ⟨ψ,H,I,r,h⟩ f
theorem FN(g:Gl a d)(f:a.mg d=U)(b:Vb d=Z ω)(r:Ø ψ ω)(e:d≠"__name__":=by decide)(i:(d==("__debug__":Str))=D:=by decide):PE a (.Name d m) (tC ψ):=λ_ _ _ H _ I h=>iP I g f b ⟨ψ,H,I,r,h⟩ e i
noncomputable def tB(t:TE):TT:=λa H Q=>t a H λx b=>∃c,x=.bl c/\Q c b
variable{g:s_}{Χ:TE}
theorem DX(h:PE a g Χ)(j:∀û,isTrue g a.env û=(do let v<-û;Zu g.pos;WY [v] (truthy v)):=by intro _;rfl):PT a g (tB Χ):=by intro k s b H Q I i;refine isTrue_plain (ã (h k s b H _ I i) λv o⟨x,n,m,e,f⟩=>?_) (j _);obtain⟨d,rfl,q⟩:=f;cases e;exact Vh ⟨n,m,q⟩
noncomputable def Sm(t u:TT):TT:=λa H Q=>t a H λc b=>if c=L then u a b Q else Q D b
noncomputable def tOr(t u:TT):TT:=λa H Q=>t a H λc b=>if c=L then Q L b else u a b Q
noncomputable def Sn(t:TT):TT:=λa H Q=>t a H λc b=>Q (!c) b
theorem FP{b:TT}(f:PT a g b):PW a (.BoolOp .And [g] m) b:=by intro j i s d H Q I h;refine isTrue_and (ã (f i s d H Q I h) λc k e=>?_);cases c with|true=>exact isTrue_and_nil e|false=>exact e
theorem DY{b:TT}(f:PT a g b):PW a (.BoolOp .Or [g] m) b:=by intro j i s d H Q I h;refine isTrue_or (ã (f i s d H Q I h) λc k e=>?_);cases c with|false=>exact isTrue_or_nil e|true=>exact e
variable{u:s_}{w:List s_}
theorem JU{e b:TT}(q:PT a g e)(p:PW a (.BoolOp .And (u::w) m) b):PW a (.BoolOp .And (g::u::w) m) (Sm e b):=by intro n i s d H Q I h;refine isTrue_and (ã (q i s d H _ I h) λc o⟨k,j,f⟩=>?_);cases c with|true=>exact p n i o d k Q j f|false=>exact⟨k,j,f⟩
theorem JV{e b:TT}(q:PT a g e)(p:PW a (.BoolOp .Or (u::w) m) b):PW a (.BoolOp .Or (g::u::w) m) (tOr e b):=by intro n i s d H Q I h;refine isTrue_or (ã (q i s d H _ I h) λc o⟨k,j,f⟩=>?_);cases c with|true=>exact⟨k,j,f⟩|false=>exact p n i o d k Q j f
theorem DZ{b:TT}(e:PT a g b):PT a (.UnaryOp .Not g m) (Sn b):=by intro f s d H Q I h;exact isTrue_not (e f s d H (λc i=>Q (!c) i) I h)
noncomputable def OT(e d:TE):TE:=λa H Q=>e a H λx b=>∃c,x=.bl c/\if c=L then d a b Q else Q (.bl D) b
noncomputable def So(e d:TE):TE:=λa H Q=>e a H λx b=>∃c,x=.bl c/\if c=L then Q (.bl L) b else d a b Q
noncomputable def OW(b:TE):TE:=λa H Q=>b a H λx d=>∃c,x=.bl c/\Q (.bl (!c)) d
theorem JW{d}(h:PE a g Χ):PE a (.BoolOp d [g] m) Χ:=λf s b H Q I e=>BoolOp_one (h f s b H Q I e)
theorem JX{e:TE}(p:PE a g Χ)(o:PE a (.BoolOp .And (u::w) m) e):PE a (.BoolOp .And (g::u::w) m) (OT Χ e):=by intro f s d H Q I h;refine BoolOp_and (ã (p f s d H _ I h) λv k⟨x,j,i,n,b⟩=>?_);obtain⟨c,rfl,b⟩:=b;cases n;refine Vh ?_;cases c with|true=>exact o f k d j Q i b|false=>exact⟨.bl D,j,i,rfl,b⟩
theorem OX{e:TE}(p:PE a g Χ)(o:PE a (.BoolOp .Or (u::w) m) e):PE a (.BoolOp .Or (g::u::w) m) (So Χ e):=by intro f s d H Q I h;refine BoolOp_or (ã (p f s d H _ I h) λv k⟨x,j,i,n,b⟩=>?_);obtain⟨c,rfl,b⟩:=b;cases n;refine Vh ?_;cases c with|false=>exact o f k d j Q i b|true=>exact⟨.bl L,j,i,rfl,b⟩
theorem JZ(f:PE a g Χ):PE a (.UnaryOp .Not g m) (OW Χ):=by intro i s d H Q I h;refine UnaryOp_ (ã (f i s d H _ I h) λv n⟨x,k,j,e,b⟩=>?_);obtain⟨c,rfl,b⟩:=b;cases e;exact not_of (Vh ⟨.bl (!c),k,j,rfl,b⟩)
noncomputable def tIf(t:TT)(e d:TE):TE:=λa H Q=>t a H λc b=>if c=L then e a b Q else d a b Q
variable{Á:s_}
theorem Br{f:TE}{i:TT}(p:PT a Á i)(r:PE a g Χ)(q:PE a u f):PE a (.IfExp Á g u m) (tIf i Χ f):=by intro e s b H Q I h;refine wpAny_IfExp (ã (p e s b H _ I h) λd j⟨o,n,k⟩=>?_);cases d with|true=>exact r e j b o Q n k|false=>exact q e j b o Q n k
def ă(K:d_)(H:Hp)(a:O)(d:List V):Prop:=Rd H a (.lst d)\/∃(o:Obj)(b:Array B)(n:Nat),K.lookup a=Z o/\o.cls=.type "list"/\o.dict=U/\o.data=.seq b n/\b.size<=sizeLine/\Ñ d b.toList
def ù(K:d_)(H:Hp)(a:O)(d:List V):Prop:=Rd H a (.tup d)\/∃(o:Obj)(b:Array B)(n:Nat),K.lookup a=Z o/\o.cls=.type "tuple"/\o.data=.seq b n/\b.size<=sizeLine/\Ñ d b.toList
noncomputable def Sq:B->Option V|.none=>Z .non|.bool b=>Z (.bl b)|.int i _=>Z (.int i)|.str x _=>Z (.str x)|.bytes b _=>Z (.byt b)|.float b _=>Z (.flt b)|.ref a=>Z (.ref a)|.type n=>Z (.ty n)|_=>U
theorem Ø.abs(r:Ø ψ ω):Sq ω=Z ψ:=by cases ψ with|non=>cases r;rfl|bl _=>cases r;rfl|int _=>obtain⟨t,rfl⟩:=r;rfl|str _=>obtain⟨t,rfl⟩:=r;rfl|byt _=>obtain⟨t,rfl⟩:=r;rfl|flt _=>obtain⟨t,rfl⟩:=r;rfl|ref _=>cases r;rfl|ty _=>cases r;rfl
theorem Ø.inj{y:V}(r:Ø ψ ω)(q:Ø y ω):ψ=y:=Ub (r.abs.symm.trans q.abs)
theorem Ñ.inj:∀{b a:List V}{us:List B},Ñ b us->Ñ a us->b=a|_,_,_,.nil,.nil=>rfl|_,_,_,.cons r t,.cons e d=>by rw[r.inj e,Ñ.inj t d]
variable{q:d_}
theorem ă.of(a:h e=Z (.lst η)):ă q h e η:=.inl (.inl a)
theorem ù.of(a:h e=Z (.tup η)):ù q h e η:=.inl (.inl a)
theorem Í.list(I:Í a P Φ h f)(b:ă a.K h e η):∃g:List B,Ñ η g/\PlainL f.heap e g.toArray/\η.length<=sizeLine:=by
 rcases b with b|⟨o,g,n,j,m,k,i,p,r⟩;·obtain⟨z,g,n,r,d⟩:=b.ok I.hok;exact⟨g,r,⟨_,n,d,rfl,rfl,rfl⟩,z⟩
 ·refine⟨g.toList,r,⟨o,n,I.kIn e o j,m,k,by simpa using i⟩,?_⟩;have d:=r.length;simp only[UZ]at d;omega
theorem Í.tuple(I:Í a P Φ h f)(b:ù a.K h e η):∃g:List B,Ñ η g/\X' f.heap e g.toArray/\η.length<=sizeLine:=by
 rcases b with b|⟨o,g,n,j,k,i,m,r⟩;·obtain⟨z,g,r,p⟩:=b.ok I.hok;exact⟨g,r,p,z⟩
 ·refine⟨g.toList,r,⟨o,I.kIn e o j,k,n,by simpa using i⟩,?_⟩;have d:=r.length;simp only[UZ]at d;omega
theorem Í.list_inj{k:List V}(I:Í a P Φ h f)(b:ă a.K h e η)(s:ă a.K h e k):η=k:=by
 obtain⟨j,r,⟨o,n,g,_,_,d⟩,_⟩:=I.list b;obtain⟨i,q,⟨v,w,m,_,_,p⟩,_⟩:=I.list s;rw[g]at m;cases m;rw[d]at p;injection p with u _;have:j=i:=by simpa using congrArg Array.toList u
 subst this;exact r.inj q
theorem Í.tuple_inj{k:List V}(I:Í a P Φ h f)(b:ù a.K h e η)(s:ù a.K h e k):η=k:=by
 obtain⟨j,r,⟨o,g,_,n,d⟩,_⟩:=I.tuple b;obtain⟨i,q,⟨v,m,_,w,p⟩,_⟩:=I.tuple s;rw[g]at m;cases m;rw[d]at p;injection p with u _;have:j=i:=by simpa using congrArg Array.toList u
 subst this;exact r.inj q
abbrev C.wish(X:C)(E:B->ge->Prop):C:={X with xe:=E}
abbrev C.nox(X:C):C:=X.wish λ_ _=>False
theorem C.Ok.wish(b:a.Ok)(E:B->ge->Prop):(a.wish E).Ok:=⟨b.mod,b.kind,b.glob,b.blt,b.above,b.inj,b.has,b.cab,b.hd,b.frames,b.stk,b.exf,b.bs,b.bsz,b.noex,b.exfs,b.funs,b.frf⟩
theorem C.Ok.unwish(b:(a.wish χ).Ok):a.Ok:=⟨b.mod,b.kind,b.glob,b.blt,b.above,b.inj,b.has,b.cab,b.hd,b.frames,b.stk,b.exf,b.bs,b.bsz,b.noex,b.exfs,b.funs,b.frf⟩
theorem Í.wish(I:Í a P Φ h f)(E:B->ge->Prop):Í (a.wish E) P Φ h f:=⟨I.ok.wish E,I.os,I.bare,I.base,I.loc,I.cell,I.free,I.freeC,I.pin,I.hok,I.len⟩
theorem Í.unwish(I:Í (a.wish χ) P Φ h f):Í a P Φ h f:=⟨I.ok.unwish,I.os,I.bare,I.base,I.loc,I.cell,I.free,I.freeC,I.pin,I.hok,I.len⟩
theorem SP.unwish{d:uE}{b:Flow}(h:SP (a.wish χ) P d b f):SP a P d b f:=by cases b with|next=>obtain⟨e,g,I,q⟩:=h;exact⟨e,g,I.unwish,q⟩|brk=>obtain⟨e,g,I,q⟩:=h;exact⟨e,g,I.unwish,q⟩|cont=>obtain⟨e,g,I,q⟩:=h;exact⟨e,g,I.unwish,q⟩|ret u=>obtain⟨v,e,g,I,r,q⟩:=h;exact⟨v,e,g,I.unwish,r,q⟩
variable{Ψ:List Us}
theorem Ļ.nox{t:TS}(h:Ļ a.nox Ψ t):Ļ a Ψ t:=λf s d H b I e=>Uj (h f s d H b (I.wish _) e) (λ_ _ q=>q.unwish) λ_ _ z=>Uf z
noncomputable def OY:TS:=λa b H=>a.nx b H
noncomputable def Sr(t u:TS):TS:=λa b H=>t {a with nx:=u a} b H
theorem sK:Ļ a [] OY:=λ_ _ b H _ I h=>ZK ⟨b,H,I,h⟩
variable{Δ:Us}
theorem gC{t u:TS}(k:PS a Δ t)(j:Ļ a Ψ u):Ļ a (Δ::Ψ) (Sr t u):=by intro e s g H b I h;refine wpAny_execs_cons (ã (k e s g H {b with nx:=u b} I h) λf i q=>?_);cases f with|next=>obtain⟨d,n,m,q⟩:=q;exact j e i d n b m q|ret v=>exact q|brk=>exact q|cont=>exact q
theorem oQ{t:TS}(e:PS a Δ t):Ļ a [Δ] t:=by intro g s d H b I h;refine wpAny_execs_cons (ã (e g s d H b I h) λf i q=>?_);cases f with|next=>exact ZK q|ret v=>exact q|brk=>exact q|cont=>exact q
theorem Í.quiet(I:Í a P Φ h f):interactive a.env=D:=by simp[interactive,I.ok.kind]
noncomputable def OZ(d:TE):TS:=λa b H=>d b H λ_ e=>a.nx b e
theorem sL(i:PE a g Χ)(f:Ux g U m.line a.env=pure D:=by rfl):PS a (.Expr g m) (OZ Χ):=by intro j s d H b I h;exact wpAny_Expr_any (ã (i j s d H _ I h) λv o⟨x,n,k,p,e⟩=>⟨d,n,k,e⟩) I.quiet f
noncomputable def Ss(d:TE):TS:=λa b H=>d b H a.rt
theorem xu(i:PE a g Χ):PS a (.Return (Z g) m) (Ss Χ):=by intro j s d H b I h;exact wpAny_Return_some (ã (i j s d H _ I h) λv o⟨x,n,k,e,f⟩=>⟨x,d,n,k,e,f⟩)
noncomputable def Su(c:TT)(t u:TS):TS:=λa d H=>c d H λb e=>if b=L then t a d e else u a d e
theorem Bs{t u:TS}{b:List Us}{j:TT}(q:PT a g j)(v:Ļ a Ψ t)(r:Ļ a b u):PS a (.If g Ψ b m) (Su j t u):=by intro i s f H e I h;refine wpAny_If (ã (q i s f H _ I h) λd k⟨p,o,n⟩=>?_);cases d with|true=>exact v i k f p e o n|false=>exact r i k f p e o n
abbrev TG:=V->St->Hp->(St->Hp->Prop)->Prop
abbrev Ź:=List V->St->Hp->(St->Hp->Prop)->Prop
def PG(X:C)(a:s_)(t:TG):Prop:=∀(e:List (O×Obj))(s:ge)(d:St)(H:Hp)(v:V)(u:B)(Q:St->Hp->Prop),Í X e d H s->Ø v u->t v d H Q->u_ (D_ X.prog X.w) X.A (Wf a X.env u) (λ_ g=>∃b f,Í X e b f g/\Q b f) X.xe s
def Ř(X:C)(g:List s_)(t:Ź):Prop:=∀(e:List (O×Obj))(s:ge)(b:St)(H:Hp)(d:List V)(us:List B)(Q:St->Hp->Prop),Í X e b H s->Ñ d us->t d b H Q->u_ (D_ X.prog X.w) X.A (assignInOrder ((TZ g X.env).map (·.2)) us) (λ_ h=>∃a f,Í X e a f h/\Q a f) X.xe s
abbrev O0:=V->V->V->Hp->(Hp->Prop)->Prop
def RB(X:C)(t:O0):Prop:=∀(e:List (O×Obj))(s:ge)(a:St)(H:Hp)(o i v:V)(b d u:B)(Q:Hp->Prop),Í X e a H s->Ø o b->Ø i d->Ø v u->t o i v H Q->u_ (D_ X.prog X.w) X.A (setItem b d u) (λ_ g=>∃f,Í X e a f g/\Q f) X.xe s
noncomputable def sM(i:Nat):TG:=λv a H Q=>Q (a.set i (Z v)) H
theorem gL(i:a.N.Nodup)(f:a.N[b]?=Z d)(e:Ł a.env.scope d)(g:a.fn d=L\/a.env.scope.names.lookup d=Z .local:=by first|exact .inl rfl|exact .inr rfl|assumption):PG a (.Name d m) (sM b):=by intro o s k H v u Q I r h;exact wpAny_assign_Name (uD I i f e r (λn j=>⟨_,H,j,h⟩) g)
noncomputable def Sv:Ź:=λb a H Q=>b=[]/\Q a H
noncomputable def O1(t:TG)(u:Ź):Ź:=λd b H Q=>∃v r,d=v::r/\t v b H λa e=>u r a e Q
theorem xx:Ř a [] Sv:=by intro f s b H d us Q I r h;obtain⟨e,h⟩:=h;subst e;cases r;exact assignInOrder_nil ⟨b,H,I,h⟩
theorem oR{t:TG}{u:Ź}(n:PG a g t)(m:Ř a w u)(k:(TZ (g::w) a.env).map (·.2)=Wf g a.env::(TZ w a.env).map (·.2):=by rfl):Ř a (g::w) (O1 t u):=by intro d s e H y us Q I r h;obtain⟨v,z,o,h⟩:=h;subst o;cases r with|cons r i=>rw[k];refine assignInOrder_cons (ã (n d s e H _ _ _ I r h) λ_ f⟨b,q,p,j⟩=>?_);exact m d f b q _ _ Q p i j
noncomputable def Sw(K:d_)(n:Nat)(t:Ź):TG:=λv d H Q=>∃a b,v=.ref a/\ù K H a b/\b.length=n/\t b d H Q
variable{k:Nat}
theorem D4{t:Ź}(P:a.calm=L)(h:Ř a w t)(E:(TZ w a.env).length=k:=by rfl)(i:(TZ w a.env).findIdx? (·.1)=U:=by rfl):PG a (.Tuple w b m) (Sw a.K k t):=by intro p s j H v u Q I r g;obtain⟨f,q,e1,A,N,g⟩:=g;subst e1;cases r;obtain⟨a',n,z,hz⟩:=I.tuple A;refine assign_Tuple_tuple (I.ok.hd P) z (by simp[E,<-N,n.length]) i λh' y=>?_;have I1:Í a p j H {s with heap:=h'}:=I.kept (t':=s.toks) λd o e=>y d o (TY (y_ e)) e;exact h p _ j H q _ Q I1 (by simpa using n) g
noncomputable def Sx(b d:TE)(t:O0):TG:=λv a H Q=>b a H λo g=>d a g λi f=>t o i v f λe=>Q a e
theorem J0{j:TE}{t:O0}(E:PE a g Χ)(N:PE a u j)(A:RB a t)(P:∀v,Wf (.Subscript g u m) a.env v=(do
 let d<-WY [v] (eval g a.env)let e<-WY [v,d] (eval u a.env)Zu m
 WY [v,d,e] (setItem d e v)release [v,d,e] []):=by intro _;rfl):PG a (.Subscript g u m) (Sx Χ j t):=by intro i s f H v b Q I r h;rw[P];refine e_ (U9 (ã (E i s f H _ I h) λd n⟨x,H1,I1,p,z⟩=>?_));refine e_ (U9 (ã (N i n f H1 _ I1 z) λe k⟨y,H2,I2,o,w⟩=>?_));refine e_ (aat (e_ (U9 (ã (A i k f H2 x y v d e b _ I2 p o r w) λ_ s3⟨H3,I3,q⟩=>?_))));exact wpAny_release ⟨f,H3,I3,q⟩
noncomputable def RC(d:TE)(g:TG):TS:=λa b H=>d b H λx e=>g x b e a.nx
theorem D8{b:TG}(r:PE a u Χ)(p:PG a g b)(o:aav [g] u m.line a.env=pure D:=by rfl)(n:aaw [g] u a.env=pure U:=by rfl)(w:(TZ [g] a.env).map (·.2)=[Wf g a.env]:=by rfl):PS a (.Assign [g] u m) (RC Χ b):=by intro f s e H d I h;refine wpAny_Assign_stores (ã (r f s e H _ I h) λv i⟨x,z,y,j,k⟩=>?_) o n;rw[w];exact ã (p f i e z x v _ y j k) λ_ A q=>q
variable{v:Pos}
theorem nK(u:a.N.Nodup)(p:a.N[b]?=Z d)(n:Ł a.env.scope d)(r:PE a g Χ)(o:Ux g (Z (.Name d v)) m.line a.env=pure D:=by rfl)(q:a.fn d=L\/a.env.scope.names.lookup d=Z .local:=by first|exact .inl rfl|exact .inr rfl|assumption):PS a (.Assign [.Name d v] g m) (RC Χ (sM b)):=by intro w s i H f I h;refine wpAny_Assign_Name (ã (r w s i H _ I h) λe P⟨y,E,A,j,k⟩=>?_) o;exact uD A u p n j (λN z=>⟨_,E,z,k⟩) q
structure It where
 go:Nat->Hp->Prop
 yld:Nat->Hp->V->Hp->Prop
 stop:Nat->Hp->Prop
def sE(X:C)(a:List (O×Obj))(H:Hp)(b:O):Prop:=H b=U/\b≠X.env.locals/\b∉X.fs/\(b∈X.ex\/X.s₀.heap.objs.size<=b)/\(∀x c,X.env.cells.lookup x=Z c->c≠b)/\∀p∈X.pn++a,p.1≠b
theorem Í.fpOk(I:Í a P Φ h f)(d:f.heap.objs.size<=e)(i:Β e=U):sE a P Β e:=by
 refine⟨i,W3 (TJ I.lt d),I.nofs d,.inr (TU I.sz d),λx c b z=>?_,λp g z=>?_⟩;·obtain⟨v,q⟩:=I.cell x c b;exact absurd (TJ q.lt (by rw[z];exact d)) (U1 _)
 ·exact absurd (TJ (y_ (I.pin p g).1) (by rw[z];exact d)) (U1 _)
structure w6(P:n_)(w:x_)(K:d_)(tg:s_)(J:It)(fp:List O)(it:O)(tn:Nat->TC->Prop):Prop where
 mem:it∈fp
 obj:∀i h,tn i h->∀b∈fp,∃o,h.get? b=Z o/\∀v,o.data≠.cell v
 keep:∀i h h',tn i h->(∀b∈fp,∀o,h.get? b=Z o->h'.get? b=Z o)->tn i h'
 item:∀(X:C),X.prog=P->X.w=w->X.K=K->X.calm=L->∀(i:Nat)(f':List (O×Obj))(s:ge)(σ:St)(H:Hp)(E:B->ge->Prop),Í X f' σ H s->(∀b∈fp,sE X f' H b)->tn i s.heap->J.go i H->u_ (D_ P w) X.A (Yj (.ref it)) (λr s1=>∃u,r=Z u/\u_ (D_ P w) X.A (Yl tg (.ref it) u) (λ_ s2=>∃x H',Í X f' σ H' s2/\Ø x u/\J.yld i H x H'/\tn (i+1) s2.heap/\∀b∈fp,H' b=U) E s1) E s
 done:∀(X:C),X.prog=P->X.w=w->X.K=K->X.calm=L->∀(i:Nat)(f':List (O×Obj))(s:ge)(σ:St)(H:Hp)(E:B->ge->Prop),Í X f' σ H s->(∀b∈fp,sE X f' H b)->tn i s.heap->J.stop i H->u_ (D_ P w) X.A (Yj (.ref it)) (λr s1=>r=U/\Í X f' σ H s1) E s
 self:∀(A:C_)(i:Nat)(s:ge)(Q:B->ge->Prop)(E:B->ge->Prop),tn i s.heap->Q (.ref it) s->u_ (D_ P w) A (pyIter (.ref it)) Q E s
abbrev TI:=St->Hp->(It->Hp->Prop)->Prop
def PIE(X:C)(h:List (O×Obj))(i:St)(j:s_)(R:It->Hp->Prop)(d:B)(f:ge):Prop:=∃(it:O)(g:List O)(e:Nat->TC->Prop)(J:It)(a:Hp),d=.ref it/\Í X h i a f/\w6 X.prog X.w X.K j J g it e/\e 0 f.heap/\(∀b∈g,sE X h a b)/\R J a
def PI(X:C)(f a:s_)(e:TI):Prop:=∀(d:List (O×Obj))(s:ge)(b:St)(H:Hp)(R:It->Hp->Prop),Í X d b H s->e b H R->u_ (D_ X.prog X.w) X.A (eval a X.env) (λv g=>u_ (D_ X.prog X.w) X.A (pyIter v) (PIE X d b f R) X.xe g) X.xe s
theorem xz{o:Obj}{n:String}{b:Array B}{Q:Unit->ge->Prop}(d:f.heap.get? e=Z o)(k:o.cls=.type n)(j:o.data=.fields b)(i:["enumerate","zip","dict_itemiterator","dict_reverseitemiterator","odict_iterator","itertools.zip_longest","itertools.pairwise"].contains n=D)(a:Q () f):u_ Æ N (Yl g (.ref e) ω) Q χ f:=by unfold Yl;cases g<;>first|exact l_ a|(cases ω<;>first|exact l_ a|(refine e_ (wpAny_load d ?_);rw[k,j];show u_ Æ N (if(["enumerate","zip","dict_itemiterator","dict_reverseitemiterator","odict_iterator","itertools.zip_longest","itertools.pairwise"].contains n&&b[0]?==Z (YG _))=L then _ else _) Q χ f;rw[if_neg (by intro h;rw[i,Bool.false_and]at h;cases h)];exact l_ a))
noncomputable def Itl(K:d_)(a:O):It:=⟨λi H=>∃b x,ă K H a b/\b[i]?=Z x,λi H x d=>d=H/\∀b,ă K H a b->b[i]?=Z x,λi H=>∃b,ă K H a b/\b.length<=i⟩
noncomputable def Itt(K:d_)(a:O):It:=⟨λi H=>∃b x,ù K H a b/\b[i]?=Z x,λi H x d=>d=H/\∀b,ù K H a b->b[i]?=Z x,λi H=>∃b,ù K H a b/\b.length<=i⟩
noncomputable def Itr(a:Int)(n:Nat):It:=⟨λi _=>i<n,λi H x b=>b=H/\x=.int (a+i),λi _=>n<=i⟩
theorem xA(a j:O):w6 s r q g (Itl q a) [j] j (λi h=>h.IsListIter j a i)where
 mem:=by simp
 obj:=λi h st b m=>by
  have e:b=j:=by simpa using m
  subst e;obtain⟨o,e,c,d⟩:=st;exact⟨o,e,λv z=>by rw[d]at z;cases z⟩
 keep:=λi h A st k=>st.at λo e=>k j (by simp) o e;item:=by intro X hP hw hK hc i f' f σ H E I y st hg;subst hP hw hK;obtain⟨xs,x,w,P⟩:=hg;obtain⟨a',N,p,hz⟩:=I.list w;obtain⟨u,hu,ru⟩:=N.get P;obtain⟨f0,f1,R,f3,f4,f5⟩:=y j (by simp);refine wpAny_pyNext_list_item st p.isList (x:=u) (by simpa using hu) λA n sb=>?_;have I1:Í X f' σ H {f with heap:=A}:=I.turned (t':=f.toks) (λb o m e=>(sb.2 b m).trans e) f0 f1 f3 f4 f5;obtain⟨o,e,c,d⟩:=id n;exact⟨u,rfl,xz (f:={f with heap:=A}) e c d (by decide) ⟨x,H,I1,ru,⟨rfl,λys hy=>by rw[I.list_inj hy w];exact P⟩,n,λb m=>(y b m).1⟩⟩
 done:=by intro X hP hw hK hc i f' f σ H E I y st hg;subst hP hw hK;obtain⟨xs,w,P⟩:=hg;obtain⟨a',N,p,hz⟩:=I.list w;obtain⟨f0,f1,R,f3,f4,f5⟩:=y j (by simp);have hl:=N.length;exact wpAny_pyNext_list_end (I.ok.hd hc) st p.isList (by simp;omega) λA eb=>⟨rfl,I.turned (t':=f.toks) (λb o m e=>eb b o m e) f0 f1 f3 f4 f5⟩
 self:=λ_ _ _ _ _ st h=>wpAny_pyIter_listiter st h
theorem nM(a j:O):w6 s r q g (Itt q a) [j] j (λi h=>h.IsTupleIter j a i)where
 mem:=by simp
 obj:=λi h st b m=>by
  have e:b=j:=by simpa using m
  subst e;obtain⟨o,e,c,d⟩:=st;exact⟨o,e,λv z=>by rw[d]at z;cases z⟩
 keep:=λi h N st k=>st.at λo e=>k j (by simp) o e;item:=by intro X hP hw hK hc i f' f σ H E I A st hg;subst hP hw hK;obtain⟨xs,x,y,hx⟩:=hg;obtain⟨n,P,p,hz⟩:=I.tuple y;obtain⟨u,hu,ru⟩:=P.get hx;obtain⟨f0,f1,R,f3,f4,f5⟩:=A j (by simp);refine wpAny_pyNext_tuple_item st (show f.heap.IsTuple a n.toArray from p) (x:=u) (by simpa using hu) λN w sb=>?_;have I1:Í X f' σ H {f with heap:=N}:=I.turned (t':=f.toks) (λb o m e=>(sb.2 b m).trans e) f0 f1 f3 f4 f5;obtain⟨o,e,c,d⟩:=id w;exact⟨u,rfl,xz (f:={f with heap:=N}) e c d (by decide) ⟨x,H,I1,ru,⟨rfl,λys hy=>by rw[I.tuple_inj hy y];exact hx⟩,w,λb m=>(A b m).1⟩⟩
 done:=by intro X hP hw hK hc i f' f σ H E I A st hg;subst hP hw hK;obtain⟨xs,y,hx⟩:=hg;obtain⟨n,P,p,hz⟩:=I.tuple y;obtain⟨f0,f1,R,f3,f4,f5⟩:=A j (by simp);have hl:=P.length;exact wpAny_pyNext_tuple_end (I.ok.hd hc) st (show f.heap.IsTuple a n.toArray from p) (by simp;omega) λN eb=>⟨rfl,I.turned (t':=f.toks) (λb o m e=>eb b o m e) f0 f1 f3 f4 f5⟩
 self:=λ_ _ _ _ _ st h=>wpAny_pyIter_tupleiter st h
theorem vU(d:O)(m:Int)(n:Nat):w6 s r q g (Itr m n) [d] d (λi h=>aaa h d (m+(i:Nat)*1) ((n:Int)-(i:Nat)) 1)where
 mem:=by simp
 obj:=λi h st b f=>by
  have e:b=d:=by simpa using f
  subst e;exact⟨_,st,λv z=>by have z':UY _=Data.cell v:=z;cases z'⟩
 keep:=λi h u st k=>k d (by simp) _ st;item:=by intro X N w P A i f' a σ H E I p st y;subst N w P;obtain⟨f0,f1,R,f3,f4,f5⟩:=p d (by simp);have W:=Walks.range (prog:=X.prog) (w:=X.w) (I.ok.hd A) d m 1 n;refine W.item i a _ _ y st λv u tk hv j kk=>?_;obtain⟨t,rfl⟩:=hv;have I1:Í X f' σ H {a with heap:=u,toks:=tk}:=I.turned (λb o f e=>kk b o (by simpa using f) e) f0 f1 f3 f4 f5;refine⟨_,rfl,xz (f:={a with heap:=u,toks:=tk}) (n:="range_iterator") j rfl rfl (by decide) ⟨.int (m+i),H,I1,⟨t,?_⟩,⟨rfl,rfl⟩,j,λb f=>(p b f).1⟩⟩;rw[Int.mul_one]
 done:=by intro X N w P A i f' a σ H E I p st y;subst N w P;obtain⟨f0,f1,R,f3,f4,f5⟩:=p d (by simp);exact Zs (I.ok.hd A) st (by have:n<=i:=y;omega) λu eb=>⟨rfl,I.turned (t':=a.toks) (λb o f e=>eb b o f e) f0 f1 f3 f4 f5⟩
 self:=λ_ _ _ _ _ st h=>Zt st h
def Sy(K:d_)(f:TE):TI:=λd H R=>f d H λx b=>∃a,x=.ref a/\(∃e,ù K b a e)/\R (Itt K a) b
theorem J8(w:PE a u Χ):PI a g u (Sy a.K Χ):=by
 intro z s k H R I h;refine ã (w z s k H _ I h) λv f⟨x,A,i,m,n⟩=>?_;obtain⟨d,e,⟨E,r⟩,q⟩:=n;subst e;cases m;obtain⟨j,N,p,P⟩:=i.tuple r;refine Xi (show f.heap.IsTuple d j.toArray from p) ?_;refine⟨f.heap.objs.size,[f.heap.objs.size],_,_,A,rfl,i.kept (t':=f.toks) λb o e=>j_ _ e,nM d _,⟨_,v_ _ rfl,rfl,rfl⟩,λb y=>?_,q⟩;have e:b=f.heap.objs.size:=by simpa using y
 subst e;exact i.fpOk (pi _) (i.hok.fresh (pi _))
variable{n Ω:Int}
theorem uF{R:It->Hp->Prop}{t u v:Tok}(I:Í a P Φ h f)(r:-(2^62)<=n)(p:n<2^62)(m:-(2^62)<=Ω)(k:Ω<2^62)(q:R (Itr n (Ω-n).toNat) h):u_ (D_ a.prog a.w) a.A (pyIter (.ref f.heap.objs.size)) (PIE a P Φ g R) χ {f with heap:=f.heap.push {cls:=.type "range",data:=.fields #[.int n t,.int Ω u,.int 1 v]},toks:=b}:=by
 refine wpAny_pyIter_range (IsRange.new ..) (small_one r p m k) ?_;have i:Í a P Φ h {f with heap:=f.heap.push {cls:=.type "range",data:=.fields #[.int n t,.int Ω u,.int 1 v]},toks:=b}:=I.kept λd o e=>j_ _ e;refine⟨(f.heap.push {cls:=.type "range",data:=.fields #[.int n t,.int Ω u,.int 1 v]}).objs.size,[(f.heap.push {cls:=.type "range",data:=.fields #[.int n t,.int Ω u,.int 1 v]}).objs.size],_,_,h,rfl,i.kept (t':=b) λd o e=>j_ _ e,vU _ n (Ω-n).toNat,?_,λd j=>?_,q⟩
 · have w:n+((0:Nat):Int)*1=n:=by simp
   have s:(((Ω-n).toNat:Nat):Int)-((0:Nat):Int)=Wl n Ω 1:=by rw[rangeSize_one];split<;>omega
   show aaa _ _ (n+((0:Nat):Int)*1) ((((Ω-n).toNat:Nat):Int)-((0:Nat):Int)) 1;rw[w,s];exact v_ _ rfl
 · have e:d=(f.heap.push {cls:=.type "range",data:=.fields #[.int n t,.int Ω u,.int 1 v]}).objs.size:=by simpa using j
   subst e;exact i.fpOk (pi _) (i.hok.fresh (pi _))
def O2(d:TA):TI:=λa H R=>d a H λb e=>∃j:Int,b=[.int j]/\-(2^62)<=j/\j<2^62/\R (Itr 0 j.toNat) e
def O3(d:TA):TI:=λa H R=>d a H λb e=>∃i j:Int,b=[.int i,.int j]/\(-(2^62)<=i/\i<2^62/\-(2^62)<=j/\j<2^62)/\R (Itr i (j-i).toNat) e
theorem qB{d:TA}(w:Gl a "range")(p:a.mg "range"=U)(y:PA a [u] d)(o:k_ [u] a.env=[(D,eval u a.env)]:=by rfl):PI a g (.Call (.Name "range" m) [u] [] v) (O2 d):=by intro z s f H R I h;refine Call_ (iP I w p boot_range (UC (ã (y v z s f H _ I h) λus N⟨E,P,A,k,b⟩=>?_) o rfl));obtain⟨j,e,b,n,q⟩:=b;subst e;cases k with|cons r i=>cases i;obtain⟨t,rfl⟩:=r;exact call_range_1 (uF A (by omega) (by omega) b n (by simpa using q))
theorem qC{k:TA}(N:Gl a "range")(E:a.mg "range"=U)(P:PA a [u,Á] k)(A:k_ [u,Á] a.env=[(D,eval u a.env),(D,eval Á a.env)]:=by rfl)(b:k_ [Á] a.env=[(D,eval Á a.env)]:=by rfl):PI a g (.Call (.Name "range" m) [u,Á] [] v) (O3 k):=by intro f' s n H R I h;refine Call_ (iP I N E boot_range (UC (ã (P v f' s n H _ I h) λus s1⟨vs,H1,I1,o,f⟩=>?_) (by rw[A,b]) (by rw[b];rfl)));obtain⟨i,j,e,⟨f,z,y,w⟩,q⟩:=f;subst e;cases o with|cons r d=>cases d with|cons p d=>cases d;obtain⟨t,rfl⟩:=r;obtain⟨t',rfl⟩:=p;exact call_range_2 (uF I1 f z y w q)
def Sz(j:TI)(g:TG)(k:TS):TS:=λa b H=>j b H λJ o=>∃W:Nat->Nat->St->Hp->Prop,(∃m,W 0 m b o)/\∀i m b H,W i m b H->(J.stop i H/\a.nx b H)\/(J.go i H/\∃N:St->Hp->Prop,(∀e d,N e d->∃h,h<m/\W (i+1) h e d)/\∀x d,J.yld i H x d->g x b d λf n=>k {a with nx:=N,ct:=N,bk:=a.nx} f n)
noncomputable def fX(a:List O)(h:TC):List (O×Obj):=a.filterMap λb=>(h.get? b).map λo=>(b,o)
theorem eM{o:Obj}(b:e∈ο)(a:I.get? e=Z o):(e,o)∈fX ο I:=YV.mpr ⟨e,b,by rw[a];rfl⟩
theorem lT{p:O×Obj}(a:p∈fX ο I):p.1∈ο/\I.get? p.1=Z p.2:=by obtain⟨b,d,e⟩:=YV.mp a;cases q:I.get? b with|none=>rw[q]at e;cases e|some o=>rw[q]at e;have f:(b,o)=p:=Ub e;subst f;exact⟨d,q⟩
theorem Í.pinned{fp:List O}(I:Í a P Φ h f)(m:∀b∈fp,sE a P h b)(k:∀b∈fp,∃o,f.heap.get? b=Z o/\∀v,o.data≠.cell v):Í a (P++fX fp f.heap) Φ h f:=I.pins_of λp j=>(TH.mp j).elim (λz=>I.pin p (o_ _ z)) λz=>by obtain⟨g,e⟩:=lT z;obtain⟨n,f1,R,_⟩:=m p.1 g;obtain⟨o,i,d⟩:=k p.1 g;rw[e]at i;cases i;exact⟨e,n,f1,R,d⟩
theorem Í.unpinned{b:List (O×Obj)}(I:Í a (P++b) Φ h f):Í a P Φ h f:=I.pins_of λp d=>I.pin p (o_ _ (O_ _ d))
theorem qE{wi:TI}{k:TG}{tb:TS}(hp:WH (D_ a.prog a.w) a.A a.env a.xe)(hc:a.calm=L)(hi:PI a g u wi)(hg:PG a g k)(y:Ļ a Ψ tb)(hs:∀x,TM u a.env x=pure x:=by intro _;rfl):PS a (.For g u Ψ [] m) (Sz wi k tb):=by
 intro f' s σ H q I h;refine wpAny_For (ã (hi f' s σ H _ I h) λv s1 h1=>ã h1 λl' s2 h2=>?_) hs;obtain⟨it,fp,tn,J,H2,e,I2,T,h',R,W,⟨m0,w0⟩,turn⟩:=h2;subst e;have a':∀{H':Hp},(∀b∈fp,H' b=U)->∀b∈fp,sE a f' H' b:=λhn b y=>⟨hn b y,(R b y).2⟩;refine codeAny_forLoop_any (λn s'=>∃i P H',Í a f' P H' s'/\tn i s'.heap/\(∀b∈fp,H' b=U)/\W i n P H') ?_ m0 ⟨0,σ,H2,I2,h',λb y=>(R b y).1,w0⟩;rintro n s3⟨i,E,H3,I3,c',d',w3⟩;rcases turn i n E H3 w3 with⟨e',qn⟩|⟨go,N,hN,step⟩;·refine Xf hp (ã (T.done a rfl rfl rfl hc i f' s3 E H3 a.xe I3 (a' d') c' e') λr s4⟨hr,I4⟩=>?_);subst hr;exact ZK ⟨E,H3,I4,qn⟩
 · refine Xf hp (ã (T.item a rfl rfl rfl hc i f' s3 E H3 a.xe I3 (a' d') c' go) λr s4⟨p,hr,h4⟩=>?_);subst hr;refine Xf hp (ã h4 λ_ s5⟨x,H5,I5,r5,y5,b',i'⟩=>?_);have k':=I5.pinned (a' i') (T.obj _ _ b');refine Xf hp (ã (hg _ s5 E H5 x p _ k' r5 (step x H5 y5)) λ_ s6⟨g',H6,I6,q6⟩=>?_);refine Xf hp (ã (y _ s6 g' H6 _ I6 q6) λf s7 q7=>?_);have again:∀{w:St}{A:Hp},Í a (f'++fX fp s5.heap) w A s7->N w A->∃j,j<n/\∃i P H',Í a f' P H' s7/\tn i s7.heap/\(∀b∈fp,H' b=U)/\W i j P H':=λ{w A}z n7=>by obtain⟨m',hm,w7⟩:=hN w A n7;refine⟨m',hm,i+1,w,A,z.unpinned,T.keep _ _ _ b' λb y o e=>(z.pin (b,o) (o_ _ (o_ _ (eM y e)))).1,λb y=>?_,w7⟩;obtain⟨o,e,d⟩:=T.obj _ _ b' b y;exact(z.pin (b,o) (o_ _ (o_ _ (eM y e)))).2.1
   cases f with|next=>obtain⟨w,A,z,n7⟩:=q7;exact again z n7|cont=>obtain⟨w,A,z,n7⟩:=q7;exact again z n7|brk=>obtain⟨w,A,z,q7⟩:=q7;exact⟨w,A,z.unpinned,q7⟩|ret v=>obtain⟨x7,w,A,z,r7,q7⟩:=q7;exact⟨x7,w,A,z.unpinned,r7,q7⟩
abbrev R2:=V->V->Hp->VK->Prop
def ÿ(X:C)(f:B->B->Sem B)(r:R2):Prop:=∀(b:List (O×Obj))(s:ge)(a:St)(H:Hp)(x y:V)(v u:B)(Q:VK),Í X b a H s->Ø x v->Ø y u->r x y H Q->u_ (D_ X.prog X.w) X.A (f v u) (EP X b a Q) X.xe s
def UnR(X:C)(f:B->Sem B)(r:V->Hp->VK->Prop):Prop:=∀(b:List (O×Obj))(s:ge)(a:St)(H:Hp)(x:V)(v:B)(Q:VK),Í X b a H s->Ø x v->r x H Q->u_ (D_ X.prog X.w) X.A (f v) (EP X b a Q) X.xe s
def nh(X:C)(f:B)(r:List V->Hp->VK->Prop):Prop:=∀(d:List (O×Obj))(s:ge)(a:St)(H:Hp)(b:List V)(us:List B)(Q:VK),Í X d a H s->Ñ b us->r b H Q->u_ (D_ X.prog X.w) X.A (call f us) (EP X d a Q) X.xe s
noncomputable def tOp(r:R2)(d b:TE):TE:=λa H Q=>d a H λx f=>b a f λy e=>r x y e Q
def tUn(r:V->Hp->VK->Prop)(b:TE):TE:=λa H Q=>b a H λx d=>r x d Q
def rI(C:Int->Int->Prop)(g:Int->Int->V):R2:=λx y H Q=>∃i j,x=.int i/\y=.int j/\C i j/\Q (g i j) H
noncomputable def ŝ(g:Int->Int->V):R2:=λx y H Q=>∃i j,x=.int i/\y=.int j/\Q (g i j) H
def rU(g:Int->V):V->Hp->VK->Prop:=λx H Q=>∃i,x=.int i/\Q (g i) H
theorem O4{o:TE}(N:PE a g Χ)(E:PE a u o){m:List (O×Obj)}{s:ge}{d:St}{H:Hp}{R:V->V->Hp->Prop}(I:Í a m d H s)(h:Χ d H λx n=>o d n λy e=>R x y e){Q:B->ge->Prop}{f:B->B->Sem B}(A:∀v b k x y e,Í a m d e k->Ø x v->Ø y b->R x y e->u_ (D_ a.prog a.w) a.A (f v b) Q a.xe k):u_ (D_ a.prog a.w) a.A (eval g a.env) (λv j=>u_ (D_ a.prog a.w) a.A (eval u a.env) (λb i=>u_ (D_ a.prog a.w) a.A (f v b) Q a.xe i) a.xe j) a.xe s:=by refine ã (N m s d H _ I h) λv p⟨x,n,I1,r,z⟩=>?_;refine ã (E m p d n _ I1 z) λb k⟨y,e,P,q,w⟩=>?_;exact A v b k x y e P r q w
theorem O5{d:TE}{e:Operator}{r:R2}(n:ÿ a (V0 e) r)(p:PE a g Χ)(o:PE a u d):PE a (.BinOp g e u m) (tOp r Χ d):=by intro w s f H Q I h;exact wpAny_BinOp (O4 p o I h λv b i x y A z k j q=>n w i f A x y v b Q z k j q)
theorem O6{d:UnaryOp}{r:V->Hp->VK->Prop}(k:UnR a (unaryOp d) r)(n:PE a g Χ):PE a (.UnaryOp d g m) (tUn r Χ):=by intro e s b H Q I h;exact UnaryOp_ (ã (n e s b H _ I h) λv f⟨x,p,o,i,j⟩=>k e f b p x v Q o i j)
theorem opI{f:B->B->Sem B}{b:Int->Int->Prop}{g:Int->Int->Int}(d:∀(i j:Int)(t u:Tok)(s:ge)(Q:B->ge->Prop)(E:B->ge->Prop),b i j->Q (.int (g i j) s.toks) {s with toks:=s.toks+1}->u_ (D_ a.prog a.w) a.A (f (.int i t) (.int j u)) Q E s):ÿ a f (rI b λi j=>.int (g i j)):=by intro p s o H x y v u Q I m k h;obtain⟨i,j,rfl,rfl,n,q⟩:=h;obtain⟨t,rfl⟩:=m;obtain⟨e,rfl⟩:=k;exact d i j t e s _ _ n ⟨.int (g i j),H,I.tok _,⟨_,rfl⟩,q⟩
theorem RD{f:B->B->Sem B}{g:Int->Int->Int}(b:∀(i j:Int)(t u:Tok)(s:ge)(Q:B->ge->Prop)(E:B->ge->Prop),Q (.int (g i j) s.toks) {s with toks:=s.toks+1}->u_ (D_ a.prog a.w) a.A (f (.int i t) (.int j u)) Q E s):ÿ a f (ŝ λi j=>.int (g i j)):=by intro n s m H x y v u Q I k e h;obtain⟨i,j,rfl,rfl,q⟩:=h;obtain⟨t,rfl⟩:=k;obtain⟨d,rfl⟩:=e;exact b i j t d s _ _ ⟨.int (g i j),H,I.tok _,⟨_,rfl⟩,q⟩
theorem O7{f:B->B->Sem B}{g:Int->Int->Bool}(b:∀(i j:Int)(t u:Tok)(s:ge)(Q:B->ge->Prop)(E:B->ge->Prop),Q (.bool (g i j)) s->u_ (D_ a.prog a.w) a.A (f (.int i t) (.int j u)) Q E s):ÿ a f (ŝ λi j=>.bl (g i j)):=by intro n s m H x y v u Q I k e h;obtain⟨i,j,rfl,rfl,q⟩:=h;obtain⟨t,rfl⟩:=k;obtain⟨d,rfl⟩:=e;exact b i j t d s _ _ ⟨.bl (g i j),H,I,rfl,q⟩
def RE(i j:Int):Prop:=0<j/\j<1073741824
def Ű(i j:Int):Prop:=(-(2^64)<i/\i<2^64)\/(-(2^64)<j/\j<2^64)
theorem Ű.ok(h:Ű n Ω):IntMulOk n Ω:=by
 rcases h with⟨b,a⟩|⟨b,a⟩;·exact .of_left (intBits_le_64 b a)
 ·exact .of_right (intBits_le_64 b a)
theorem op_add:ÿ a (V0 .Add) (ŝ λi j=>.int (i+j)):=RD λ_ _ _ _ _ _ _ q=>add_int q
theorem J9:ÿ a (V0 .Sub) (ŝ λi j=>.int (i-j)):=RD λ_ _ _ _ _ _ _ q=>sub_int q
theorem Ka:ÿ a (V0 .Mult) (rI Ű λi j=>.int (i*j)):=opI λ_ _ _ _ _ _ _ b q=>mul_int q b.ok
theorem FQ:ÿ a (V0 .FloorDiv) (rI RE λi j=>.int (i/j)):=opI λi j _ _ _ _ _ b q=>by have e:(0:Int)<j:=b.1;have d:j<1073741824:=b.2;exact floordiv_int (by omega) (by rw[Int.fdiv_eq_ediv_of_nonneg i (by omega)];exact q) (.inl (ZF (by omega)))
theorem Kb:ÿ a (V0 .Mod) (rI (λ_ j=>0<j) λi j=>.int (i%j)):=opI λi j _ _ _ _ _ b q=>by have d:(0:Int)<j:=b;exact mod_int' (by omega) (by rw[Int.fmod_eq_emod_of_nonneg i (by omega)];exact q)
theorem unI{f:B->Sem B}{g:Int->Int}(b:∀(i:Int)(t:Tok)(s:ge)(Q:B->ge->Prop)(E:B->ge->Prop),Q (.int (g i) s.toks) {s with toks:=s.toks+1}->u_ (D_ a.prog a.w) a.A (f (.int i t)) Q E s):UnR a f (rU λi=>.int (g i)):=by intro j s e H x v Q I d h;obtain⟨i,rfl,q⟩:=h;obtain⟨t,rfl⟩:=d;exact b i t s _ _ ⟨.int (g i),H,I.tok _,⟨_,rfl⟩,q⟩
theorem Kc:UnR a (unaryOp .USub) (rU λi=>.int (-i)):=unI λ_ _ _ _ _ q=>neg_int q
noncomputable def O8:V->V->Bool|.non,.non=>L|.non,.int _=>L|.int _,.non=>L|.non,.bl _=>L|.bl _,.non=>L|.non,.str _=>L|.str _,.non=>L|.int _,.int _=>L|.bl _,.bl _=>L|.str _,.str _=>L|.byt _,.byt _=>L|.int _,.str _=>L|.str _,.int _=>L|.bl _,.str _=>L|.str _,.bl _=>L|_,_=>D
def rEq:R2:=λx y H Q=>O8 x y=L/\Q (.bl (t_ (x=y))) H
def rNe:R2:=λx y H Q=>O8 x y=L/\Q (.bl (!t_ (x=y))) H
theorem sN:t_ (V.int n=V.int Ω)=(n==Ω):=by rw[Vc];simp
variable{H Ä:Bool}
theorem xB:t_ (V.bl H=V.bl Ä)=(H==Ä):=by rw[Vc];simp
variable{o:Str}
theorem sO:t_ (V.str d=V.str o)=(d==o):=by rw[Vc];simp
theorem xC{i j:Array UInt8}:t_ (V.byt i=V.byt j)=(i.toList==j.toList):=by rw[Vc];cases i;cases j;simp
variable{Ê:VK}
theorem bA(I:Í a P Φ h f)(q:Ê (.bl H) h)(e:H=Ä):EP a P Φ Ê (.bool Ä) f:=by subst e;exact⟨.bl H,h,I,rfl,q⟩
theorem op_eq:ÿ a (Ug .Eq) rEq:=by intro k s g H x y v u Q I f b h;obtain⟨e,q⟩:=h;cases x with
 |non=>cases f;cases y with|non=>cases b;exact PySem.EqNone.eq_none_none (bA I q (by simp))|bl j=>cases b;exact PySem.EqNone.eq_none_bool (bA I q (by simp))|int j=>obtain⟨d,rfl⟩:=b;exact PySem.EqNone.eq_none_int (bA I q (by simp))|str j=>obtain⟨d,rfl⟩:=b;exact PySem.EqNone.eq_none_str (bA I q (by simp))|_=>exact absurd (show D=L from e) A_
 |bl i=>cases f;cases y with|non=>cases b;exact PySem.EqNone.eq_bool_none (bA I q (by simp))|bl j=>cases b;exact eq_bool (bA I q xB)|str j=>obtain⟨d,rfl⟩:=b;exact PySem.EqMixed.eq_bool_str (bA I q (by simp))|_=>exact absurd (show D=L from e) A_
 |int i=>obtain⟨t,rfl⟩:=f;cases y with|non=>cases b;exact PySem.EqNone.eq_int_none (bA I q (by simp))|int j=>obtain⟨d,rfl⟩:=b;exact eq_int (bA I q sN)|str j=>obtain⟨d,rfl⟩:=b;exact PySem.EqMixed.eq_int_str (bA I q (by simp))|_=>exact absurd (show D=L from e) A_
 |str i=>obtain⟨t,rfl⟩:=f;cases y with|non=>cases b;exact PySem.EqNone.eq_str_none (bA I q (by simp))|bl j=>cases b;exact PySem.EqMixed.eq_str_bool (bA I q (by simp))|int j=>obtain⟨d,rfl⟩:=b;exact PySem.EqMixed.eq_str_int (bA I q (by simp))|str j=>obtain⟨d,rfl⟩:=b;exact eq_str (bA I q sO)|_=>exact absurd (show D=L from e) A_
 |byt i=>obtain⟨t,rfl⟩:=f;cases y with|byt j=>obtain⟨d,rfl⟩:=b;exact PySem.W.eq_bytes (bA I q xC)|_=>exact absurd (show D=L from e) A_
 |_=>cases y<;>exact absurd (show D=L from e) A_
theorem op_ne:ÿ a (Ug .NotEq) rNe:=by intro k s g H x y v u Q I f b h;obtain⟨e,q⟩:=h;cases x with
 |non=>cases f;cases y with|non=>cases b;exact PySem.EqNone.ne_none_none (bA I q (by simp))|bl j=>cases b;exact PySem.EqNone.ne_none_bool (bA I q (by simp))|int j=>obtain⟨d,rfl⟩:=b;exact PySem.EqNone.ne_none_int (bA I q (by simp))|str j=>obtain⟨d,rfl⟩:=b;exact PySem.EqNone.ne_none_str (bA I q (by simp))|_=>exact absurd (show D=L from e) A_
 |bl i=>cases f;cases y with|non=>cases b;exact PySem.EqNone.ne_bool_none (bA I q (by simp))|bl j=>cases b;exact ne_bool (bA I q (congrArg not xB))|str j=>obtain⟨d,rfl⟩:=b;exact PySem.EqMixed.ne_bool_str (bA I q (by simp))|_=>exact absurd (show D=L from e) A_
 |int i=>obtain⟨t,rfl⟩:=f;cases y with|non=>cases b;exact PySem.EqNone.ne_int_none (bA I q (by simp))|int j=>obtain⟨d,rfl⟩:=b;exact ne_int (bA I q (congrArg not sN))|str j=>obtain⟨d,rfl⟩:=b;exact PySem.EqMixed.ne_int_str (bA I q (by simp))|_=>exact absurd (show D=L from e) A_
 |str i=>obtain⟨t,rfl⟩:=f;cases y with|non=>cases b;exact PySem.EqNone.ne_str_none (bA I q (by simp))|bl j=>cases b;exact PySem.EqMixed.ne_str_bool (bA I q (by simp))|int j=>obtain⟨d,rfl⟩:=b;exact PySem.EqMixed.ne_str_int (bA I q (by simp))|str j=>obtain⟨d,rfl⟩:=b;exact ne_str (bA I q (congrArg not sO))|_=>exact absurd (show D=L from e) A_
 |byt i=>obtain⟨t,rfl⟩:=f;cases y with|byt j=>obtain⟨d,rfl⟩:=b;exact PySem.W.ne_bytes (bA I q (congrArg not xC))|_=>exact absurd (show D=L from e) A_
 |_=>cases y<;>exact absurd (show D=L from e) A_
theorem op_lt:ÿ a (Ug .Lt) (ŝ λi j=>.bl (t_ (i<j))):=O7 λ_ _ _ _ _ _ _ q=>lt_int q
theorem op_le:ÿ a (Ug .LtE) (ŝ λi j=>.bl (t_ (i<=j))):=O7 λ_ _ _ _ _ _ _ q=>le_int q
theorem Kd:ÿ a (Ug .Gt) (ŝ λi j=>.bl (t_ (j<i))):=O7 λ_ _ _ _ _ _ _ q=>gt_int q
theorem xD:ÿ a (Ug .Lt) (λx y H Q=>∃i j,x=.str i/\y=.str j/\Q (.bl (t_ (i.cps.toList<j.cps.toList))) H):=by intro g s e H x y v u Q I d b h;obtain⟨i,j,rfl,rfl,q⟩:=h;obtain⟨t,rfl⟩:=d;obtain⟨f,rfl⟩:=b;exact lt_str (bA I q rfl)
theorem op_in_str:ÿ a (Ug .In) (λx y H Q=>∃i j,x=.str i/\y=.str j/\Q (.bl (!(Uk j i 0 j.length 1).isEmpty)) H):=by intro g s e H x y v u Q I d b h;obtain⟨i,j,rfl,rfl,q⟩:=h;obtain⟨t,rfl⟩:=d;obtain⟨f,rfl⟩:=b;exact in_str (bA I q rfl)
theorem Ea:ÿ a (Ug .Is) (λx y H Q=>y=.non/\Q (.bl (t_ (x=.non))) H):=by intro f s e H x y v u Q I b d h;obtain⟨rfl,q⟩:=h;cases d;refine is_none_gen (bA I q ?_);cases x<;>first|(cases b;rfl)|(obtain⟨t,rfl⟩:=b;rfl)
theorem xE:ÿ a (Ug .IsNot) (λx y H Q=>y=.non/\Q (.bl (!t_ (x=.non))) H):=by intro f s e H x y v u Q I b d h;obtain⟨rfl,q⟩:=h;cases d;refine isnot_none_gen (bA I q ?_);cases x<;>first|(cases b;rfl)|(obtain⟨t,rfl⟩:=b;rfl)
theorem ÿ.or{f:B->B->Sem B}{r g:R2}(h:ÿ a f r)(j:ÿ a f g):ÿ a f (λx y H Q=>r x y H Q\/g x y H Q):=by
 intro i s b H x y v u Q I e d q;rcases q with q|q;·exact h i s b H x y v u Q I e d q
 ·exact j i s b H x y v u Q I e d q
theorem RF(b:s_){a:P'}(h:a≠.In:=by decide)(d:a≠.NotIn:=by decide):TF a b=D:=by
 have f:(a==CmpOp.In)=D:=by cases a<;>first|rfl|exact absurd rfl h
 have e:(a==CmpOp.NotIn)=D:=by cases a<;>first|rfl|exact absurd rfl d
 cases b<;>simp[TF,f,e]
theorem xF{e:TE}{d:P'}{r:R2}(n:ÿ a (Ug d) r)(w:PE a g Χ)(p:PE a u e)(o:TF d u=D):PE a (.Compare g [d] [u] m) (tOp r Χ e):=by intro z s f H Q I h;exact wpAny_Compare1 (O4 w p I h λv b i x y E A k j q=>n z i f E x y v b Q A k j q) o
noncomputable def O9(t:TE):TT:=λa H Q=>t a H λx b=>∃k,x=.bl k/\Q k b
theorem xG{j:TE}{f:P'}{r:R2}(P:ÿ a (Ug f) r)(ha:PE a g Χ)(hb:PE a u j)(hm:TF f u=D):PT a (.Compare g [f] [u] m) (O9 (tOp r Χ j)):=by intro i s d H Q I h;refine wpAny_isTrue_Compare1 (ã (ha i s d H _ I h) λv o⟨x,H1,I1,w,N⟩=>ã (hb i o d H1 _ I1 N) λb n⟨y,H2,I2,q,E⟩=>ã (P i n d H2 x y v b _ I2 w q E) λc s3⟨z,H3,I3,p,k,e,A⟩=>?_) hm;subst e;cases p;exact Vh ⟨H3,I3,A⟩
theorem qF:(sizeLine:Nat)<2^63:=by rw[X_];decide
theorem op_add_str:ÿ a (V0 .Add) (λx y H Q=>∃i j,x=.str i/\y=.str j/\i.length+j.length<=sizeLine/\Q (.str (i++j)) H):=by intro m s g H x y v u Q I e d h;obtain⟨i,j,rfl,rfl,f,q⟩:=h;obtain⟨t,rfl⟩:=e;obtain⟨b,rfl⟩:=d;exact add_str (λb k=>⟨.str (i++j),H,I.tok _,⟨_,rfl⟩,q⟩) f
theorem iL(r:Ñ [ψ] θ):∃u,θ=[u]/\Ø ψ u:=by cases r with|cons b a=>cases a;exact⟨_,rfl,b⟩
theorem Ke{y:V}(r:Ñ [ψ,y] θ):∃u a,θ=[u,a]/\Ø ψ u/\Ø y a:=by cases r with|cons f e=>cases e with|cons d b=>cases b;exact⟨_,_,rfl,f,d⟩
theorem xH(e:a.calm=L):nh a (.builtin "min") (λd H Q=>∃i j,d=[.int i,.int j]/\Q (.int (if j<i then j else i)) H):=by
 intro p s f H d us Q I r h;obtain⟨i,j,rfl,q⟩:=h;obtain⟨u,g,rfl,⟨t,rfl⟩,⟨n,rfl⟩⟩:=Ke r;refine min_two_ints (I.ok.hd e) λo m k=>⟨_,H,I.kept k,?_,q⟩;by_cases b:j<i;·rw[if_pos b,if_pos b];exact⟨_,rfl⟩
 ·rw[if_neg b,if_neg b];exact⟨_,rfl⟩
def SA(K:d_)(x:V)(H:Hp)(n:Nat):Prop:=match x with|.str y=>y.length<=sizeLine/\n=y.length|.byt y=>y.size<=sizeLine/\n=y.size|.ref p=>(∃a,ă K H p a/\n=a.length)\/∃a,ù K H p a/\n=a.length|_=>False
theorem Bt:nh a (.builtin "len") (λb H Q=>∃x n,b=[x]/\SA a.K x H n/\Q (.int n) H):=by intro A s v H b us Q I r h;obtain⟨x,n,rfl,e,q⟩:=h;obtain⟨u,rfl,g⟩:=iL r;have z:=qF;have w:sizeLine=16777216:=X_;cases x with
 |str y=>obtain⟨t,rfl⟩:=g;obtain⟨o,f⟩:y.length<=sizeLine/\n=y.length:=e;subst f;exact len_str (by omega) ⟨.int _,H,I.tok _,⟨_,rfl⟩,q⟩|byt y=>obtain⟨t,rfl⟩:=g;obtain⟨o,f⟩:y.size<=sizeLine/\n=y.size:=e;subst f;exact PySem.W.len_bytes (by omega) ⟨.int _,H,I.tok _,⟨_,rfl⟩,q⟩|ref p=>
 cases g;have f:(∃b,ă a.K H p b/\n=b.length)\/∃b,ù a.K H p b/\n=b.length:=e;rcases f with⟨b,j,f⟩|⟨b,j,f⟩;·subst f;obtain⟨k,i,pl,m⟩:=I.list j;have d:=i.length;exact Calls.call_len_list pl.isList (by simp only[H_];omega) ⟨.int b.length,H,I.tok _,⟨_,by simp only[H_];rw[d]⟩,q⟩
 ·subst f;obtain⟨k,i,pl,m⟩:=I.tuple j;have d:=i.length;exact len_tuple pl (by simp only[H_];omega) ⟨.int b.length,H,I.tok _,⟨_,by simp only[H_];rw[d]⟩,q⟩|_=>exact(show False from e).elim
structure Ň(h:TC)(x dx C:O)(mA:Str->Option B):Prop where
 obj:h.get? x=Z (VC C dx)ns:h.Ns1 dx mA
 ne:dx≠x
variable{Θ:Str->Option B}
theorem xI(n:I.Ns1 e Θ):∃g,I.get? e=Z g/\∀d,YJ d g=Z (Θ d):=by
 obtain⟨o,h,s,j,p,m,_,k⟩:=n;refine⟨o,j,λd=>?_⟩;have b:=k d;unfold nsFind findBy at b;rw[<-Array.find?_toList]at b;unfold YJ;rw[p];dsimp only;split;·rename_i y q;rw[q]at b;exact congrArg Z b
 · rename_i q;rw[q]at b;have a:h.toList.any (·.refKey)=D:=by rw[aa4];intro y i;obtain⟨z,t,f⟩:=m y (V5.mp i);simp[DictEntry.refKey,f]
   have r:¬h.toList.any (·.refKey)=L:=by rw[a];exact A_
   rw[if_neg r];exact congrArg Z b
theorem Ň.look{C:O}(a:Ň I e z C Θ):∃d,PySem.W.InstAt I e (VC C z) C (Z d)/\∀b,YJ b d=Z (Θ b):=let⟨d,f,g⟩:=xI a.ns;⟨d,⟨a.obj,rfl,rfl,f⟩,g⟩
theorem FU{C:O}(X:q.In f.heap)(I:Ň f.heap e z C Θ)(j:W0 q C d=L)(i:XA q C=L)(k:UR q (.ref C) d=Z U)(b:Θ d=Z ω)(a:aa_ ω=L)(h:Ç ω {f with toks:=f.toks+1}):u_ (D_ s r) N (getAttr (.ref e) d H) Ç χ f:=by obtain⟨m,J,g⟩:=I.look;exact PySem.W.get_value X J (Yr j).1 (PySem.W.findObj_own i k rfl (by rw[g,b])) a h
theorem Bu{C a:O}{g:Sem Bool}{Q:B×List B->ge->Prop}(X:q.In f.heap)(I:Ň f.heap e z C Θ)(b:W0 q C d=L)(n:UR q (.ref C) d=Z (Z (.ref a)))(k:Zx q (.ref a)=L)(j:Θ d=U)(h:Q (.ref a,[.ref e]) f):u_ (D_ s r) N (aah (.ref e) d g) Q χ f:=by obtain⟨i,J,m⟩:=I.look;exact PySem.W.method_fn X J (Yr b).1 (Yr b).2 n (beq_iff_eq.mp k) (by show(YJ d i).map (·.isSome)=Z D;rw[m,j];rfl) h
theorem FX{C:O}{Q:Unit->ge->Prop}(X:q.In f.heap)(I:Ň f.heap e z C Θ)(v:UR q (.ref C) "__setattr__"=Z (Z (.builtin "object.__setattr__")))(w:Y1 q C=L)(u:ZN q C d=Z U)(E:XA q C=L)(p:aaQ Θ A)(P:A.length<=sizeLine)(h:∀i,Ň i e z C (λy=>if y=d then Z ω else Θ y)->V2 z f.heap i->Q () {f with heap:=i,toks:=f.toks+2}):u_ (D_ s r) N (setAttr (.ref e) d ω) Q χ f:=by obtain⟨od,J,hl⟩:=I.look;refine PySem.W.set_plain X J v (PySem.W.osa_open (s:={f with toks:=f.toks+1}) (r:=U) X J w u λb=>?_);obtain⟨cd,H,m⟩:=PySem.W.any_some E;have o:f.heap.get? e=Z ⟨.ref C,Z z,.plain,#[]⟩:=I.obj;refine e_ (l_ (e_ (e_ (wpAny_loadPart o (e_ (PySem.W.Looks.here (s:={f with toks:=f.toks+1}) (PySem.W.looks_clsIn X H) ?_))))));rw[m];refine l_ (a:=Z z) (e_ (l_ (e_ ?_)));refine wpAny_nsSet1 (s:={f with toks:=f.toks+1}) I.ns λi g a=>?_;obtain⟨oD,a',b',j,k,n⟩:=g.count (PySem.Within.cons d ω p);refine e_ (wpAny_lookBehind j (by rw[k];exact pastItsLine_dict (TU n (by rw[TQ];omega))) ?_);exact l_ (h _ ⟨(a.2 _ (Uq I.ne)).trans I.obj,g,I.ne⟩ a)
theorem Bv{R:aaG->ge->Prop}{b:List (Str×B)}(X:q.In f.heap)(i:abu q e=L)(j:UR q (.ref e) "__init__"=Z (Z (.ref z)))(k:PySem.W.typeIn q (.ref z)=Z (.type "function"))(h:WN (D_ s r) (N.under (.builtin "type.__call__" ⟨.ref e::θ,b⟩)) (.call (.ref z) ⟨.ref (f.heap.objs.size+1)::θ,b⟩) (PySem.W.InitBack (f.heap.objs.size+1) R) {f with heap:=(f.heap.push U7).push (VC e f.heap.objs.size)}):WN (D_ s r) N (.call (.ref e) ⟨θ,b⟩) R f:=by obtain⟨m,g,d,t,os⟩:=f;exact PySem.W.make_core (PySem.W.makes_of X i) (PySem.W.looks_findIn X j) (λa=>PySem.W.bind_fn X a k) (.inl rfl) h
noncomputable def nN(f:Str)(v:V):List (Str×V)->List (Str×V)|[]=>[(f,v)]|(g,x)::r=>if g=f then(g,v)::r else(g,x)::nN f v r
theorem lU(f g:Str)(v:V):∀fs:List (Str×V),(nN f v fs).lookup g=if g=f then Z v else fs.lookup g
 |[]=>by
  show Xu g [(f,v)]=_;by_cases h:g=f;·have a:(g==f)=L:=beq_iff_eq.mpr h;simp only[Xu,a,if_pos h]
  ·have a:(g==f)=D:=beq_eq_false_iff_ne.mpr h;simp only[Xu,a,if_neg h]|(k,x)::r=>by
  have d:=lU f g v r;rw[show nN f v ((k,x)::r)=(if k=f then(k,v)::r else(k,x)::nN f v r)from rfl];by_cases b:k=f
  · rw[if_pos b];by_cases h:g=k;·have a:(g==k)=L:=beq_iff_eq.mpr h;simp only[Xu,a,if_pos (h.trans b)]
    ·have a:(g==k)=D:=beq_eq_false_iff_ne.mpr h;simp only[Xu,a,if_neg (λe:g=f=>h (e.trans b.symm))]
  · rw[if_neg b];by_cases h:g=k;·have a:(g==k)=L:=beq_iff_eq.mpr h;simp only[Xu,a,if_neg (λe:g=f=>b (h.symm.trans e))]
    ·have a:(g==k)=D:=beq_eq_false_iff_ne.mpr h;simp only[Xu,a];exact d
theorem lV(f:Str)(v:V):∀fs:List (Str×V),f∈(nN f v fs).map (·.1)/\∀g,g∈fs.map (·.1)->g∈(nN f v fs).map (·.1)
 |[]=>⟨by simp[nN],λg h=>by simp at h⟩|(k,x)::r=>by
  obtain⟨b,i2⟩:=lV f v r;rw[show nN f v ((k,x)::r)=(if k=f then(k,v)::r else(k,x)::nN f v r)from rfl];by_cases a:k=f;·rw[if_pos a];subst a;exact⟨by simp,λg h=>by simpa using h⟩
  · rw[if_neg a];refine⟨?_,λg h=>?_⟩;·rw[E_];exact r_ _ b
    · rw[E_]at h⊢;rcases uk.mp h with e|e;·exact uk.mpr (.inl e)
      ·exact r_ _ (i2 g e)
theorem lW(f:Str)(v:V):∀fs:List (Str×V),(nN f v fs).length<=fs.length+1
 |[]=>by simp[nN]|(k,x)::r=>by
  have b:=lW f v r;rw[show nN f v ((k,x)::r)=(if k=f then(k,v)::r else(k,x)::nN f v r)from rfl];by_cases a:k=f;·rw[if_pos a,TQ,TQ];omega
  ·rw[if_neg a,TQ,TQ];omega
theorem Č.some_of{o:Option B}(r:Č (Z ψ) o):∃u,o=Z u/\Ø ψ u:=by cases o with|none=>exact(show False from r).elim|some u=>exact⟨u,rfl,r⟩
theorem Č.none_of{o:Option B}(r:Č U o):o=U:=by cases o with|none=>rfl|some u=>exact(show False from r).elim
theorem xJ(r:Ø ψ ω):aa_ ω=L:=by cases ψ with|non=>cases(show ω=J_ from r);rfl|bl b=>cases(show ω=S_ b from r);rfl|int i=>obtain⟨t,e⟩:=(show∃t,ω=Zg i t from r);cases e;rfl|str x=>obtain⟨t,e⟩:=(show∃t,ω=Wh x t from r);cases e;rfl|byt b=>obtain⟨t,e⟩:=(show∃t,ω=Value.bytes b t from r);cases e;rfl|flt b=>obtain⟨t,e⟩:=(show∃t,ω=abr b t from r);cases e;rfl|ref a=>cases(show ω=z_ a from r);rfl|ty n=>cases(show ω=rl n from r);rfl
theorem oU{k:O}{j:List (Str×V)}(m:ĉ s r h I)(g:h e=Z (.ins z k j)):∃i,Ň I e k z i/\(∀f,Č (j.lookup f) (i f))/\aaQ i (j.map (·.1))/\j.length<=1000/\h k=Z (.own e):=by obtain⟨d,a,ne,o,i,n,b,q⟩:=(show å s r h I e (.ins z k j)from m e _ g);exact⟨i,⟨o,n,ne⟩,b,q,a,d⟩
structure Š(K:d_)(C:O):Prop where
 pg:W0 K C Str.empty=L
 hd:XA K C=L
 po:Y1 K C=L
 sa:UR K (.ref C) "__setattr__"=Z (Z (.builtin "object.__setattr__"))
theorem Š.get(c:Š q e)(f:Str):W0 q e f=L:=c.pg
def đ(K:d_)(C:O)(f:Str):Prop:=UR K (.ref C) f=Z U
theorem đ.taker(n:đ q e d):ZN q e d=Z U:=by unfold ZN;rw[show UR q (.ref e) d=Z U from n];rfl
structure Jt(K:d_)(C:O)(m:Str)(f:O):Prop where
 at_:UR K (.ref C) m=Z (Z (.ref f))fn:Zx K (.ref f)=L
 kp:UK K (.ref f)=L
theorem vV{q:O}{m:List (Str×V)}(I:Í a P Φ h f)(g:h e=Z (.ins z q m))(c:Š a.K z)(n:đ a.K z d)(l:m.lookup d=Z ψ)(b:∀u j,Í a P Φ h j->Ø ψ u->Ç u j):u_ (D_ a.prog a.w) N (getAttr (.ref e) d H) Ç χ f:=by obtain⟨o,i,r,_,_,_⟩:=oU I.hok g;obtain⟨u,p,k⟩:=Č.some_of (ψ:=ψ) (o:=o d) (by rw[<-l];exact r d);exact FU I.kIn i (c.get d) c.hd n p (xJ k) (b u _ (I.tok _) k)
theorem nO{q:O}{m:List (Str×V)}{g:O}{n:Sem Bool}{Q:B×List B->ge->Prop}(I:Í a P Φ h f)(i:h e=Z (.ins z q m))(c:Š a.K z)(k:Jt a.K z d g)(l:m.lookup d=U)(b:Q (.ref g,[.ref e]) f):u_ (D_ a.prog a.w) N (aah (.ref e) d n) Q χ f:=by obtain⟨o,j,r,_,_,_⟩:=oU I.hok i;have p:o d=U:=Č.none_of (by rw[<-l];exact r d);exact Bu I.kIn j (c.get d) k.at_ k.fn p b
theorem vW{s:O}{p:List (Str×V)}{Q:Unit->ge->Prop}(I:Í a P Φ h f)(k:h e=Z (.ins z s p))(c:Š a.K z)(n:đ a.K z d)(hl:p.length<1000)(H:Ø ψ ω)(m:∀w,Í a P Φ (Þ h e (.ins z s (nN d ψ p))) w->Q () w):u_ (D_ a.prog a.w) N (setAttr (.ref e) d ω) Q χ f:=by
 obtain⟨y,j,r,v,_,A⟩:=oU I.hok k;have hz:(p.map (·.1)).length<=sizeLine:=by rw[P_,X_];omega
 refine FX I.kIn j c.sa c.po n.taker c.hd v hz λh' u E=>m _ ?_;have hd:∃o,h'.get? s=Z o:=let⟨o,_,_,e',_⟩:=u.ns;⟨o,e'⟩;refine I.write (x:=e) (e:=s) (by rw[k];exact V6) (.inr A) (λb q hb i=>(E.2 b hb).trans i) hd ?_;refine⟨by rw[ax j.ne];exact A,?_,j.ne,u.obj,_,u.ns,λg=>?_,λg hg=>?_⟩;·have:=lW d ψ p;omega
 · show Č ((nN d ψ p).lookup g) (if g=d then Z ω else y g);rw[lU];by_cases q:g=d;·rw[if_pos q,if_pos q];exact H
   ·rw[if_neg q,if_neg q];exact r g
 · by_cases q:g=d;·rw[q];exact(lV d ψ p).1
   ·refine(lV d ψ p).2 g (v g λi=>hg ?_);show(if g=d then Z ω else y g)=U;rw[if_neg q];exact i
theorem Í.made(I:Í a P Φ h f):Í a P Φ (Þ (Þ h f.heap.objs.size (.own (f.heap.objs.size+1))) (f.heap.objs.size+1) (.ins e f.heap.objs.size [])) {f with heap:=(f.heap.push U7).push (VC e f.heap.objs.size)}:=by
 have g:(f.heap.push U7).get? f.heap.objs.size=Z U7:=v_ f.heap rfl;have m:((f.heap.push U7).push (VC e f.heap.objs.size)).get? (f.heap.objs.size+1)=Z (VC e f.heap.objs.size):=by have:=v_ (f.heap.push U7) (o:=VC e f.heap.objs.size) rfl;rwa[Ur]at this
 have k:(f.heap.push U7).Ns f.heap.objs.size (λ_=>U):=⟨U7,#[],_,g,rfl,(λd j=>absurd j (by simp)),λ_=>rfl⟩;have n:=I.laid (a:=f.heap.objs.size) (o:=.own (f.heap.objs.size+1)) (h':=f.heap.push U7) (t':=f.toks) (λb u q=>j_ _ q) (pi _) ⟨_,g⟩;refine n.laid (a:=f.heap.objs.size+1) (o:=.ins e f.heap.objs.size []) (t':=f.toks) (λb u q=>j_ _ q) (YC (Ur _ _)) ?_;have ne:f.heap.objs.size≠f.heap.objs.size+1:=TY (Zo _);refine⟨by rw[ax ne,av],Ua _,ne,m,λ_=>U,(Heap.Ns1.of_empty k).at λo q=>j_ _ q,λ_=>V6,λy i=>absurd rfl i⟩
theorem FY{a:Env}(e:Uy g d a (eval g a)=eval g a)(h:u_ (D_ s r) N (eval g a) (λo b=>u_ (D_ s r) N (getAttr o d L) Ç χ b) χ f):u_ (D_ s r) N (eval (.Attribute g d m) a) Ç χ f:=Attribute_any_ h (by rw[arm_eval_Attribute,e])
noncomputable def SD(K:d_)(e:TE)(f:Str):TE:=λd H Q=>e d H λx b=>∃a C g fs v,x=.ref a/\b a=Z (.ins C g fs)/\Š K C/\đ K C f/\fs.lookup f=Z v/\Q v b
def SE(K:d_)(i h:TE)(f:Str):TS:=λb d H=>h d H λy j=>i d j λx g=>∃a C e fs,x=.ref a/\g a=Z (.ins C e fs)/\Š K C/\đ K C f/\fs.length<1000/\b.nx d (Þ g a (.ins C e (nN f y fs)))
theorem Eb(k:PE a g Χ)(o:Uy g d a.env (eval g a.env)=eval g a.env):PE a (.Attribute g d m) (SD a.K Χ d):=by intro p s f H Q I h;refine FY o (ã (k p s f H _ I h) λu P⟨x,A,z,i,b,e,dx,fs,v,r,w,c,n,l,q⟩=>?_);subst r;obtain rfl:u=z_ b:=i;exact vV z w c n l λE N y j=>⟨v,A,y,j,q⟩
theorem Kf{k:TE}(P:PE a g Χ)(E:PE a u k)(N:Ux u (Z (.Attribute g d v)) m.line a.env=pure D):PS a (.Assign [.Attribute g d v] u m) (SE a.K Χ k d):=by intro o s j H f I h;refine plainObj_wpAny_Assign_Attribute (ã (E o s j H _ I h) λe p⟨y,H1,I1,r,q⟩=>ã (P o p j H1 _ I1 q) λA s2⟨x,H2,I2,w,b,i,dx,fs,ex,ea,c,n,l,z⟩=>?_) N;subst ex;obtain rfl:A=z_ b:=w;exact vW I2 ea c n l r λs3 I3=>⟨j,_,I3,z⟩
inductive uG(K:d_)(H:Hp):V->B->Prop where|non:uG K H .non (.type "NoneType")|bl(x:Bool):uG K H (.bl x) (.type "bool")|int(i:Int):uG K H (.int i) (.type "int")|str(x:Str):uG K H (.str x) (.type "str")|flt(x:UInt64):uG K H (.flt x) (.type "float")|lst{a:O}{xs:List V}(e:H a=Z (.lst xs)):uG K H (.ref a) (.type "list")|frz{a:O}{o:Obj}{xs:List V}(e:H a=Z (.frz o (.lst xs))):uG K H (.ref a) (.type "list")|tup{a:O}{xs:List V}(e:H a=Z (.tup xs)):uG K H (.ref a) (.type "tuple")|dK{a:O}{kvs:List (ô×V)}(e:H a=Z (.dK kvs)):uG K H (.ref a) (.type "dict")|dT{a:O}{kvs:List (List ô×V)}(e:H a=Z (.dT kvs)):uG K H (.ref a) (.type "dict")|ins{a C dx:O}{fs:List (Str×V)}(e:H a=Z (.ins C dx fs))(cl:Š K C)(ha:UR K (.ref C) "__class__"=Z (Z (.builtin "object.__class__")))(hn:PySem.W.specialIn K (.builtin "object.__class__") "__get__"=Z (Z (.builtin "getset_descriptor.__get__")))(htk:PySem.W.takesIn K (.builtin "object.__class__")=Z L)(hm:PySem.W.mroIn K C (.type "object")=Z L):uG K H (.ref a) (.ref C)
theorem xK{u t:B}(I:Í a P Φ h f)(k:Ø ψ u)(ty:uG a.K h ψ t)(e:Wg a.K t ω=Z H)(d:∀tk,Ç (.bool H) {f with toks:=tk}):u_ (D_ a.prog a.w) N (call (.builtin "isinstance") [u,ω]) Ç χ f:=by cases ty with|non=>cases(show u=J_ from k);exact U0 PySem.W.kitx_none I.kIn V6 e (λz=>nomatch z) d|bl y=>cases(show u=S_ y from k);exact U0 PySem.W.kitx_bool I.kIn V6 e (λz=>nomatch z) d|int i=>obtain⟨t,q⟩:=(show∃t,u=Zg i t from k);cases q;exact U0 PySem.W.kitx_int I.kIn V6 e (λz=>nomatch z) d|str y=>obtain⟨t,q⟩:=(show∃t,u=Wh y t from k);cases q;exact U0 PySem.W.kitx_str I.kIn V6 e (λz=>nomatch z) d|flt y=>obtain⟨t,q⟩:=(show∃t,u=abr y t from k);cases q;exact U0 PySem.W.kitx_float I.kIn V6 e (λz=>nomatch z) d|@lst b v m=>cases(show u=z_ b from k);obtain⟨_,_,n,_,r⟩:=(show å a.prog a.w h f.heap b (.lst v)from I.hok b _ m);exact U0 aaR I.kIn ⟨_,r,rfl⟩ e (λz=>nomatch z) d|@frz b ob v m=>cases(show u=z_ b from k);obtain⟨_,_,_,n,_,r⟩:=(show å a.prog a.w h f.heap b (.frz ob (.lst v))from I.hok b _ m);exact U0 aaR I.kIn ⟨_,r,rfl⟩ e (λz=>nomatch z) d|@tup b v m=>cases(show u=z_ b from k);obtain⟨_,_,_,p⟩:=(show å a.prog a.w h f.heap b (.tup v)from I.hok b _ m);obtain⟨o,r,w,_⟩:=p;exact U0 PySem.W.kitx_tuple I.kIn ⟨o,r,w⟩ e (λz=>nomatch z) d|@dK b s m=>cases(show u=z_ b from k);obtain⟨_,_,vs,_,p⟩:=(show å a.prog a.w h f.heap b (.dK s)from I.hok b _ m);obtain⟨o,es,ep,r,w,_⟩:=p;exact U0 aaS I.kIn ⟨o,r,w.1⟩ e (λz=>nomatch z) d|@dT b s m=>cases(show u=z_ b from k);obtain⟨_,_,v,_,o,es,ep,r,w,_⟩:=(show å a.prog a.w h f.heap b (.dT s)from I.hok b _ m);exact U0 aaS I.kIn ⟨o,r,w.1⟩ e (λz=>nomatch z) d|@ins b j dx fs m E ha hn A hm=>cases(show u=z_ b from k);obtain⟨mA,g,_⟩:=oU I.hok m;obtain⟨od,J,_⟩:=g.look;exact U0 (PySem.W.kitx_own (E.get _) E.hd ha hn A hm) I.kIn J e (λz=>nomatch z) d
structure Ý(k:Nat)(A:C_):Prop where
 hd:A.handled=U
 dp:A.depth+3*k+5<recursionLimit
 un:A.units+16*k+200<cLine
 gd:A.guards=Z []
theorem Ý.mono(r:Ý k N)(h:b<=k):Ý b N:=⟨r.hd,by have:=r.dp;omega,by have:=r.un;omega,r.gd⟩
theorem Ý.deeper(r:Ý (b+1) N)(a:Env):Ý b (N.deeper a):=⟨r.hd,by have:=r.dp;show N.depth+1+3*b+5<_;omega,by have:=r.un;show N.units+3+16*b+200<_;omega,r.gd⟩
theorem Ý.in1(r:Ý (b+1) N):Ý b N.in1:=⟨r.hd,by have:=r.dp;show N.depth+3*b+5<_;omega,by have:=r.un;show N.units+1+16*b+200<_;omega,r.gd⟩
theorem vX{a:List (Str×B)}:(N.under (.builtin "type.__call__" ⟨.ref e::θ,a⟩)).depth=N.depth+1:=by first|rfl|simp[ZE,Code.weight,Code.isCreation,Code.isGuard,Code.isCaller,Code.frames,aaV,guardIds]
theorem vY{a:List (Str×B)}:(N.under (.builtin "type.__call__" ⟨.ref e::θ,a⟩)).units=N.units+1:=by first|rfl|simp[ZE,Code.cUnits,Code.frames,aaV]
theorem Ý.make(r:Ý (b+1) N)(C:O)(a:List B)(d:List (Str×B)):Ý b (N.under (.builtin "type.__call__" ⟨.ref C::a,d⟩)):=⟨r.hd,by have:=r.dp;rw[vX];omega,by have:=r.un;rw[vY];omega,by have:=r.gd;simp[ZE,Code.guards,Code.isGuard,guardIds,pushGuards,this]⟩
theorem Ý.depth(r:Ý b N):N.depth<recursionLimit:=by have:=r.dp;omega
theorem Ý.units(r:Ý b N):N.units+64<cLine:=by have:=r.un;omega
theorem Ý.units0(r:Ý b N):N.units<cLine:=by have:=r.un;omega
noncomputable def RG:TA:=λ_ H Q=>Q [] H
noncomputable def Pa(e:TE)(d:TA):TA:=λa H Q=>e a H λx g=>d a g λb f=>Q (x::b) f
theorem uH:PA a [] RG:=λ_ _ _ _ H Q I h=>XJ ⟨[],H,I,.nil,h⟩
theorem kB{t:TA}(p:PE a g Χ)(o:PA a w t)(n:k_ (g::w) a.env=(D,eval g a.env)::k_ w a.env:=by rfl):PA a (g::w) (Pa Χ t):=by intro pos d s b H Q I h;rw[n];show u_ _ _ (spliced ((D,eval g a.env)::TW pos (k_ w a.env))) _ _ s;refine Ww (ã (p d s b H _ I h) λu f⟨x,y,r,j,m⟩=>?_);exact ã (o pos d f b y _ r m) λus z⟨e,v,q,i,k⟩=>⟨x::e,v,q,.cons j i,k⟩
def SF(t:TA):TE:=λd H Q=>t d H λa b=>a.length<=sizeLine/\∀p,b p=U->Q (.ref p) (Þ b p (.tup a))
def SG(t:TA):TE:=λd H Q=>t d H λa b=>a.length<=sizeLine/\∀p,b p=U->Q (.ref p) (Þ b p (.lst a))
theorem Kg{t:TA}{k}(h:PA a w t):PE a (.Tuple w k m) (SF t):=by intro p s i H Q I n;refine wpAny_Tuple_spliced (ã (h m p s i H _ I n) λus d⟨j,g,f,r,z,q⟩=>⟨by rw[<-r.length];exact z,?_⟩);have o:g d.heap.objs.size=U:=f.hok.fresh (pi _);refine⟨.ref d.heap.objs.size,Þ g d.heap.objs.size (.tup j),f.laid (t':=d.toks) (λb u e=>j_ _ e) (pi _) ?_,rfl,q _ o⟩;exact⟨z,us,r,⟨_,v_ _ rfl,rfl,_,rfl⟩⟩
theorem xL{t:TA}(h:PA a w t):PE a (.List w m) (SG t):=by intro o s i H Q I k;refine wpAny_List_spliced (ã (h m o s i H _ I k) λus d⟨j,g,f,r,z,q⟩=>⟨by rw[<-r.length];exact z,?_⟩);have n:g d.heap.objs.size=U:=f.hok.fresh (pi _);refine⟨.ref d.heap.objs.size,Þ g d.heap.objs.size (.lst j),f.laid (t':=d.toks) (λb u e=>j_ _ e) (pi _) ?_,rfl,q _ n⟩;exact⟨z,us,0,r,v_ _ rfl⟩
abbrev Sp:=List V->Hp->VK->XK->Prop
abbrev ŀ:=List Env->Hp->ge->XK->B->ge->Prop
structure ŉ(P:n_)(w:x_)(K:d_)(mg:Str->Option B)(base:TC)(A:C_)(outer:List Env)(s:ge)(H:Hp):Prop where
 frames:A.frames=Z outer
 mod:Mod K mg base
 bs:∀b o,base.get? b=Z o->s.heap.get? b=Z o/\H b=U
 bsz:base.objs.size<=s.heap.objs.size
 funs:s.heap.FunFrames base outer
 frf:∀b∈frs outer,H b=U
 hok:ĉ P w H s.heap
 bare:YA s.gens
def CE(a:List Env)(P:n_)(w:x_)(H:Hp)(s:ge)(Q:VK)(u:B)(b:ge):Prop:=∃v d,b.os=s.os/\YA b.gens/\Un (frs a) [] H d s.heap b.heap/\ĉ P w d b.heap/\Ø v u/\Q v d
def CR(d:ŀ)(a:List Env)(P:n_)(w:x_)(H:Hp)(s:ge)(Q:VK)(E:XK)(r:aaG)(b:ge):Prop:=match r with|.ok (.ret u)=>CE a P w H s Q u b|.ok _=>False|.error e=>d a H s E e b
structure ì(P:n_)(w:x_)(K:d_)(mg:Str->Option B)(base:TC)(CX:ŀ)(k:Nat)(f:O)(fd:UD)(ps:List Str)(sp:Sp):Prop where
 len:∀vs H Q E,sp vs H Q E->vs.length=ps.length
 run:∀(A:C_)(outer:List Env)(s:ge)(H:Hp)(args:Args)(us:List B)(vs:List V)(Q:VK)(E:XK),Ý k A->ŉ P w K mg base A outer s H->aaX s fd args (ps.zip us)->Ñ vs us->sp vs H Q E->WN (D_ P w) A (.call (.ref f) args) (CR CX outer P w H s Q E) s
variable{Ã:UD}
theorem ì.mono{j:ŀ}{i:Sp}(F:ì s r q Θ I j b e Ã A i)(h:b<=k):ì s r q Θ I j k e Ã A i:=⟨F.len,λd f a H g us m Q E n=>F.run d f a H g us m Q E (n.mono h)⟩
theorem ŉ.make{a:List Env}(e:ŉ s r q Θ I N a f h)(C:O)(b:List B)(d:List (Str×B)):ŉ s r q Θ I (N.under (.builtin "type.__call__" ⟨.ref C::b,d⟩)) a f h:=⟨by first|exact e.frames|(simpa[ZE,Code.envs,aaV,pushEnvs]using e.frames),e.mod,e.bs,e.bsz,e.funs,e.frf,e.hok,e.bare⟩
theorem Í.env0(I:Í a P Φ h f):ŉ a.prog a.w a.K a.mg a.base a.A a.stack f h:=⟨I.ok.frames,I.ok.mod,I.bs,TU I.ok.bsz I.sz,I.stack,I.stkFree,I.hok,I.bare⟩
theorem Í.after{j:ge}(I:Í a P Φ h f)(e:CE a.stack a.prog a.w h f Ê ω j):EP a P Φ Ê ω j:=by obtain⟨v,o,os,i,un,m,r,q⟩:=e;obtain⟨n,g,d,t,k⟩:=j;obtain rfl:k=f.os:=os;exact⟨v,o,I.call (h':=n) (g':=g) (d':=d) (t':=t) (ch:=[]) un m i (λb z=>absurd z (by simp)),r,q⟩
noncomputable def Pb(e:Sp)(a:List V)(E:XK)(t:TA):TE:=λb H Q=>t b H λd f=>e (d++a) f Q E
noncomputable def Kh(C:O)(m:Str)(h:Sp)(b:List V)(E:XK)(g:TE)(t:TA):TE:=λd H Q=>g d H λx e=>∃a i fs,x=.ref a/\e a=Z (.ins C i fs)/\fs.lookup m=U/\t d e λf j=>h (x::(f++b)) j Q E
def Pc(C:O)(g:Sp)(d:List V)(E:XK)(t:TA):TE:=λe H Q=>t e H λf b=>∀x a,b x=U->b a=U->a≠x->g (.ref x::(f++d)) (Þ (Þ b a (.own x)) x (.ins C a [])) (λv h=>v=.non/\Q (.ref x) h) E
def î(K:d_)(d:UD)(a:List Str)(b:List B):Prop:=∀(s:ge)(us:List B),K.In s.heap->(us++b).length=a.length->aaX s d ⟨us,[]⟩ (a.zip (us++b))
theorem î.all(h:∀us:List B,us.length=A.length->aaP Ã ⟨us,[]⟩=pure (A.zip us)):î q Ã A []:=λs us _ a=>by rw[VE]at a⊢;exact .of_eq (h us a)
def jS(f:ŀ)(X:C)(E:XK):Prop:=∀(d:List (O×Obj))(b:St)(H:Hp)(s:ge)(e:B)(a:ge),Í X d b H s->f X.stack H s E e a->X.xe e a
theorem xM{o:ŀ}{m:Sp}{E:XK}{i:List B}{k:List V}(F:ì a.prog a.w a.K a.mg a.base o b e Ã A m)(s:Ý b a.A)(y:î a.K Ã A θ)(w:Ñ η θ)(q:jS o a E)(I:Í a P Φ h f)(r:Ñ k i)(d:m (k++η) h Ê E):u_ (D_ a.prog a.w) a.A (call (.ref e) i) (EP a P Φ Ê) a.xe f:=by
 have n:Ñ (k++η) (i++θ):=r.append w;have v:(i++θ).length=A.length:=by rw[<-n.length];exact F.len _ _ _ _ d
 refine aaD (WZ (F.run a.A a.stack f h ⟨i,[]⟩ (i++θ) (k++η) Ê E s I.env0 (y f i I.kIn v) n d) λr p j=>?_);cases r with|error g=>exact q P Φ h f g p I j|ok z=>cases z with|ret u=>exact I.after j|next=>exact Uf j|brk=>exact Uf j|cont=>exact Uf j
theorem oV{n:ŀ}{j:Sp}{E:XK}{t:TA}(F:ì a.prog a.w a.K a.mg a.base n b e Ã A j)(u:Ý b a.A)(N:Gl a d)(y:a.mg d=Z (.ref e))(z:UK a.K (.ref e)=L)(hb:î a.K Ã A θ)(hd:Ñ η θ)(p:jS n a E)(ha:PA a (g::w) t)(i:(d==("__debug__":Str))=D:=by decide)(P:k_ (g::w) a.env=(D,eval g a.env)::k_ w a.env:=by rfl)(f:(TW v (k_ w a.env)).any (·.1)=D:=by rfl):PE a (.Call (.Name d m) (g::w) [] v) (Pb j η E t):=by intro f' s o H Q I h;refine Vm (kA I N y ?_ i);refine YK (h₀:=a.base) I.ok.mod.kin z (ã (ha v f' s o H _ I h) λus s1⟨vs,H1,k,r,q⟩=>⟨k.kIn,?_⟩) P f;exact xM F u hb hd p k r q
theorem FZ{CX:ŀ}{o:Sp}{E:XK}{t:TA}{p:Sem Bool}(he:PE a u Χ)(c:Š a.K z)(N:Jt a.K z d e)(F:ì a.prog a.w a.K a.mg a.base CX b e Ã A o)(hr:Ý b a.A)(hb:î a.K Ã A θ)(hd:Ñ η θ)(hx:jS CX a E)(ha:PA a (g::w) t)(j:k_ (g::w) a.env=(D,eval g a.env)::k_ w a.env:=by rfl)(k:(TW m (k_ w a.env)).any (·.1)=D:=by rfl)(ht:eval (.Call (.Attribute u d v) (g::w) [] m) a.env=(do
 let y<-eval u a.env
 Zu v.atName let(e,first)<-WY [y] (aah y d p)callWith m e first (TW m (k_ (g::w) a.env)) (Vy m (UN [] a.env))):=by rfl):PE a (.Call (.Attribute u d v) (g::w) [] m) (Kh z d o η E Χ t):=by intro P s n H Q I h;refine ZY (pl:=p) (ã (he P s n H _ I h) λi s1⟨x,H1,I1,rx,f,dx,fs,ex,ea,l,q⟩=>?_) ht;subst ex;obtain rfl:i=z_ f:=rx;refine nO I1 ea c N l ?_;refine YK (first:=[.ref f]) (h₀:=a.base) I.ok.mod.kin N.kp (ã (ha m P s1 n H1 _ I1 q) λus s2⟨vs,H2,I2,r,q2⟩=>⟨I2.kIn,?_⟩) j k;exact xM (i:=.ref f::us) (k:=.ref f::vs) F hr hb hd hx I2 (.cons rfl r) q2
theorem oW{p:ŀ}{j:Sp}{E:XK}{k:Sem Bool}(he:PE a g Χ)(c:Š a.K z)(o:Jt a.K z d e)(F:ì a.prog a.w a.K a.mg a.base p b e Ã A j)(P:Ý b a.A)(hb:î a.K Ã A θ)(hd:Ñ η θ)(y:jS p a E)(N:eval (.Call (.Attribute g d v) [] [] m) a.env=(do
 let n<-eval g a.env
 Zu v.atName let(e,first)<-WY [n] (aah n d k)callWith m e first (TW m (k_ [] a.env)) (Vy m (UN [] a.env))):=by rfl):PE a (.Call (.Attribute g d v) [] [] m) (Kh z d j η E Χ RG):=by intro f' s r H Q I h;refine ZY (pl:=k) (ã (he f' s r H _ I h) λu s1⟨x,H1,i,w,f,dx,fs,ex,ea,l,q⟩=>?_) N;subst ex;obtain rfl:u=z_ f:=w;refine nO i ea c o l ?_;exact PySem.W.callWith_K0 (first:=[.ref f]) i.kIn o.kp (xM (i:=[.ref f]) (k:=[.ref f]) F P hb hd y i (.cons rfl .nil) q)
structure Mk(K:d_)(C f:O):Prop where
 makes:abu K C=L
 init:UR K (.ref C) "__init__"=Z (Z (.ref f))fn:Zx K (.ref f)=L
 kp:UK K (.ref C)=L
theorem Bw{s:ŀ}{o:Sp}{E:XK}{j:List B}{n:List V}(M:Mk a.K z e)(F:ì a.prog a.w a.K a.mg a.base s b e Ã A o)(hr:Ý (b+1) a.A)(hb:î a.K Ã A θ)(hd:Ñ η θ)(N:jS s a E)(I:Í a P Φ h f)(r:Ñ n j)(g:∀x k,h x=U->h k=U->k≠x->o (.ref x::(n++η)) (Þ (Þ h k (.own x)) x (.ins z k [])) (λv H2=>v=.non/\Ê (.ref x) H2) E):u_ (D_ a.prog a.w) a.A (call (.ref z) j) (EP a P Φ Ê) a.xe f:=by
 have q:=g (f.heap.objs.size+1) f.heap.objs.size (I.hok.fresh (Y6 _)) (I.hok.fresh (pi _)) (TY (Zo _));have m:=Í.made (e:=z) I;have p:Ñ (V.ref (f.heap.objs.size+1)::(n++η)) (z_ (f.heap.objs.size+1)::(j++θ)):=.cons rfl (r.append hd);have hl:(z_ (f.heap.objs.size+1)::j++θ).length=A.length:=by have d:=p.length;rw[F.len _ _ _ _ q]at d;exact d.symm
 refine aaD (Bv (z:=e) I.kIn M.makes M.init (beq_iff_eq.mp M.fn) (WZ (F.run _ a.stack _ _ ⟨z_ (f.heap.objs.size+1)::j,[]⟩ (z_ (f.heap.objs.size+1)::(j++θ)) _ _ E (hr.make z j []) (m.env0.make z j []) (hb _ (z_ (f.heap.objs.size+1)::j) m.kIn hl) p q) λr w i=>?_));cases r with|error d=>exact N P Φ _ _ d w m i|ok fl=>cases fl with|ret u=>obtain⟨v,H',I3,y,ev,H⟩:=m.after i;subst ev;exact⟨y,⟨V.ref (f.heap.objs.size+1),H',I3,rfl,H⟩⟩|next=>exact Uf i|brk=>exact Uf i|cont=>exact Uf i
theorem F0{n:ŀ}{j:Sp}{E:XK}{t:TA}(M:Mk a.K z e)(F:ì a.prog a.w a.K a.mg a.base n b e Ã A j)(u:Ý (b+1) a.A)(N:Gl a d)(y:a.mg d=Z (.ref z))(hb:î a.K Ã A θ)(hd:Ñ η θ)(p:jS n a E)(ha:PA a (g::w) t)(i:(d==("__debug__":Str))=D:=by decide)(P:k_ (g::w) a.env=(D,eval g a.env)::k_ w a.env:=by rfl)(f:(TW v (k_ w a.env)).any (·.1)=D:=by rfl):PE a (.Call (.Name d m) (g::w) [] v) (Pc z j η E t):=by intro f' s o H Q I h;refine Vm (kA I N y ?_ i);refine YK (h₀:=a.base) I.ok.mod.kin M.kp (ã (ha v f' s o H _ I h) λus s1⟨vs,H1,k,r,q⟩=>⟨k.kIn,?_⟩) P f;exact Bw M F u hb hd p k r q
structure ij(N P:List Str)(sc:U_):Prop where
 kind:sc.kind=.function
 co:sc.isCoroutine=D
 gen:sc.isGenerator=D
 nd:N.Nodup
 pre:N.take P.length=P
 par:∀x∈P,sc.names.lookup x=Z .local\/sc.names.lookup x=Z .cell
 nofree:∀y∈sc.names,y.2≠.free
theorem qG{a:Str->Option Wi}{x:Str}:∀{binds:List (Str×B)}{m:Str->Option B},(∀v,(x,v)∉binds)->Z' a binds m x=m x
 |[],_,_=>rfl|(n,v)::r,m,h=>by
  unfold Z';rw[qG λw b=>h w (r_ _ b)];split
  · have:x≠n:=by rintro rfl;exact h v q_
    simp[this]
  ·rfl
theorem qH{a:Str->Option Wi}{x:Str}:∀{binds:List (Str×B)}{m:Str->Option B},(∀v,(x,v)∉binds)->abH a binds m x=m x
 |[],_,_=>rfl|(n,v)::r,m,h=>by
  unfold abH;rw[qH λw b=>h w (r_ _ b)];split;·rfl
  · have:x≠n:=by rintro rfl;exact h v q_
    simp[this]
theorem qI{a:Str->Option Wi}{x:Str}{v:B}:∀{P:List Str}{b:List B}{i:Nat}{m:Str->Option B},P.Nodup->P[i]?=Z x->b[i]?=Z v->a x=Z .local->Z' a (P.zip b) m x=Z v|[],_,_,_,_,h,_,_=>by simp at h|_::_,[],_,_,_,_,h,_=>by simp at h|p::P,w::b,0,m,f,e,d,g=>by simp at e d;subst e;subst d;show Z' a ((p,w)::P.zip b) m p=_;unfold Z';rw[qG λv j=>(UV.mp f).1 (ZS j).1,if_pos g];simp|p::P,w::b,i+1,m,f,e,d,g=>by show Z' a ((p,w)::P.zip b) m x=_;unfold Z';exact qI (i:=i) (UV.mp f).2 (by simpa using e) (by simpa using d) g
theorem qJ{a:Str->Option Wi}{x:Str}{v:B}:∀{P:List Str}{b:List B}{i:Nat}{m:Str->Option B},P.Nodup->P[i]?=Z x->b[i]?=Z v->a x≠Z .local->abH a (P.zip b) m x=Z v|[],_,_,_,_,h,_,_=>by simp at h|_::_,[],_,_,_,_,h,_=>by simp at h|p::P,w::b,0,m,f,e,d,g=>by simp at e d;subst e;subst d;show abH a ((p,w)::P.zip b) m p=_;unfold abH;rw[qH λv j=>(UV.mp f).1 (ZS j).1,if_neg g];simp|p::P,w::b,i+1,m,f,e,d,g=>by show abH a ((p,w)::P.zip b) m x=_;unfold abH;exact qJ (i:=i) (UV.mp f).2 (by simpa using e) (by simpa using d) g
noncomputable def start(N:List Str)(a:List V):St:=a.map Z++N_ (N.length-a.length) U
noncomputable def oX(h:ŀ)(P:n_)(w:x_)(K:d_)(mg:Str->Option B)(base:TC)(N:List Str)(b:Str)(a:U_)(f:O)(g:B)(A:C_)(outer:List Env)(s:ge)(H:Hp)(E:XK):C where prog:=P;w:=w;K:=K;mg:=mg;base:=base;A:=A.deeper (Wy b a s.heap.objs.size f g);N:=N;s₀:=s;H₀:=H;env:=Wy b a s.heap.objs.size f g;outer:=outer;stack:=Wy b a s.heap.objs.size f g::outer;ex:=[];calm:=L;fn:=λ_=>L;pn:=[];xe:=λe i=>u_ (D_ P w) (A.deeper (Wy b a s.heap.objs.size f g)) (leaving (Wy b a s.heap.objs.size f g) e) (λ_ d=>h outer H s E e d) (λj d=>h outer H s E j d) i
variable{ξ:U_}
theorem uI(h:ξ.names.lookup d=Z .cell):∃c,(UB b ξ.names []).lookup d=Z c:=by have q:=Zy ξ.names b [] (.inl h);exact Wa.mp q
theorem xN{CX:ŀ}{P:List Str}{o:List Env}{s1:ge}{E:XK}(S:ij A P ξ)(hd:N.handled=U)(H:ŉ s r q Θ I N o f h)(hl:η.length=P.length)(n:Ñ η θ)(x:InCallC f f.heap.objs.size (Z' (Wy d ξ f.heap.objs.size e ω).kindOf (P.zip θ) λ_=>U) (UB (f.heap.objs.size+1) ξ.names []) (abH (Wy d ξ f.heap.objs.size e ω).kindOf (P.zip θ) λ_=>U) s1):Í (oX CX s r q Θ I A d ξ e ω N o f h E) [] (start A η) h s1:=by
 have c':P.length<=A.length:=by have:=congrArg Yh S.pre;rw[Zr]at this;omega
 obtain⟨h1,tk,rfl,hk⟩:=x.done;have a':∀b:O,b∉(oX CX s r q Θ I A d ξ e ω N o f h E).ex:=λb z=>absurd (show b∈([]:List O)from z) (by simp);refine⟨⟨H.mod,S.kind,rfl,rfl,pi _,λy z c h1 w=>?_,λy hy=>?_,λy c _ g=>?_,λ_=>hd,Around.frames_deeper H.frames,.inr ⟨rfl,rfl⟩,λb z=>absurd z (a' b),H.bs,H.bsz,λb _ _=>a' b,λb z=>absurd z (a' b),H.funs,H.frf⟩,rfl,H.bare,Un.kept hk,⟨_,x.toInCall.ns,λi y v h1 w h3=>?_⟩,λy c g=>⟨_,x.cell y c g⟩,H.hok.fresh (pi _),λy c g=>?_,λp hp=>absurd (show p∈([]:List (O×Obj))from hp) (by simp),H.hok.kept hk,?_⟩;·exact name_of_addr x.apart (Wb h1) (Wb w)
 · have hy:ξ.names.lookup y=Z .cell\/ξ.names.lookup y=Z .free:=hy;rcases hy with hy|hy;·exact uI hy
   ·exact absurd rfl (S.nofree _ (Wb hy))
 ·exact YB (x.above y c (Wb g))
 · have hi:i<η.length:=by
    unfold start at w;by_cases hi:i<η.length;·exact hi
    ·rw[K_ (by simpa using hi)]at w;rw[Wp]at w;split at w<;>cases w
   have ha:η[i]?=Z v:=by unfold start at w;rw[I_ (by simpa using hi),L_]at w;cases j:η[i]? with|none=>rw[j]at w;cases w|some a=>rw[j]at w;cases w;rfl
   obtain⟨u,hu,rv⟩:=n.get ha;have hp:P[i]?=Z y:=by rw[<-S.pre,Zd (by omega)];exact h1
   have b':P.Nodup:=by rw[<-S.pre];exact S.nd.sublist (List.take_sublist _ _)
   refine⟨u,rv,?_⟩;rcases S.par y (TV hp)with k|k;·exact .inl ⟨k,qI b' hp hu k⟩
   ·obtain⟨c,j⟩:=uI (b:=f.heap.objs.size+1) k;refine .inr ⟨.inl k,c,j,?_⟩;have m:=x.cell y c j;rw[qJ b' hp hu (by show ξ.names.lookup y≠_;rw[k];decide)]at m;exact m
 ·exact H.hok.fresh (YB (x.above y c (Wb g)))
 ·unfold start;show _=A.length;rw[T_,P_,U8];omega
theorem Bx{CX:ŀ}{z:Arguments}{kV f' pm w ct oc:B}{an od:Option O}{g':Array (Option B)}{ps:List Str}{sp:Sp}(lk:q.lookup e=Z ⟨oc,od,.func (Vq d o z Ψ ξ ω kV f' pm an w ct),g'⟩)(i':XB q w o=L)(S:ij A ps ξ)(c':∀N H Q E,sp N H Q E->N.length=ps.length)(b':∀(g:C_)(p:List Env)(f:ge)(H:Hp)(N:List V)(Q:VK)(E:XK),Ý b (g.deeper (Wy o ξ f.heap.objs.size e w))->sp N H Q E->∃t,Ļ (oX CX s r q Θ I A o ξ e w g p f H E) Ψ t/\t {nx:=λ_ H'=>Q .non H',rt:=Q} (start A N) H):ì s r q Θ I CX (b+1) e (Vq d o z Ψ ξ ω kV f' pm an w ct) ps sp:=by
 refine⟨c',λg p f H k' us N Q E hr e0 hb k d'=>?_⟩;have hl:=c' _ _ _ _ d';have KX:q.In f.heap:=e0.mod.kin.keeps λj i h=>(e0.bs j i h).1;have h':f.heap.NoLimit:=e0.mod.nolimit.keeps λj i h=>(e0.bs j i h).1;have a':∀y∈ps.zip us,ξ.names.lookup y.1=Z .local\/(ξ.names.lookup y.1=Z .cell/\((UB (f.heap.objs.size+1) ξ.names []).lookup y.1).isSome=L):=λ⟨n,v⟩hy=>by
  rcases S.par n (ZS hy).1 with a|a;·exact .inl a
  ·exact .inr ⟨a,Zy _ _ _ (.inl a)⟩
 refine codeAny_call_function hr.depth (KX _ _ lk) rfl S.co S.gen rfl (PySem.W.codeRec_of KX i') (hb _ _ _ _ ?_);refine wpAny_newFunctionEnv_cells S.kind a' λl' he s1 x=>?_;subst he;refine⟨h'.keeps x.toInCall.keep,codeAny_func ?_⟩;obtain⟨t,ht,hq⟩:=b' g p f H N Q E (hr.deeper _) d';have m:Í (oX CX s r q Θ I A o ξ e w g p f H E) [] (start A N) H s1:=xN S hr.hd e0 hl k x;refine Uj (ht [] s1 (start A N) H _ m hq) (λfl s' hs=>?_) λh s' hs=>hs;have e':∀{P:St}{H':Hp}{v:V}{u:B},Í (oX CX s r q Θ I A o ξ e w g p f H E) [] P H' s'->Ø v u->Q v H'->CE p s r H f Q u s':=λ{P H' v u}J rv a=>⟨v,H',J.os,J.bare,J.base,J.hok,rv,a⟩;cases fl with|ret u=>obtain⟨v,P,H',J,rv,a⟩:=hs;exact e' J rv a|next=>obtain⟨P,H',J,a⟩:=hs;exact e' (v:=V.non) (u:=J_) J rfl a|brk=>obtain⟨_,_,_,a⟩:=hs;exact Uf a|cont=>obtain⟨_,_,_,a⟩:=hs;exact Uf a
def tCB(r:List V->Hp->VK->Prop)(t:TA):TE:=λa H Q=>t a H λb d=>r b d Q
theorem jT{t:TA}{i:String}{r:List V->Hp->VK->Prop}(E:nh a (.builtin i) r)(z:Gl a d)(y:a.mg d=U)(q:Vb d=Z (.builtin i))(N:PA a (g::w) t)(u:d≠"__name__":=by decide)(e:(d==("__debug__":Str))=D:=by decide)(A:k_ (g::w) a.env=(D,eval g a.env)::k_ w a.env:=by rfl)(b:(TW v (k_ w a.env)).any (·.1)=D:=by rfl):PE a (.Call (.Name d m) (g::w) [] v) (tCB r t):=by intro j s f H Q I h;refine Vm (iP I z y q ?_ u e);exact X3 (ã (N v j s f H _ I h) λus n⟨k,H1,P,o,p⟩=>E j n f H1 k us Q P o p) A b
theorem lX{t:TA}{T:String}{r:List V->Hp->VK->Prop}(A:nh a (.type T) r)(y:Gl a d)(u:a.mg d=U)(p:Vb d=Z (.type T))(E:PA a (g::w) t)(q:d≠"__name__":=by decide)(e:(d==("__debug__":Str))=D:=by decide)(z:k_ (g::w) a.env=(D,eval g a.env)::k_ w a.env:=by rfl)(b:(TW v (k_ w a.env)).any (·.1)=D:=by rfl):PE a (.Call (.Name d m) (g::w) [] v) (tCB r t):=by intro i s f H Q I h;refine Vm (iP I y u p ?_ q e);exact UC (ã (E v i s f H _ I h) λus k⟨j,P,N,n,o⟩=>A i k f P j us Q N n o) z b
end L2
variable{η:List L2.V}{θ:List B}{h:L2.Hp}{e z:O}{I:TC}{Β:L2.Hp}{ο:List O}{a:L2.C}{P:List (O×Obj)}{Å:List (Option L2.V)}{A:List Str}{Æ:WO}{N:C_}{χ:B->ge->Prop}{d:Str}{ψ:L2.V}{ω:B}{m:Pos}{Φ:L2.St}{Ç:B->ge->Prop}{g:s_}{Χ:L2.TE}{u:s_}{w:List s_}{Á:s_}{q:d_}{Ψ:List Us}{Δ:Us}{k:Nat}{v:Pos}{n Ω:Int}{H Ä:Bool}{o:Str}{Ê:L2.VK}{Θ:Str->Option B}{Ã:UD}{ξ:U_}
namespace HT
theorem cat_tup{b:List B}(E:X' f.heap e θ.toArray)(H:X' f.heap z b.toArray)(u:θ≠[])(P:b=[]->Ç (.ref e) f)(I:b≠[]->Ç (.ref f.heap.objs.size) {f with heap:=f.heap.push {cls:=.type "tuple",data:=.seq (θ++b).toArray}})(o:θ.length+b.length<=sizeLine):u_ (D_ s r) N (V0 .Add (.ref e) (.ref z)) Ç χ f:=by
 obtain⟨⟨cls,y,data,p⟩,m,w,n,v⟩:=id E;obtain⟨⟨A,j,data2,g⟩,d,i,q,h⟩:=id H;simp only at w v i h;subst w v i h;have a:θ.toArray++b.toArray=(θ++b).toArray:=by simp
 by_cases k:b=[]
 ·exact aaO ⟨_,m,rfl⟩ ⟨_,d,rfl⟩ Zf aay XG Xq (Xd _ _) (tuple_addW1 e z θ.toArray b.toArray n q y j p g (by simpa using u) (by simp[k])) ⟨m,d,P k⟩
 ·refine aaO ⟨_,m,rfl⟩ ⟨_,d,rfl⟩ Zf aay XG Xq (Xd _ _) (tuple_addW2 e z θ.toArray b.toArray n q y j p g (by simpa using u) (by simpa using k) (by rw[H_,H_];exact o)) ⟨m,d,?_⟩;rw[a];exact I k
noncomputable def sIx(n d:Nat):Option Int->Nat|none=>d|some v=>if v<0 then(v+(n:Int)).toNat else min v.toNat n
theorem Ki(n d:Nat)(b:d<=n)(o:Option Int):sIx n d o<=n:=by cases o with|none=>exact b|some v=>
 show(if v<0 then(v+(n:Int)).toNat else min v.toNat n)<=n;by_cases a:v<0;·rw[if_pos a];omega
 ·rw[if_neg a];exact Nat.min_le_right _ _
theorem xO(v:Int)(n d:Nat):(if v<0 then max (v+(n:Int)) 0 else min v (n:Int))=((sIx n d (Z v):Nat):Int):=by
 show(if v<0 then max (v+(n:Int)) 0 else min v (n:Int))=(((if v<0 then(v+(n:Int)).toNat else min v.toNat n):Nat):Int);by_cases a:v<0;·simp only[if_pos a];omega
 ·simp only[if_neg a];omega
theorem vZ(a b:Option Int)(n:Nat):W7 a b 1 (n:Int)=(((sIx n 0 a:Nat):Int),((sIx n n b:Nat):Int)):=by
 have d:¬((1:Int)<0):=by omega
 unfold W7;simp only[d,if_false];refine Prod.ext ?_ ?_;·cases a with|none=>rfl|some v=>exact xO v n 0
 ·cases b with|none=>rfl|some v=>exact xO v n n
theorem v4(i j:Nat):VU (i:Int) (j:Int) 1=j-i:=by
 unfold VU;have a:(1:Int)>0:=by omega
 simp only[a,if_true,Int.ediv_one];split<;>omega
variable{Ε:Option Int}
theorem nP{Q:Option Int->ge->Prop}(p:ZC ω Ε)(h:Q Ε f):u_ (D_ s r) N (Builtin.Slice.slicePartIndex ω) Q χ f:=by cases p with|none=>exact slicePart_none h|int i t=>exact slicePart_int h
variable{Λ:Option Int}
theorem sliceApplied_gen{g:B}{Q:Int×Int×Nat->ge->Prop}(k:f.heap.IsSliceOf e ω g .none)(j:ZC ω Ε)(i:ZC g Λ)(h:Q (((sIx b 0 Ε:Nat):Int),1,sIx b b Λ-sIx b 0 Ε) f):u_ (D_ s r) N (YS (.ref e) (pure (b:Int))) Q χ f:=by obtain⟨os,a,m,d⟩:=id k;unfold YS Builtin.Slice.sliceFields;refine e_ (e_ (UX a d (x:=ω) rfl (e_ (UX a d (x:=g) rfl (e_ (UX a d (x:=.none) rfl (l_ ?_)))))));refine e_ (slicePart_none ?_);show u_ _ _ (if((1:Int)==0)=L then _ else _) _ _ f;rw[if_neg (by decide)];refine e_ (nP j (e_ (nP i (e_ (l_ ?_)))));show u_ _ _ (match W7 Ε Λ 1 (b:Int)with|(Ε,Λ)=>pure (Ε,(1:Int),VU Ε Λ 1)) _ _ f;rw[vZ Ε Λ b];show u_ _ _ (pure (((sIx b 0 Ε:Nat):Int),(1:Int),VU ((sIx b 0 Ε:Nat):Int) ((sIx b b Λ:Nat):Int) 1)) _ _ f;rw[v4];exact l_ h
theorem By(a:Array B)(i k:Nat):((p_ k).filterMap λ(m:Nat)=>a[((i:Int)+(m:Int)*1).toNat]?).toArray=((a.toList.drop i).take k).toArray:=by
 have e:(λ(m:Nat)=>a[((i:Int)+(m:Int)*1).toNat]?)=λm=>a[i+m]?:=by
  funext m;have:((i:Int)+(m:Int)*1).toNat=i+m:=by omega
  rw[this]
 rw[e];have:=pick_run a i k;rw[YY]at this;have b:((λx=>a[x]?)∘λx=>i+x)=λm=>a[i+m]?:=rfl;rw[b]at this;rw[this]
theorem getItem_tuple_cut{a:Array B}{m:B}(d:X' f.heap e a)(n:f.heap.IsSliceOf z ω m .none)(p:ZC ω Ε)(o:ZC m Λ)(u:¬(sIx a.size 0 Ε=0/\sIx a.size a.size Λ=a.size))(h:Ç (.ref f.heap.objs.size) {f with heap:=f.heap.push {cls:=.type "tuple",data:=.seq ((a.toList.drop (sIx a.size 0 Ε)).take (sIx a.size a.size Λ-sIx a.size 0 Ε)).toArray}})(v:a.size<=sizeLine):u_ (D_ s r) N (Zw (.ref e) (.ref z)) Ç χ f:=by
 have b:sizeOk (.seq ((a.toList.drop (sIx a.size 0 Ε)).take (sIx a.size a.size Λ-sIx a.size 0 Ε)).toArray):=by show((a.toList.drop (sIx a.size 0 Ε)).take (sIx a.size a.size Λ-sIx a.size 0 Ε)).toArray.size<=sizeLine;rw[H_,Zr,X4,UZ];omega
 have E:sIx a.size a.size Λ<=a.size:=Ki _ _ (pi _) Λ;obtain⟨os,g,j,w⟩:=id n;have k:f.TypeIs (.ref z) "slice":=⟨os,g,j⟩;unfold Zw;try with_reducible refine U9 ?_
 first|refine e_ (l_ ?_)|skip
 refine e_ (wpAny_sequenceKey d.typeIs (by decide) ?_);refine e_ (UJ (name:=b_ "__getitem__") d.typeIs UF (U4 UF d.typeIs entry_tuple_getitem ?_ (args_tuple_getitem _ _)));show u_ _ _ (YR (.ref e)>>=_) _ _ f;refine e_ (tupleItemsOf_ d ?_);refine e_ (Xx k ?_);rw[if_pos (by decide)];refine e_ (sliceApplied_gen n p o ?_);have i:¬((((sIx a.size 0 Ε:Nat):Int)==0&&(1:Int)==1&&(sIx a.size a.size Λ-sIx a.size 0 Ε)==a.size)=L):=by intro q;rw[m_,m_]at q;have A:((sIx a.size 0 Ε:Nat):Int)=0:=X6 q.1.1;have y:sIx a.size a.size Λ-sIx a.size 0 Ε=a.size:=X6 q.2;exact u ⟨by omega,by omega⟩
 show u_ _ _ (if(((sIx a.size 0 Ε:Nat):Int)==0&&(1:Int)==1&&(sIx a.size a.size Λ-sIx a.size 0 Ε)==a.size)=L then _ else _) _ _ f;rw[if_neg i,By];first|exact e_ (m:=V_ _) (UM (l_ ⟨_,rfl,l_ h⟩) b)|exact e_ (m:=V_ _) (UM (e_ (l_ (l_ ⟨_,rfl,l_ h⟩))) b)|exact e_ (e_ (m:=V_ _) (UM (l_ (l_ ⟨_,rfl,l_ h⟩)) b))|exact e_ (e_ (m:=V_ _) (UM (l_ ⟨_,rfl,l_ h⟩) b))
end HT
variable{Ε Λ:Option Int}
namespace L2
abbrev TO:=St->Hp->(Option Int->Hp->Prop)->Prop
def PO(X:C)(e:Option s_)(t:TO):Prop:=∀(b:List (O×Obj))(s:ge)(a:St)(H:Hp)(Q:Option Int->Hp->Prop),Í X b a H s->t a H Q->u_ (D_ X.prog X.w) X.A (evalPart e X.env) (λu f=>∃o d,Í X b a d f/\ZC u o/\Q o d) X.xe s
noncomputable def F1:TO:=λ_ H Q=>Q U H
noncomputable def Pd(t:TE):TO:=λa H Q=>t a H λx b=>∃i,x=.int i/\Q (Z i) b
theorem F3:PO a U F1:=by intro d s b H Q I h;rw[evalPart_none];exact l_ ⟨U,H,I,.none,h⟩
theorem F4(h:PE a g Χ):PO a (Z g) (Pd Χ):=by intro j s b H Q I f;rw[evalPart_some];refine ã (h j s b H _ I f) λu n⟨x,m,k,d,e⟩=>?_;obtain⟨i,rfl,q⟩:=e;obtain⟨t,rfl⟩:=d;exact⟨Z i,m,k,.int i t,q⟩
def ź(X:C)(r:V->Option Int->Option Int->Hp->VK->Prop):Prop:=∀(g:List (O×Obj))(s:ge)(a:St)(H:Hp)(x:V)(v d b:B)(lo f:Option Int)(e:O)(Q:VK),Í X g a H s->Ø x v->s.heap.IsSliceOf e d b .none->ZC d lo->ZC b f->r x lo f H Q->∃T id,typeLookup (.type T) "__getitem__"=pure (Z (.builtin id))/\s.TypeIs v T/\u_ (D_ X.prog X.w) X.A (Zw v (.ref e)) (EP X g a Q) X.xe s
theorem ź.or{r j:V->Option Int->Option Int->Hp->VK->Prop}(h:ź a r)(o:ź a j):ź a (λx lo b H Q=>r x lo b H Q\/j x lo b H Q):=by
 intro n s d H x v f e lo b g Q I i m pl k q;rcases q with q|q;·exact h n s d H x v f e lo b g Q I i m pl k q
 ·exact o n s d H x v f e lo b g Q I i m pl k q
def tSl(r:V->Option Int->Option Int->Hp->VK->Prop)(e:TE)(b d:TO):TE:=λa H Q=>e a H λx h=>b a h λl g=>d a g λu f=>r x l u f Q
theorem uJ{n o:Option s_}{p w:TO}{r:V->Option Int->Option Int->Hp->VK->Prop}(hr:ź a r)(he:PE a g Χ)(hl:PO a n p)(hu:PO a o w):PE a (.Subscript g (.Slice n o U v) m) (tSl r Χ p w):=by intro i s f H Q I h;refine Subscript_ (ã (he i s f H _ I h) λd A⟨x,H1,I1,E,q1⟩=>?_);refine wpAny_Slice (ã (hl i A f H1 _ I1 q1) λk z⟨l,H2,I2,pl,P⟩=>ã (hu i z f H2 _ I2 P) λj e⟨u,y,I3,pu,N⟩=>?_);rw[evalPart_none];refine l_ ?_;have I4:Í a i f y {e with heap:=e.heap.push {cls:=.type "slice",data:=.fields #[k,j,.none]}}:=I3.kept (t':=e.toks) λb ob q=>j_ _ q;obtain⟨T,id,hT,ht,hg⟩:=hr i {e with heap:=e.heap.push {cls:=.type "slice",data:=.fields #[k,j,.none]}} f y x d k j l u e.heap.objs.size Q I4 E (Heap.IsSliceOf.new ..) pl pu N;show u_ (D_ a.prog a.w) a.A (subscriptTail g (.Slice n o U v) d (.ref e.heap.objs.size)) (EP a i f Q) a.xe {e with heap:=e.heap.push {cls:=.type "slice",data:=.fields #[k,j,.none]}};exact tail_any (ops:=[.ref e.heap.objs.size,d]) ht hT hg (by with_unfolding_all rfl)
def Bz(a:List V)(b d:Option Int):List V:=(a.drop (HT.sIx a.length 0 b)).take (HT.sIx a.length a.length d-HT.sIx a.length 0 b)
theorem lY(a:List V)(b d:Option Int):(Bz a b d).length<=a.length:=by unfold Bz;rw[Zr,X4];omega
def SH(K:d_):V->Option Int->Option Int->Hp->VK->Prop:=λx lo d H Q=>∃a b,x=.ref a/\ù K H a b/\¬(HT.sIx b.length 0 lo=0/\HT.sIx b.length b.length d=b.length)/\∀p,H p=U->Q (.ref p) (Þ H p (.tup (Bz b lo d)))
theorem sl_tup:ź a (SH a.K):=by
 intro N s w H x v z y lo g A Q I m u pl n h;obtain⟨d,f,rfl,o,p,q⟩:=h;cases m;obtain⟨i,r,k,j⟩:=I.tuple o;have e:i.toArray.size=f.length:=by rw[H_];exact r.length.symm
 refine⟨"tuple",_,UF.lookup,k.typeIs,?_⟩;refine HT.getItem_tuple_cut k u pl n (by rw[e];exact p) ?_ (by rw[e];exact j);rw[e];refine⟨.ref s.heap.objs.size,_,I.laid (t':=s.toks) (o:=.tup (Bz f lo g)) (λb E q=>j_ _ q) (pi _) ?_,rfl,q _ (I.hok.fresh (pi _))⟩;exact⟨TU (lY f lo g) j,_,(r.drop (HT.sIx f.length 0 lo)).take (HT.sIx f.length f.length g-HT.sIx f.length 0 lo),ab1 _ _⟩
def Kj(K:d_):R2:=λx y H Q=>∃a b e d,x=.ref a/\y=.ref b/\ù K H a e/\ù K H b d/\e≠[]/\e.length+d.length<=sizeLine/\(d=[]->Q (.ref a) H)/\(d≠[]->∀p,H p=U->Q (.ref p) (Þ H p (.tup (e++d))))
theorem Ñ.nil_iff(r:Ñ η θ):θ=[]↔η=[]:=by cases r with|nil=>simp|cons _ _=>simp
theorem op_catT:ÿ a (V0 .Add) (Kj a.K):=by intro f' s σ H x y v u Q I n m h;obtain⟨d,b,k,j,rfl,rfl,P,N,E,g,p,o⟩:=h;cases n;cases m;obtain⟨a',f,A,_⟩:=I.tuple P;obtain⟨i,e,r,_⟩:=I.tuple N;refine HT.cat_tup A r (λz=>E (f.nil_iff.mp z)) (λz=>⟨.ref d,H,I,rfl,p (e.nil_iff.mp z)⟩) (λz=>?_) (by rw[<-f.length,<-e.length];exact g);refine⟨.ref s.heap.objs.size,_,I.laid (t':=s.toks) (o:=.tup (k++j)) (λb ob q=>j_ _ q) (pi _) ?_,rfl,o (λw=>z (e.nil_iff.mpr w)) _ (I.hok.fresh (pi _))⟩;exact⟨by rw[T_];exact g,_,f.append e,ab1 _ _⟩
noncomputable def L'(n:Nat)(i:Int):Option Nat:=if 0<=i then(if i<n then Z i.toNat else U)else if-(n:Int)<=i then Z (i+n).toNat else U
def M'(a:List ε)(i:Int):Option ε:=(L' a.length i).bind λj=>a[j]?
theorem xP(h:L' b n=Z k):seqIndex? n b=Z k/\k<b/\-(b:Int)<=n/\n<b:=by
 unfold L' at h;by_cases d:0<=n
 · rw[if_pos d]at h;by_cases a:n<b;·rw[if_pos a]at h;have e:n.toNat=k:=Ub h;exact⟨by rw[abq d a,e],by omega,by omega,a⟩
   ·rw[if_neg a]at h;cases h
 · rw[if_neg d]at h;by_cases a:-(b:Int)<=n;·rw[if_pos a]at h;have e:(n+b).toNat=k:=Ub h;exact⟨by rw[seqIndex_neg (by omega) a,e],by omega,a,by omega⟩
   ·rw[if_neg a]at h;cases h
theorem sP{a:List ε}(h:M' a n=Z Ë):∃j,seqIndex? n a.length=Z j/\a[j]?=Z Ë/\j<a.length/\-(a.length:Int)<=n/\n<a.length:=by unfold M' at h;cases e:L' a.length n with|none=>rw[e]at h;cases h|some j=>rw[e]at h;obtain⟨g,f,d,b⟩:=xP e;exact⟨j,g,h,f,d,b⟩
def xQ(b:s_):Prop:=∀o i,abo b D o i=operate [o,i] (Zw o i)
def Ŵ(X:C)(r:R2):Prop:=∀(b a:s_)(e:List (O×Obj))(s:ge)(d:St)(H:Hp)(x y:V)(v u:B)(Q:VK),Í X e d H s->Ø x v->Ø y u->r x y H Q->abo a D v u=operate [v,u] (Zw v u)->u_ (D_ X.prog X.w) X.A (subscriptTail b a v u) (EP X e d Q) X.xe s
def œ(X:C)(e:String)(r:V->List V->Hp->VK->Prop):Prop:=∀(d:List (O×Obj))(s:ge)(a:St)(H:Hp)(x:V)(b:List V)(v:B)(us:List B)(Q:VK),Í X d a H s->Ø x v->Ñ b us->r x b H Q->u_ (D_ X.prog X.w) X.A (call (.builtin e) (v::us)) (EP X d a Q) X.xe s
theorem Ŵ.or{r i:R2}(h:Ŵ a r)(m:Ŵ a i):Ŵ a (λx y H Q=>r x y H Q\/i x y H Q):=by
 intro b d k s e H x y v u Q I g f q j;rcases q with q|q;·exact h b d k s e H x y v u Q I g f q j
 ·exact m b d k s e H x y v u Q I g f q j
theorem Pe{d:TE}{r:R2}(n:Ŵ a r)(p:PE a g Χ)(o:PE a u d)(k:xQ u):PE a (.Subscript g u m) (tOp r Χ d):=by intro w s e H Q I h;exact Subscript_ (O4 p o I h λv b f x y A z j i q=>n g u w f e A x y v b Q z j i q (k _ _))
def RH(K:d_):R2:=λx y H Q=>∃p a i v,x=.ref p/\y=.int i/\ă K H p a/\M' a i=Z v/\Q v H
def RI(K:d_):R2:=λx y H Q=>∃p a i v,x=.ref p/\y=.int i/\ù K H p a/\M' a i=Z v/\Q v H
def RJ:R2:=λx y H Q=>∃z i c,x=.str z/\y=.int i/\z.length<=sizeLine/\M' z.cps.toList i=Z c/\Q (.str ⟨#[c]⟩) H
theorem ix_list:Ŵ a (RH a.K):=by
 intro k m E s n H x y v u Q I rx ry h o;obtain⟨p,xs,i,z,rfl,rfl,hq,he,q⟩:=h;cases rx;obtain⟨t,rfl⟩:=ry;obtain⟨g,r,pl,hz⟩:=I.list hq;obtain⟨j,d,h2,h3,h4,h5⟩:=sP he;obtain⟨w,N,f⟩:=r.get h2;have hl:=r.length;have hn:=qF;have b:EP a E n Q w s:=⟨z,H,I,f,q⟩;by_cases A:0<=i
 · have e:i.toNat=j:=by rw[abq A h5]at d;exact Ub d
   exact item_listR pl.isList A (by omega) (by rw[e];simpa using N) b o
 · have e:(i+(g.toArray.size:Int)).toNat=j:=by rw[seqIndex_neg (by omega) h4]at d;rw[H_,<-hl];exact Ub d
   exact ZG (x:=w) pl.isList.typeIs slot_list_getitem.lookup (wpAny_getItem_list_neg (Q:=λr P=>r=w/\EP a E n Q r P) pl.isList (by omega) (by rw[H_]<;>omega) (by omega) (by rw[e];simpa using N) ⟨rfl,b⟩) o
theorem ix_tup:Ŵ a (RI a.K):=by intro e f k s g H x y v u Q I o n h A;obtain⟨p,xs,i,z,rfl,rfl,E,P,q⟩:=h;cases o;obtain⟨t,rfl⟩:=n;obtain⟨a',r,pl,hz⟩:=I.tuple E;obtain⟨j,h1,h2,h3,h4,h5⟩:=sP P;obtain⟨w,ew,b⟩:=r.get h2;have N:=r.length;have hn:=qF;have d:EP a k g Q w s:=⟨z,H,I,b,q⟩;exact ZG (x:=w) pl.typeIs slot_tuple_getitem.lookup (getItem_tuple (j:=j) (Q:=λr m=>r=w/\EP a k g Q r m) pl (by omega) (by omega) (by rw[H_,<-N];exact h1) (by simpa using ew) ⟨rfl,d⟩) A
theorem Kk:Ŵ a RJ:=by
 intro b d f' s E H x y v u Q I g f h k;obtain⟨z,i,c,rfl,rfl,P,n,q⟩:=h;obtain⟨t,rfl⟩:=g;obtain⟨N,rfl⟩:=f;obtain⟨j,e,r,h3,p,o⟩:=sP n;have m:z.cps.toList.length=z.length:=by simp[YM]
 rw[m]at e p o;have hn:=qF;exact tail_any (Xj s z t) slot_str_getitem.lookup (getItem_str (c:=c) (by have A:t_ (i< -(2^63:Int))=D:=decide_eq_false (by omega);have w:t_ (i>=2^63)=D:=decide_eq_false (by omega);rw[A,w,aaC]) (by rw[e];simpa using r) ⟨.str ⟨#[c]⟩,H,I.tok _,⟨_,rfl⟩,q⟩) k
def rIx(K:d_):R2:=λx y H Q=>RH K x y H Q\/RI K x y H Q\/RJ x y H Q
theorem Kl:Ŵ a (rIx a.K):=ix_list.or (ix_tup.or Kk)
theorem v7(a:List B)(n j:Nat)(u:B):Uo (·.setIfInBounds j u) {cls:=.type "list",data:=.seq a.toArray n}={cls:=.type "list",data:=.seq (a.set j u).toArray n}:=by simp[Uo]
theorem Í.lst(I:Í a P Φ h f)(b:h e=Z (.lst η)):∃(g:List B)(n:Nat),Ñ η g/\f.heap.get? e=Z {cls:=.type "list",data:=.seq g.toArray n}/\η.length<=sizeLine:=by obtain⟨z,g,n,r,d⟩:=I.hok e _ b;exact⟨g,n,r,d,z⟩
theorem Í.lstUpd{n:List V}{m:List B}{d:Obj->Obj}(I:Í a P Φ h f)(i:h e=Z (.lst η))(s:f.heap.get? e=Z {cls:=.type "list",data:=.seq θ.toArray b})(o:d {cls:=.type "list",data:=.seq θ.toArray b}={cls:=.type "list",data:=.seq m.toArray k})(r:Ñ n m)(p:n.length<=sizeLine)(t:Nat):Í a P Φ (Þ h e (.lst n)) {f with heap:=f.heap.update e d,toks:=t}:=by
 have g:(f.heap.update e d).get? e=Z {cls:=.type "list",data:=.seq m.toArray k}:=by rw[WK d s (by rw[o]<;>rfl),o]
 refine I.write (x:=e) (e:=e) (by rw[i];trivial) (.inl rfl) (λj u v q=>(XF _ _ (Uq v)).trans q) ⟨_,g⟩ ?_;exact⟨p,m,k,r,g⟩
def Pf:V->V->V->Hp->(Hp->Prop)->Prop:=λo i v H Q=>∃p a k j,o=.ref p/\i=.int k/\H p=Z (.lst a)/\L' a.length k=Z j/\Q (Þ H p (.lst (a.set j v)))
theorem BA:RB a Pf:=by
 intro f' s E H o i v ov iv u Q I ro ri P h;obtain⟨p,N,k,j,rfl,rfl,m,hj,q⟩:=h;cases ro;obtain⟨t,rfl⟩:=ri;obtain⟨b,n,r,e,hz⟩:=I.lst m;obtain⟨d,h2,y,w⟩:=xP hj;have f:=r.length;have hn:=qF;have A:Í a f' E (Þ H p (.lst (N.set j v))) {s with heap:=s.heap.update p (Uo (·.setIfInBounds j u))}:=I.lstUpd m e (v7 b n j u) (r.set P j) (by rw[Uc];exact hz) s.toks;by_cases z:0<=k
 · have g:k.toNat=j:=by rw[abq z w]at d;exact Ub d
   exact PySem.W.ki_setAt e z (by omega) (by rw[H_,<-f];exact w) (by rw[g];exact⟨_,A,q⟩)
 · have g:(k+(b.toArray.size:Int)).toNat=j:=by rw[seqIndex_neg (by omega) y]at d;rw[H_,<-f];exact Ub d
   exact PySem.W.ki_setBack e (by omega) (by rw[H_,<-f];exact y) (by omega) (by rw[g];exact⟨_,A,q⟩)
theorem qK(a b:Option Int)(n:Nat):(Xp a b U n).1=((HT.sIx n 0 a:Nat):Int)/\(Xp a b U n).2.1=((HT.sIx n n b:Nat):Int)/\(Xp a b U n).2.2=1:=by
 refine⟨?_,?_,rfl⟩;·cases a with|none=>simp[Xp,HT.sIx]|some i=>
  simp only[Xp,HT.sIx,abi,show(1:Int)>0 by decide,if_true];by_cases h:i<0;·simp only[h,if_true]<;>omega
  ·simp only[h,if_false]<;>omega
 ·cases b with|none=>simp[Xp,HT.sIx]|some i=>
  simp only[Xp,HT.sIx,abi,show(1:Int)>0 by decide,if_true];by_cases h:i<0;·simp only[h,if_true]<;>omega
  ·simp only[h,if_false]<;>omega
theorem oY(a:List B)(b d:Option Int):slicePick a.toArray b d U=((a.drop (HT.sIx a.length 0 b)).take (HT.sIx a.length a.length d-HT.sIx a.length 0 b)).toArray:=by obtain⟨g,f,e⟩:=qK b d a.toArray.size;unfold slicePick;rw[g,f,e];simp only[sliceRange_one,pick_run,H_]<;>rfl
def SI(K:d_):V->Option Int->Option Int->Hp->VK->Prop:=λx lo d H Q=>∃a b,x=.ref a/\ă K H a b/\∀p,H p=U->Q (.ref p) (Þ H p (.lst (Bz b lo d)))
theorem xR:ź a (SI a.K):=by intro E s u H x v y w lo g z Q I j o pl k h;obtain⟨d,e,rfl,n,q⟩:=h;cases j;obtain⟨p,r,i,m⟩:=I.list n;have f:=r.length;refine⟨"list",_,slot_list_getitem.lookup,i.isList.typeIs,?_⟩;refine wpAny_getItem_list_slice i.isList o pl k .none (by simp) ?_ (by rw[H_]<;>omega);rw[oY,<-f];refine⟨.ref s.heap.objs.size,_,I.laid (t':=s.toks) (o:=.lst (Bz e lo g)) (λb A q=>j_ _ q) (pi _) ?_,rfl,q _ (I.hok.fresh (pi _))⟩;exact⟨TU (lY e lo g) m,_,0,(r.drop (HT.sIx e.length 0 lo)).take (HT.sIx e.length e.length g-HT.sIx e.length 0 lo),v_ _ rfl⟩
noncomputable def jF:V->Bool|.non=>L|.bl _=>L|.int _=>L|.str _=>L|_=>D
noncomputable def Ō:V->V->Bool|.non,.non=>L|.bl a,.bl b=>a==b|.bl a,.int b=>(if a then 1 else 0)==b|.int a,.bl b=>a==(if b then 1 else 0)|.int a,.int b=>a==b|.str a,.str b=>a==b|_,_=>D
theorem Km{x:V}{v:B}(g:Ø ψ ω)(d:Ø x v)(i:jF ψ=L)(h:jF x=L):SeqAt.EqAt N f ω v (Ō ψ x):=by cases ψ with
 |non=>cases g;cases x with|non=>cases d;exact SeqAt.EqAt.same _|bl b=>cases d;exact SeqAt.EqAt.none_bool b|int b=>obtain⟨t,rfl⟩:=d;exact SeqAt.EqAt.none_int b t|str b=>obtain⟨t,rfl⟩:=d;exact SeqAt.EqAt.none_str b t|_=>exact absurd (show D=L from h) A_
 |bl a=>cases g;cases x with|non=>cases d;exact SeqAt.EqAt.bool_none a|bl b=>cases d;exact Z8 a b|int b=>obtain⟨t,rfl⟩:=d;exact SeqAt.EqAt.bool_int a b t|str b=>obtain⟨t,rfl⟩:=d;exact SeqAt.EqAt.bool_str a b t|_=>exact absurd (show D=L from h) A_
 |int a=>obtain⟨e,rfl⟩:=g;cases x with|non=>cases d;exact SeqAt.EqAt.int_none a e|bl b=>cases d;exact SeqAt.EqAt.int_bool a e b|int b=>obtain⟨t,rfl⟩:=d;exact SeqAt.EqAt.int_int a e b t|str b=>obtain⟨t,rfl⟩:=d;exact aaF a e b t|_=>exact absurd (show D=L from h) A_
 |str a=>obtain⟨e,rfl⟩:=g;cases x with|non=>cases d;exact SeqAt.EqAt.str_none a e|bl b=>cases d;exact SeqAt.EqAt.str_bool a e b|int b=>obtain⟨t,rfl⟩:=d;exact aaE a e b t|str b=>obtain⟨t,rfl⟩:=d;exact SeqAt.EqAt.str_str a e b t|_=>exact absurd (show D=L from h) A_
 |_=>exact absurd (show D=L from i) A_
def ľ(x:V)(u:B):Bool:=match u with|.none=>Ō .non x|.bool b=>Ō (.bl b) x|.int i _=>Ō (.int i) x|.str z _=>Ō (.str z) x|_=>D
theorem xS{y:V}(r:Ø y ω)(f:jF y=L):ľ ψ ω=Ō y ψ:=by cases y with|non=>cases r;rfl|bl b=>cases r;rfl|int i=>obtain⟨t,rfl⟩:=r;rfl|str z=>obtain⟨t,rfl⟩:=r;rfl|_=>exact absurd (show D=L from f) A_
theorem lZ{x:V}:∀{a:List V}{us:List B},Ñ a us->a.all jF=L->us.any (ľ x)=a.any λy=>Ō y x|_,_,.nil,_=>rfl|y::a,u::us,.cons r t,f=>by rw[Vu,m_]at f;rw[Vt,Vt,xS r f.1,lZ t f.2]
theorem jn{A:C_}{s:ge}{x:V}{v:B}(d:Ø x v)(e:jF x=L):∀{b:List V}{us:List B},Ñ b us->b.all jF=L->∀u∈us,SeqAt.EqAt A s u v (ľ x u)
 |_,_,.nil,_=>λu a=>by cases a|y::b,u::us,.cons r t,f=>λg a=>by
  rw[Vu,m_]at f;rcases uk.mp a with rfl|a;·rw[xS r f.1];exact Km r d f.1 e
  ·exact jn d e t f.2 g a
def inV(x:V)(a:List V):Bool:=a.any λy=>Ō y x
def rIn(K:d_)(b:Bool):R2:=λx y H Q=>∃p a,y=.ref p/\(ă K H p a\/ù K H p a)/\jF x=L/\a.all jF=L/\Q (.bl (if b then !inV x a else inV x a)) H
theorem xT:ÿ a (Ug .In) (rIn a.K D):=by
 intro n s k H x y v u Q I f i h;obtain⟨p,m,rfl,d,g,fs,q⟩:=h;cases i;rcases d with d|d;·obtain⟨b,r,pl,j⟩:=I.list d;refine SeqAt.in_listAt (ľ x) pl.isList (λw e=>jn f g r fs w (by simpa using e)) ⟨.bl _,H,I,rfl,?_⟩;rw[show b.toArray.any (ľ x)=b.any (ľ x)by simp,lZ r fs];exact q
 ·obtain⟨b,r,pl,j⟩:=I.tuple d;refine SeqAt.in_tupleAt (ľ x) pl (λw e=>jn f g r fs w (by simpa using e)) ⟨.bl _,H,I,rfl,?_⟩;rw[show b.toArray.any (ľ x)=b.any (ľ x)by simp,lZ r fs];exact q
theorem qL:ÿ a (Ug .NotIn) (rIn a.K L):=by
 intro n s k H x y v u Q I f i h;obtain⟨p,m,rfl,d,g,fs,q⟩:=h;cases i;rcases d with d|d;·obtain⟨b,r,pl,j⟩:=I.list d;refine SeqAt.notIn_listAt (ľ x) pl.isList (λw e=>jn f g r fs w (by simpa using e)) ⟨.bl _,H,I,rfl,?_⟩;rw[show b.toArray.any (ľ x)=b.any (ľ x)by simp,lZ r fs];exact q
 ·obtain⟨b,r,pl,j⟩:=I.tuple d;refine SeqAt.notIn_tupleAt (ľ x) pl (λw e=>jn f g r fs w (by simpa using e)) ⟨.bl _,H,I,rfl,?_⟩;rw[show b.toArray.any (ľ x)=b.any (ľ x)by simp,lZ r fs];exact q
theorem op_notIn_str:ÿ a (Ug .NotIn) (λx y H Q=>∃i j,x=.str i/\y=.str j/\Q (.bl (!(!(Uk j i 0 j.length 1).isEmpty))) H):=by intro g s e H x y v u Q I d b h;obtain⟨i,j,rfl,rfl,q⟩:=h;obtain⟨t,rfl⟩:=d;obtain⟨f,rfl⟩:=b;exact notIn_str ⟨.bl _,H,I,rfl,q⟩
theorem oZ:nh a (.type "tuple") (λm H Q=>∃p f,m=[.ref p]/\((ă a.K H p f/\∀l,H l=U->Q (.ref l) (Þ H l (.tup f)))\/(ù a.K H p f/\Q (.ref p) H))):=by
 intro v s k H m us Q I r h;obtain⟨p,f,rfl,h⟩:=h;obtain⟨u,rfl,z⟩:=iL r;cases z;rcases h with⟨j,q⟩|⟨j,q⟩
 ·obtain⟨d,i,pl,n⟩:=I.list j;have y:=i.length;refine call_tuple_list pl.isList (λg A=>?_) (by simp only[H_]<;>omega);have w:Í a v k H {s with heap:=g}:=I.kept (t':=s.toks) A;have E:Í a v k (Þ H g.objs.size (.tup f)) {s with heap:=g.push {cls:=.type "tuple",data:=.seq d.toArray}}:=w.laid (t':=s.toks) (λb o e=>j_ _ e) (pi _) (show å a.prog a.w _ _ _ (.tup f)from⟨n,d,i,ab1 _ _⟩);exact⟨.ref g.objs.size,_,E,rfl,q _ (w.hok.fresh (pi _))⟩
 ·obtain⟨d,i,pl,n⟩:=I.tuple j;exact call_tuple_same pl ⟨.ref p,H,I,rfl,q⟩
def tyV(K:d_)(T:String)(x:V)(H:Hp):Prop:=match x with|.str _=>T="str"|.int _=>T="int"|.ref p=>(T="list"/\∃b,ă K H p b)\/(T="tuple"/\∃o,K.lookup p=Z o/\o.cls=.type "tuple"/\o.dict=U)\/(T="dict"/\((∃a,H p=Z (.dK a))\/∃a,H p=Z (.dT a)))\/(T="set"/\∃S n,H p=Z (.set S n))|_=>False
theorem Ec{T:String}(I:Í a P Φ h f)(r:Ø ψ ω)(j:tyV a.K T ψ h):f.TypeIs ω T/\∀b,ω=.ref b->∃s,f.heap.get? b=Z s/\s.dict=U:=by cases ψ with
 |str z=>obtain⟨t,rfl⟩:=r;cases(show T="str"from j);exact⟨Xj f z t,λ_ e=>nomatch e⟩|int i=>obtain⟨t,rfl⟩:=r;cases(show T="int"from j);exact⟨typeIs_int f i t,λ_ e=>nomatch e⟩|ref p=>
 cases r;rcases j with⟨rfl,y,u⟩|⟨rfl,o,d,v,k⟩|⟨rfl,d⟩|⟨rfl,S,n,d⟩;·obtain⟨w,_,pl,_⟩:=I.list u;refine⟨pl.isList.typeIs,λb e=>?_⟩;cases e;obtain⟨o,n,e,c,k,_⟩:=pl;exact⟨o,e,k⟩
 ·refine⟨⟨o,I.kIn p o d,v⟩,λb e=>?_⟩;cases e;exact⟨o,I.kIn _ o d,k⟩
 · have z:∃o,f.heap.get? p=Z o/\o.ExactDict:=by
    rcases d with⟨q,d⟩|⟨q,d⟩;·obtain⟨_,_,_,_,o,_,_,e,g,_⟩:=I.hok p _ d;exact⟨o,e,g⟩
    ·obtain⟨_,_,_,_,o,_,_,e,g,_⟩:=I.hok p _ d;exact⟨o,e,g⟩
   obtain⟨o,e,g⟩:=z;refine⟨⟨o,e,g.1⟩,λb m=>?_⟩;cases m;exact⟨o,e,g.2.1⟩
 ·obtain⟨o,_,_,_,e,g,_⟩:=I.hok p _ d;refine⟨⟨o,e,g.1⟩,λb m=>?_⟩;cases m;exact⟨o,e,g.2.1⟩|_=>exact Uf j
def SJ(K:d_)(T:String)(r:V->List V->Hp->VK->Prop)(d:TE):TE:=λb H Q=>d b H λx a=>tyV K T x a/\r x [] a Q
def tBM(K:d_)(T:String)(r:V->List V->Hp->VK->Prop)(e:TE)(t:TA):TE:=λa H Q=>e a H λx b=>tyV K T x b/\t a b λd f=>r x d f Q
theorem Kn{T j:String}{r:V->List V->Hp->VK->Prop}(z:PlainAttrs T)(i:Slot T d j)(k:abB (.builtin j)=pure (.type "method_descriptor"))(E:œ a j r)(A:PE a g Χ)(f:Uy g d a.env (eval g a.env)=eval g a.env:=by rfl)(e:(m.endLine==v.line)=L:=by rfl):PE a (.Call (.Attribute g d m) [] [] v) (SJ a.K T r Χ):=by intro p s n H Q I h;refine wpAny_Call_method0_late f e (ã (A p s n H _ I h) λb w⟨x,H1,q,o,u,y⟩=>?_);obtain⟨P,N⟩:=Ec q o u;exact⟨T,j,z,i,k,P,N,Wx rfl (aak (E p w n H1 x [] b [] Q q o .nil y))⟩
theorem BB{t:TA}{T n:String}{r:V->List V->Hp->VK->Prop}(pa:PlainAttrs T)(j:Slot T d n)(q:abB (.builtin n)=pure (.type "method_descriptor"))(hm:œ a n r)(ho:PE a g Χ)(ha:PA a (u::w) t)(i:Uy g d a.env (eval g a.env)=eval g a.env:=by rfl)(k:((TW v (k_ (u::w) a.env)).all (λx=>!x.1)&&(Vy v (UN [] a.env)).all (λx=>x.1.isSome)&&t_ ((u::w).length+([]:List VI).length+(if([]:List VI).isEmpty then 0 else 1)<30))=L:=by rfl)(f:(m.endLine==v.line)=L:=by rfl)(hs:k_ (u::w) a.env=(D,eval u a.env)::k_ w a.env:=by rfl)(e:(TW v (k_ w a.env)).any (·.1)=D:=by rfl):PE a (.Call (.Attribute g d m) (u::w) [] v) (tBM a.K T r Χ t):=by intro p s o H Q I h;refine wpAny_Call_method_late i k f rfl (ã (ho p s o H _ I h) λb P⟨x,H1,z,y,E,q1⟩=>?_);obtain⟨h1,h2⟩:=Ec z y E;refine⟨T,n,pa,j,q,h1,h2,?_⟩;have hA:=ha v p P o H1 _ z q1;rw[hs]at hA⊢;refine Wx (by show(D||(TW v (k_ w a.env)).any (·.1))=D;rw[e]<;>rfl) (Yd ?_);exact ã hA λus N⟨A,H2,I2,r2,q2⟩=>hm p N o H2 x A b us Q I2 y r2 q2
def MtM(X:C)(e:String)(r:V->List V->Hp->VK->Prop):Prop:=∀(d:List (O×Obj))(s:ge)(a:St)(H:Hp)(x:V)(b:List V)(v:B)(us:List B)(Q:VK),Í X d a H s->Ø x v->Ñ b us->r x b H Q->u_ (D_ X.prog X.w) X.A (call (.builtin e) (v::us)) (EP X d a Q) X.xe s
theorem Ñ.one:∀{x:V}{us:List B},Ñ [x] us->∃u,us=[u]/\Ø x u|_,_,.cons r .nil=>⟨_,rfl,r⟩
theorem Ñ.two:∀{x y:V}{us:List B},Ñ [x,y] us->∃u v,us=[u,v]/\Ø x u/\Ø y v|_,_,_,.cons r (.cons q .nil)=>⟨_,_,rfl,r,q⟩
theorem Ñ.zero:∀{us:List B},Ñ [] us->us=[]|_,.nil=>rfl
theorem Ñ.dropLast(h:Ñ η θ):Ñ η.dropLast θ.dropLast:=by induction h with|nil=>exact .nil|cons r t a=>cases t with|nil=>exact .nil|cons q b=>exact .cons r a
theorem v8(l:List ε):l.eraseIdx (l.length-1)=l.dropLast:=by induction l with|nil=>rfl|cons a r d=>cases r with|nil=>rfl|cons b r=>
 have e:(a::b::r).length-1=((b::r).length-1)+1:=by have g:(a::b::r).length=r.length+2:=rfl;have f:(b::r).length=r.length+1:=rfl;omega
 rw[e,List.eraseIdx_cons_succ,d];all_goals rfl
theorem Í.lset{i:List V}{its':List B}{d:Array B->Array B}(I:Í a P Φ h f)(r:h e=Z (.lst η))(g:f.heap.get? e=Z {cls:=.type "list",data:=.seq θ.toArray b})(o:d θ.toArray=its'.toArray)(m:Ñ i its')(j:i.length<=sizeLine):Í a P Φ (Þ h e (.lst i)) {f with heap:=f.heap.update e (Uo d),toks:=k}:=by have q:=abe g d;rw[o]at q;refine I.write (x:=e) (e:=e) (by rw[r];exact trivial) (.inl rfl) (λs u p n=>(XF f.heap (Uo d) (Uq p)).trans n) ⟨_,q⟩ ?_;exact⟨j,its',_,m,q⟩
theorem Í.lnew{ys:List V}{its:List B}{t':Nat}(I:Í a P Φ h f)(d:Ñ ys its)(b:ys.length<=sizeLine):Í a P Φ (Þ h f.heap.objs.size (.lst ys)) {f with heap:=f.heap.push {cls:=.type "list",data:=.seq its.toArray},toks:=t'}:=I.laid (λ_ _ q=>j_ _ q) (pi _) ⟨b,its,0,d,v_ _ rfl⟩
theorem Í.fresh(I:Í a P Φ h f):h f.heap.objs.size=U:=I.hok.fresh (pi _)
theorem Í.lstM{l:O}{xs:List V}(I:Í a P Φ h f)(d:h l=Z (.lst xs)):xs.length<=sizeLine/\∃(b:List B)(n:Nat),Ñ xs b/\xs.length=b.length/\f.heap.get? l=Z {cls:=.type "list",data:=.seq b.toArray n}:=by obtain⟨z,b,n,r,e⟩:=I.hok l _ d;exact⟨z,b,n,r,r.length,e⟩
def F5:V->List V->Hp->VK->Prop:=λx b H Q=>∃l a y,x=.ref l/\b=[y]/\H l=Z (.lst a)/\a.length<sizeLine/\Q .non (Þ H l (.lst (a++[y])))
theorem qM:MtM a "list.append" F5:=by intro w s j H x m v us Q I f g h;obtain⟨l,k,y,rfl,rfl,d,o,q⟩:=h;cases f;obtain⟨u,rfl,i⟩:=g.one;obtain⟨z,b,n,r,p,e⟩:=I.lstM d;refine Xk WL ⟨_,e,rfl⟩ aam (aab _ _) (aaN l b.toArray n u (by rw[H_];omega)) ⟨e,?_⟩;refine⟨.non,_,I.lset (its':=b++[u]) d e (by simp) (r.append (.cons i .nil)) ?_,rfl,q⟩;rw[T_,Z2];omega
def SK:V->List V->Hp->VK->Prop:=λx b H Q=>∃l a y,x=.ref l/\b=[]/\H l=Z (.lst a)/\a[a.length-1]?=Z y/\Q y (Þ H l (.lst a.dropLast))
theorem Ko:MtM a "list.pop" SK:=by
 intro N s w H x E v us Q I i j h;obtain⟨l,A,y,rfl,rfl,g,m,q⟩:=h;cases i;have f:=j.zero;subst f;obtain⟨z,b,n,r,p,e⟩:=I.lstM g;obtain⟨u,o,k⟩:=r.get m;have d:b.toArray[b.toArray.size-1]?=Z u:=by show b.toArray[b.length-1]?=Z u;rw[<-VT,<-p];exact o
 refine Xk aaH ⟨_,e,rfl⟩ F.entry_list_pop (F.args_list_pop_1 _) (MeetsSeq.list_pop_last l b.toArray n u d (by rw[H_];omega)) ⟨e,?_⟩;refine⟨y,_,I.lset (its':=b.dropLast) g e ?_ r.dropLast ?_,k,q⟩;·show b.toArray.eraseIdxIfInBounds (b.toArray.size-1)=b.dropLast.toArray;rw[H_,List.eraseIdxIfInBounds_toArray,v8]
 ·rw[List.length_dropLast];omega
def RK:R2:=λx y H Q=>∃l b d a,x=.ref l/\y=.ref b/\H l=Z (.lst d)/\H b=Z (.lst a)/\d.length+a.length<=sizeLine/\∀p,H p=U->Q (.ref p) (Þ H p (.lst (d++a)))
theorem Kp:ÿ a (V0 .Add) RK:=by
 intro f' s w H x y v u Q I i g h;obtain⟨l,b,N,A,rfl,rfl,k,hB,hz,q⟩:=h;cases i;cases g;obtain⟨z,f,n,r,hl,e⟩:=I.lstM k;obtain⟨E,d,P,j,p,o⟩:=I.lstM hB;refine PySem.P.add_list e o ?_ (by rw[H_,H_];omega);have m:f.toArray++d.toArray=(f++d).toArray:=by simp
 rw[m];exact⟨.ref _,_,I.lnew (t':=s.toks) (r.append j) (by rw[T_];omega),rfl,q _ I.fresh⟩
end L2
namespace Att
open PySem.W PySem.Calls
theorem l4{P:Z9}:∀(d:List Int)(e:List B),WellAll P I e (d.map WData.int)->abA e d:=by intro d;induction d with|nil=>intro e w;rw[XT]at w;cases w;exact .nil|cons n d f=>intro e w;rw[E_]at w;cases w with|cons a b=>cases a;exact .cons _ _ (f _ b)
theorem xU{l:OpenLaw}(y:l.most=Z b){P:Z9}{h:TC}{args:List WData}{f:List B}(g:l.row.toRowW.claim.pre args=L)(n:WellAll P h f args):∃a o e,f=[z_ a]/\args=[WData.list (e.map WData.int)]/\h.get? a=Z {cls:=.type "list",data:=.seq o.toArray}/\abA o e/\e.length<=b:=by
 have Ĩ:WShape.hasAll [] args [.list .int]=L:=(pre_splitW g).1;have p:l.pre.holds [] {args:=args}=L:=(pre_splitW g).2;obtain⟨d,r,rfl,E,A⟩:=hasAllW_cons Ĩ;obtain rfl:=hasAllW_nil A;obtain⟨H,rfl,z⟩:=hasW_list E;obtain⟨e,rfl⟩:=items_int z;have i:e.length<=b:=by
  unfold OpenLaw.pre at p;have m:(WTm.not (.lt (.lit (.int (b:Int))) (.len (.arg 0)))).holds [] {args:=[.list (e.map .int)]}=L:=by have m:=(holds_andW p).1;rw[y]at m;exact m
  have k:=condW_of m (w_not (w_lt w_lit (w_len_list (w_arg rfl))));rw[P_]at k;refine Nat.le_of_not_lt λq=>?_;have v:(b:Int)<((e.length:Nat):Int):=by omega
  first|(rw[decide_eq_true v]at k;exact absurd k (by decide))|(simp at k;omega)
 cases n with|cons u s=>cases s;cases u with|list w j=>exact⟨_,_,e,rfl,rfl,w,l4 e _ j,i⟩
theorem xV(l:OpenLaw)(args:List WData):l.row.toRowW.claim.post args (.bool L) args=L:=postW_of (r:=l.row.toRowW) (X:=(L==L)) (show WShape.has [] (.bool L) .bool=L by first|rfl|decide|simp[WShape.has,WShape.arms,WShape.armsAll]) (show(WTm.eq .res (.lit (.bool L))).value [] {args:=args,res:=Z (.bool L),after:=args}=Z (.bool (L==L))from w_eq_bool (w_res rfl) w_lit) rfl
theorem attach_call{l:OpenLaw}{XP:(Str->Option B)->TC->Prop}{YP:x_->TC->Prop}{d:DefRec}(hn:l.most=Z b)(P:d.params.defaults=[])(q:∀(w:x_)(g e:ge)(y H:Str->Option B)(k:O)(o:Obj)(E z h:B)(a:O)(j:List B)(v:List Int),Ground s A [] XP w g y H e.heap->YP w e.heap->e.heap.get? k=Z o->o.data=.func (docDef d.name d.params d.body d.scope E z h)->e.heap.CodeRec z d.name->y d.name=Z (.ref k)->e.heap.get? a=Z {cls:=.type "list",data:=.seq j.toArray}->abA j v->v.length<=b->e.gens=#[]->WN (D_ l.prog w) aai (.call (.ref k) ⟨[.ref a],[]⟩) (λr u=>r=.ok (.ret (.bool L))/\OldK e.heap u.heap/\u.os=e.os/\YA u.gens) e):WalkO s A XP YP l.row.toRowW d [] (λf j=>abE f j):=by intro w g e y H G Y k o E z h dV kV ho hd a' hD N hg d' b' as m c' e' I f';obtain rfl:dV=.none:=Dflts.none hD P;obtain rfl:kV=.none:=Dflts.noKw hD;obtain⟨a,j,v,rfl,rfl,n,i,p⟩:=xU hn m I;refine enter_call (WZ (q w g e y H k o E z h a j v G Y ho (fd_plain hd) a' N n i p hg) λr u hq=>?_);obtain⟨rfl,h2,h3,h4⟩:=hq;exact⟨.inl ⟨.bool L,.bool L,[],rfl,λ_=>rfl,.bool L,xV l _,λ_=>⟨Y7,λ_ hm=>(nomatch hm)⟩⟩,h2,h3,h4⟩
noncomputable def RL(h:TC)(b d:O):List (O×Obj):=(p_ h.objs.size).filterMap λa=>if a=b\/a=d then U else(h.get? a).map λo=>(a,o)
end Att
namespace L2
theorem qN:∀{a:List B}{b:List Int},abA a b->Ñ (b.map V.int) a|_,_,.nil=>.nil|_,_,.cons n t h=>.cons ⟨t,rfl⟩ (qN h)
def OA(H:Hp):Prop:=∀b,H b=U\/∃o a,H b=Z (.frz o (.lst a))
theorem BC{mb:Str->Option B}{CX:ŀ}{sp:Sp}{ns:List Int}(KX:q.In f.heap)(c':f.heap.Ns B_ Θ)(A:f.heap.Ns YI mb)(n':∀d:Str,d≠"__name__"->mb d=Vb d)(i':f.heap.NoLimit)(hg:f.gens=#[])(ha:f.heap.get? z=Z {cls:=.type "list",data:=.seq θ.toArray})(hi:abA θ ns)(hl:ns.length<=sizeLine)(hr:Ý b aai)(F:∀I:TC,q.In I->I.Ns B_ Θ->ì s r q Θ I CX b e Ã [d] sp)(a':∀(w:ge)(u:B),aaX w Ã ⟨[u],[]⟩ [(d,u)])(m':∀H:Hp,OA H->ă q H z (ns.map V.int)->sp [.ref z] H (λv _=>v=.bl L) λ_ _ _=>False)(o':∀H g E,CX [] H f (λ_ _ _=>False) g E->False):WN (D_ s r) aai (.call (.ref e) ⟨[.ref z],[]⟩) (λk E=>k=.ok (.ret (.bool L))/\OldK f.heap E.heap/\E.os=f.os/\YA E.gens) f:=by
 have rv:=qN hi;have g':=hi.length;have P:∀H:Hp,OA H->ă q H z (ns.map V.int)->ĉ s r H f.heap->(∀a,H a≠U->a=z)->(H z≠U->q.lookup z=U)->WN (D_ s r) aai (.call (.ref e) ⟨[.ref z],[]⟩) (λk E=>k=.ok (.ret (.bool L))/\OldK f.heap E.heap/\E.os=f.os/\YA E.gens) f:=by
  intro H hO hS b' hA hK;have y:∀{a:O}{o:Obj},f.heap.get? a=Z o->H a=U->(Bp f.heap H).get? a=Z o:=λg n=>Bq g n;have l':∀{a:O}{o:Obj}{es:Array DictEntry}{ep:Nat},f.heap.get? a=Z o->o.data=.dict es ep->H a=U:=λ{a o es ep}g p=>by cases j:H a with|none=>rfl|some u=>have e':a=z:=hA a (by rw[j];simp);subst e';rw[ha]at g;cases g;have d':Data.seq θ.toArray _=VX es ep:=p;cases d'
  have N:∀{a:O}{m:Str->Option B},f.heap.Ns a m->(Bp f.heap H).Ns a m:=λ{a m}⟨o,es,ep,g,p,k⟩=>⟨o,es,ep,y g (l' g p),p,k⟩;have f':q.In (Bp f.heap H):=λa o g=>y (KX a o g) (by cases j:H a with|none=>rfl|some u=>have e':a=z:=hA a (by rw[j];simp);subst e';rw[hK (by rw[j];simp)]at g;cases g);have hM:Mod q Θ (Bp f.heap H):=⟨f',N c',⟨mb,N A,n'⟩,let⟨mc,h1,h2⟩:=i';⟨mc,N h1,h2⟩⟩;have e0:ŉ s r q Θ (Bp f.heap H) aai [] f H:=⟨rfl,hM,λa o g=>FL g,YC (xn _ _),trivial,λa A=>absurd (show a∈([]:List O)from A) (by simp),b',.of_eq hg⟩;refine WZ ((F _ f' (N c')).run aai [] f H ⟨[.ref z],[]⟩ [.ref z] [.ref z] _ _ hr e0 (a' f (.ref z)) (.cons rfl .nil) (m' H hO hS)) λk E h=>?_;cases k with|error g=>exact(o' H g E h).elim|ok fl=>cases fl with|next=>exact Uf h|brk=>exact Uf h|cont=>exact Uf h|ret u=>obtain⟨v,H',os,k',un,h',r',j⟩:=h;have q':v=.bl L:=j;subst q';obtain rfl:u=S_ L:=r';refine⟨rfl,OldK.of_keep λa o g=>?_,os,k'⟩;cases j:H a with|none=>exact un.keep a o g j (by intro i;exact absurd (show a∈([]:List O)from i) (by simp)) (by simp)|some u=>
    rcases hO a with i|⟨ob,xs,i⟩;·rw[j]at i;cases i
    ·have z2:=un.frzs a ob _ i;obtain⟨e1,_⟩:=b' a _ i;obtain⟨e2,_⟩:=h' a _ z2;rw[g]at e1;cases e1;exact e2
 cases hk:q.lookup z with|some o=>have g:=KX z o hk;rw[ha]at g;cases g;refine P (λ_=>U) (λ_=>.inl rfl) (.inr ⟨_,θ.toArray,_,hk,rfl,rfl,rfl,by rw[H_,g'];exact hl,by simpa using rv⟩) (λa u i=>by have z':(U:Option HO)=Z u:=i;cases z') (λa i=>absurd rfl i) λi=>absurd rfl i|none=>
  refine P (λa=>if a=z then Z (.frz {cls:=.type "list",data:=.seq θ.toArray} (.lst (ns.map V.int)))else U) (λa=>?_) (.inl (.inr ⟨{cls:=.type "list",data:=.seq θ.toArray},if_pos rfl⟩)) (λa u i=>?_) (λa i=>?_) λ_=>hk
  · by_cases A:a=z;·exact .inr ⟨_,_,if_pos A⟩
    ·exact .inl (if_neg A)
  · by_cases A:a=z;·have z':=(if_pos A).symm.trans i;cases z';subst A;exact⟨ha,by rw[P_];exact hl,θ,_,rv,ha⟩
    ·have z':=(if_neg A).symm.trans i;cases z'
  · by_cases A:a=z;·exact A
    ·exact absurd (if_neg A) i
theorem walk_of{l:ZO}{XP:(Str->Option B)->TC->Prop}{YP:x_->TC->Prop}{i:DefRec}{K:Z9->d_}{CX:x_->ŀ}{sp:x_->Sp}(hn:l.most=Z b)(P:b<=sizeLine)(b':i.params.defaults=[])(hr:Ý k aai)(hY:∀(w:x_)(h:TC),YP w h->(K w.params).In h)(F:∀(w:x_)(p:Str->Option B)(z:O)(h:TC),(K w.params).In h->h.Ns B_ p->p i.name=Z (.ref z)->∃I:UD,(∀(g:ge)(u:B),aaX g I ⟨[u],[]⟩ [(d,u)])/\∀j:TC,(K w.params).In j->j.Ns B_ p->ì l.prog w (K w.params) p j (CX w) k z I [d] (sp w))(N:∀(w:x_)(H:Hp)(a:O)(y:List Int),y.length<=b->OA H->ă (K w.params) H a (y.map V.int)->sp w [.ref a] H (λv _=>v=.bl L) λ_ _ _=>False)(c':∀(w:x_)(H:Hp)(g:ge)(e:B)(E:ge),CX w [] H g (λ_ _ _=>False) e E->False):abW s A XP YP l.row.toRowW i [] (λf vs=>abE f vs):=by refine Att.attach_call hn b' λw d' q p mb z o pm cd f' a vs y G Y ho hd e' a' r n m hg=>?_;have KX:=hY w _ Y;obtain⟨I,hb,hF⟩:=F w p z _ KX G.T.g a';exact BC KX G.T.g G.T.b G.T.builtins G.T.nolimit hg r n (TU m P) hr hF hb (λH hO hS=>N w H a y m hO hS) λH e E=>c' w H q e E
noncomputable def bF(s:Us)(j:Nat):Us:=match s with|.ClassDef _ _ _ a _ _ _ _ _ _ _=>a.getD j (.Pass ⟨0,0,0,0⟩)|_=>.Pass ⟨0,0,0,0⟩
noncomputable def ik(s:Us):Arguments:=match s with|.FunctionDef _ a _ _ _ _ _ _ _ _=>a|_=>{posonlyargs:=[],args:=[],vararg:=U,kwonlyargs:=[],kw_defaults:=[],kwarg:=U,defaults:=[]}
noncomputable def bU(s:Us):List Us:=match s with|.FunctionDef _ _ b _ _ _ _ _ _ _=>b|_=>[]
noncomputable def aq(s:Us):U_:=match s with|.FunctionDef _ _ _ _ _ _ a _ _ _=>a|_=>{kind:=.function,names:=[],isGenerator:=D,isCoroutine:=D}
abbrev į:ŀ:=λ_ _ _ _ _ _=>False
abbrev E0:XK:=λ_ _ _=>False
theorem Kq:jS į a E0:=λ_ _ _ _ _ _ _ h=>h.elim
structure ļ(K:d_)(x qual:Str)(st:Us)(f:O)(fd:UD):Prop where
 ex:∃(oc:B)(od:Option O)(kV doc pm:B)(an:Option O)(cdv ct:B)(osl:Array (Option B)),fd=Vq x qual (ik st) (bU st) (aq st) .none kV doc pm an cdv ct/\K.lookup f=Z ⟨oc,od,.func fd,osl⟩/\XB K cdv qual=L
 kp:UK K (.ref f)=L
theorem ļ.ok{p:List Str}{n:Sp}(F:ļ q d o Δ e Ã)(S:ij A p (aq Δ))(u:∀k H Q E,n k H Q E->k.length=p.length)(m:∀(j:B)(f:C_)(i:List Env)(a:ge)(H:Hp)(k:List V)(Q:VK)(E:XK),Ý b (f.deeper (Wy o (aq Δ) a.heap.objs.size e j))->n k H Q E->∃t,Ļ (oX į s r q Θ I A o (aq Δ) e j f i a H E).nox (bU Δ) t/\t {nx:=λ_ N=>Q .non N,rt:=Q} (start A k) H):ì s r q Θ I į (b+1) e Ã p n:=by obtain⟨oc,od,kV,a',pm,an,j,ct,P,rfl,y,w⟩:=F.ex;refine Bx y w S u λf i a H k Q E z v=>?_;obtain⟨t,h,g⟩:=m j f i a H k Q E z v;exact⟨t,h.nox,g⟩
theorem ļ.binds(F:ļ q d o Δ e Ã)(h:∀(kV a f:B)(i:Option O)(b g:B)(us:List B),us.length=A.length->aaP (Vq d o (ik Δ) (bU Δ) (aq Δ) .none kV a f i b g) ⟨us,[]⟩=pure (A.zip us)):î q Ã A []:=by obtain⟨n,m,kV,a,f,i,b,g,j,rfl,p,k⟩:=F.ex;exact .all (h kV a f i b g)
theorem Ed{m j:Option O}{f:Array (Option B)}{h b g a i:B}(l:q.lookup e=Z ⟨ω,m,.func (Vq d o (ik Δ) (bU Δ) (aq Δ) .none h b g j a i),f⟩)(c:XB q a o=L)(k:UK q (.ref e)=L):ļ q d o Δ e (Vq d o (ik Δ) (bU Δ) (aq Δ) .none h b g j a i):=⟨⟨ω,m,h,b,g,j,a,i,f,rfl,l,c⟩,k⟩
theorem Ee{A B:Prop}(h:B):if D=L then A else B:=by rw[if_neg A_];exact h
theorem Ef{A B:Prop}(h:A):if L=L then A else B:=by rw[if_pos rfl];exact h
def Ð(H a:Hp):Prop:=∀b o,H b=Z o->a b=Z o
theorem Ð.refl(H:Hp):Ð H H:=λ_ _ h=>h
theorem Ð.trans{e:Hp}(a:Ð h Β)(b:Ð Β e):Ð h e:=λc o d=>b c o (a c o d)
end L2
namespace FD
open L2
inductive Q where|non|bl(b:Bool)|int(i:Int)|str(x:Str)|tup(xs:List Q)|lst(xs:List Q)|scr(ns:List Int)|exn(c:Nat)|obj(k:Nat)(xs:List Q)
noncomputable def Ŝ:Nat->Str|0=>"Keeper"|_=>"Desk"
noncomputable def ď:Nat->List Str|0=>["table","each","most","jar","latest"]|_=>["table","jar","done","undone"]
noncomputable def Ħ:Nat->Str|0=>"NoName"|1=>"NoTable"|2=>"NoPath"|3=>"NoAsk"|4=>"NoNote"|5=>"NoJar"|6=>"NoNumber"|7=>"NoText"|8=>"NoStep"|_=>"JarError"
def rw(K:d_)(H:Hp)(a:O)(d:List V):Prop:=(∃o,H a=Z (.frz o (.lst d)))\/∃(o:Obj)(b:Array B)(n:Nat),K.lookup a=Z o/\o.cls=.type "list"/\o.dict=U/\o.data=.seq b n/\b.size<=sizeLine/\Ñ d b.toList
theorem rw.l(a:rw q h e η):ă q h e η:=a.elim (λa=>.inl (.inr a)) .inr
mutual
def Ô(K:d_)(H:Hp):Q->V->Prop|.non,v=>v=.non|.bl b,v=>v=.bl b|.int i,v=>v=.int i|.str x,v=>v=.str x|.tup ds,v=>∃a f,v=.ref a/\H a=Z (.tup f)/\S K H ds f|.lst ds,v=>∃a f,v=.ref a/\H a=Z (.lst f)/\S K H ds f|.scr g,v=>∃a,v=.ref a/\rw K H a (g.map V.int)|.exn c,v=>∃a o u C,v=.ref a/\H a=Z (.frz o u)/\o.cls=.ref C/\Um K B_ (Ħ c)=Z (Z (.ref C))|.obj k ds,v=>∃a C h e,v=.ref a/\H a=Z (.ins C h ((ď k).zip e))/\Um K B_ (Ŝ k)=Z (Z (.ref C))/\S K H ds e/\ds.length<=(ď k).length
def S(K:d_)(H:Hp):List Q->List V->Prop|[],e=>e=[]|d::ds,e=>∃v us,e=v::us/\Ô K H d v/\S K H ds us
end
mutual
theorem Ô.mono{K:d_}{H g:Hp}(e:Ð H g):∀(d:Q)(v:V),Ô K H d v->Ô K g d v|.non,_,h=>h|.bl _,_,h=>h|.int _,_,h=>h|.str _,_,h=>h|.tup ds,v,h=>by obtain⟨a,b,r,h,q⟩:∃a b,v=.ref a/\H a=Z (.tup b)/\S K H ds b:=h;exact⟨a,b,r,e _ _ h,S.mono e ds b q⟩|.lst ds,v,h=>by obtain⟨a,b,r,h,q⟩:∃a b,v=.ref a/\H a=Z (.lst b)/\S K H ds b:=h;exact⟨a,b,r,e _ _ h,S.mono e ds b q⟩|.scr j,v,h=>by obtain⟨a,r,h⟩:∃a,v=.ref a/\rw K H a (j.map V.int):=h;exact⟨a,r,h.imp (λ⟨o,h⟩=>⟨o,e _ _ h⟩) id⟩|.exn c,v,h=>by obtain⟨a,o,u,C,r,h,q⟩:∃a o u C,v=.ref a/\H a=Z (.frz o u)/\o.cls=.ref C/\Um K B_ (Ħ c)=Z (Z (.ref C)):=h;exact⟨a,o,u,C,r,e _ _ h,q⟩|.obj k ds,v,h=>by obtain⟨a,C,i,f,r,h,n,q,l⟩:∃a C i f,v=.ref a/\H a=Z (.ins C i ((ď k).zip f))/\Um K B_ (Ŝ k)=Z (Z (.ref C))/\S K H ds f/\ds.length<=(ď k).length:=h;exact⟨a,C,i,f,r,e _ _ h,n,S.mono e ds f q,l⟩theorem S.mono{K:d_}{H g:Hp}(e:Ð H g):∀(ds:List Q)(f:List V),S K H ds f->S K g ds f|[],_,h=>h|d::ds,f,h=>by obtain⟨v,us,r,h,q⟩:∃v us,f=v::us/\Ô K H d v/\S K H ds us:=h;exact⟨v,us,r,Ô.mono e d v h,S.mono e ds us q⟩end
theorem S.nil:S q h [] []:=rfl
theorem S.cons{d e v b}(a:Ô q h d v)(t:S q h e b):S q h (d::e) (v::b):=⟨v,b,rfl,a,t⟩
theorem S.length{K:d_}{H:Hp}:∀{ds:List Q}{a:List V},S K H ds a->a.length=ds.length|[],a,h=>by cases(show a=[]from h);rfl|d::ds,a,h=>by obtain⟨v,us,r,_,q⟩:∃v us,a=v::us/\Ô K H d v/\S K H ds us:=h;subst r;show us.length+1=ds.length+1;rw[S.length q]
theorem S.get{K:d_}{H:Hp}:∀{ds:List Q}{a:List V}{i:Nat}{v:V},S K H ds a->a[i]?=Z v->∃d,ds[i]?=Z d/\Ô K H d v|[],a,i,v,h,e=>by cases(show a=[]from h);simp at e|d::ds,a,i,v,h,e=>by obtain⟨k,us,r,f,q⟩:∃v us,a=v::us/\Ô K H d v/\S K H ds us:=h;subst r;cases i with|zero=>simp at e;subst e;exact⟨d,rfl,f⟩|succ i=>obtain⟨j,g,b⟩:=S.get (i:=i) q (by simpa using e);exact⟨j,by simpa using g,b⟩
theorem S.get'{K:d_}{H:Hp}:∀{ds:List Q}{a:List V}{i:Nat}{d:Q},S K H ds a->ds[i]?=Z d->∃v,a[i]?=Z v/\Ô K H d v|[],a,i,v,h,e=>by simp at e|d::ds,a,i,m,h,e=>by obtain⟨b,us,r,g,q⟩:∃v us,a=v::us/\Ô K H d v/\S K H ds us:=h;subst r;cases i with|zero=>simp at e;subst e;exact⟨b,rfl,g⟩|succ i=>obtain⟨k,j,f⟩:=S.get' (i:=i) q (by simpa using e);exact⟨k,by simpa using j,f⟩
theorem S.append{K:d_}{H:Hp}:∀{ds b:List Q}{a us:List V},S K H ds a->S K H b us->S K H (ds++b) (a++us)|[],b,a,us,h,q=>by cases(show a=[]from h);exact q|d::ds,b,a,us,h,q=>by obtain⟨f,e,r,g,t⟩:∃v us,a=v::us/\Ô K H d v/\S K H ds us:=h;subst r;exact⟨f,e++us,rfl,g,S.append t q⟩
theorem S.take{K:d_}{H:Hp}:∀{ds:List Q}{a:List V}(n:Nat),S K H ds a->S K H (ds.take n) (a.take n)|ds,a,0,_=>by simp[S]|[],a,n+1,h=>by cases(show a=[]from h);exact rfl|d::ds,a,n+1,h=>by obtain⟨e,b,r,f,t⟩:∃v us,a=v::us/\Ô K H d v/\S K H ds us:=h;subst r;exact⟨e,b.take n,rfl,f,S.take n t⟩
theorem S.drop{K:d_}{H:Hp}:∀{ds:List Q}{a:List V}(n:Nat),S K H ds a->S K H (ds.drop n) (a.drop n)|ds,a,0,h=>h|[],a,n+1,h=>by cases(show a=[]from h);exact rfl|d::ds,a,n+1,h=>by obtain⟨e,b,r,f,t⟩:∃v us,a=v::us/\Ô K H d v/\S K H ds us:=h;subst r;exact S.drop n t
variable{E:List Q}
theorem Ô.lstE(b:Ô q h (.lst E) ψ):∃a d,ψ=.ref a/\h a=Z (.lst d)/\S q h E d:=b
theorem Ô.tupE(b:Ô q h (.tup E) ψ):∃a d,ψ=.ref a/\h a=Z (.tup d)/\S q h E d:=b
theorem Ô.exnE(d:Ô q h (.exn b) ψ):∃a o u C,ψ=.ref a/\h a=Z (.frz o u)/\o.cls=.ref C/\Um q B_ (Ħ b)=Z (Z (.ref C)):=d
theorem Ô.objE(d:Ô q h (.obj b E) ψ):∃a C f e,ψ=.ref a/\h a=Z (.ins C f ((ď b).zip e))/\Um q B_ (Ŝ b)=Z (Z (.ref C))/\S q h E e/\E.length<=(ď b).length:=d
theorem Ô.scrE{d:List Int}(b:Ô q h (.scr d) ψ):∃a,ψ=.ref a/\ă q h a (d.map V.int):=let⟨a,r,b⟩:∃a,ψ=.ref a/\rw q h a (d.map V.int):=b;⟨a,r,b.l⟩
theorem aH(a:h e=U)(o:HO):Ð h (Þ h e o):=λb u q=>by rw[ax (aE q a)];exact q
abbrev Ev:=List (Option Q)
structure Ü(K:d_)(H:Hp)(σ:L2.St)(ρ:Ev):Prop where
 len:σ.length=ρ.length
 at':∀(i:Nat)(d:Q),ρ[i]?=Z (Z d)->∃v,σ[i]?=Z (Z v)/\Ô K H d v
variable{Ι:L2.St}{δ:Ev}
theorem Ü.mono(E:Ü q h Ι δ)(e:Ð h Β):Ü q Β Ι δ:=⟨E.len,λi d a=>let⟨v,f,b⟩:=E.at' i d a;⟨v,f,Ô.mono e d v b⟩⟩
theorem Ü.set{i:Nat}{d:Q}(E:Ü q h Ι δ)(r:Ô q h d ψ):Ü q h (Ι.set i (Z ψ)) (δ.set i (Z d)):=by
 refine⟨by rw[Uc,Uc];exact E.len,λj f a=>?_⟩;by_cases b:i=j
 · subst b;by_cases e:i<δ.length;·rw[w_ e]at a;cases a;exact⟨ψ,by rw[w_ (by rw[E.len];exact e)],r⟩
   ·rw[Uw (by rw[Uc];omega)]at a;cases a
 ·rw[on b]at a;rw[on b];exact E.at' j f a
noncomputable def fgt(b:List Nat)(a:Ev):Ev:=b.foldl (λr j=>r.set j U) a
theorem Ü.fgt1(j:Nat)(E:Ü q h Ι δ):Ü q h Ι (δ.set j U):=by
 refine⟨by rw[Uc];exact E.len,λi d a=>?_⟩;by_cases b:j=i
 · subst b;by_cases e:j<δ.length;·rw[w_ e]at a;cases a
   ·rw[Uw (by rw[Uc];omega)]at a;cases a
 ·rw[on b]at a;exact E.at' i d a
theorem Ü.fgt{K:d_}{H:Hp}{b:L2.St}:∀(a:List Nat){d:Ev},Ü K H b d->Ü K H b (fgt a d)|[],_,E=>E|j::a,_,E=>Ü.fgt a (E.fgt1 j)
inductive Rs(α:Type)where|ok(a:α)|exc(c:Nat)
abbrev Ö:=List Q->Option (Rs Q)
inductive Fl where|nx(ρ:Ev)|rt(d:Q)|exc(c:Nat)
def Ů(N:O->Prop)(H:Hp)(e:O)(d:B)(h:TC):Prop:=H e=U/\N e/\∃b a i,h.get? e=Z b/\b.cls=d/\b.data=.fields a/\a[0]?=Z i/\(a[1]?=Z .none\/∃T g f,a[1]?=Z (.ref T)/\T≠e/\H T=U/\N T/\h.get? T=Z g/\g.data=.fields f/\f[3]?=Z .none)
def Pg(X:C)(a:O):Prop:=X.s₀.heap.get? a=U/\∀p∈X.pn,p.1≠a
def Kr(X:C)(H:Hp)(c:Nat)(e:B)(s:ge):Prop:=∃a b,e=.ref a/\Um X.K B_ (Ħ c)=Z (Z (.ref b))/\Ů (Pg X) H a (.ref b) s.heap
def XW(X:C)(c:Nat)(H:Hp):Prop:=∀d b a s e,Ð H a->Í X d b a s->Kr X a c e s->X.xe e s
theorem XW.mono(d:XW a b h)(e:Ð h Β):XW a b Β:=λg f j s x i I q=>d g f j s x (e.trans i) I q
def ð(X:C)(H:Hp)(o:Option (Rs Q))(a:VK):Prop:=match o with|none=>False|some (.exc c)=>XW X c H|some (.ok d)=>∀v b,Ð H b->Ô X.K b d v->a v b
def þ(X:C)(H:Hp)(o:Option (Rs Bool))(Q:Bool->Hp->Prop):Prop:=match o with|none=>False|some (.exc c)=>XW X c H|some (.ok d)=>∀a,Ð H a->Q d a
def è(X:C)(H:Hp)(o:Option (Rs (List Q)))(a:List V->Hp->Prop):Prop:=match o with|none=>False|some (.exc c)=>XW X c H|some (.ok ds)=>∀d b,Ð H b->S X.K b ds d->a d b
def ø(X:C)(H:Hp)(o:Option Fl)(a:uE):Prop:=match o with|none=>False|some (.exc c)=>XW X c H|some (.rt d)=>∀v b,Ð H b->Ô X.K b d v->a.rt v b|some (.nx f)=>∀e b,Ð H b->Ü X.K b e f->a.nx e b
noncomputable def Ù{b:Type}(o:Option (Rs ε))(k:ε->Option (Rs b)):Option (Rs b):=match o with|none=>U|some (.exc c)=>Z (.exc c)|some (.ok a)=>k a
def c5(o:Option (Rs ε))(k:ε->Option Fl):Option Fl:=match o with|none=>U|some (.exc c)=>Z (.exc c)|some (.ok a)=>k a
noncomputable def sq(o:Option Fl)(k:Ev->Option Fl):Option Fl:=match o with|some (.nx a)=>k a|o=>o
theorem ð.mono(e:Ð h Β):∀{o:Option (Rs Q)},ð a h o Ê->ð a Β o Ê|none,b=>b|some (.exc _),b=>XW.mono b e|some (.ok _),b=>λv f d r=>b v f (e.trans d) r
theorem þ.mono{d:Bool->Hp->Prop}(e:Ð h Β):∀{o:Option (Rs Bool)},þ a h o d->þ a Β o d|none,b=>b|some (.exc _),b=>XW.mono b e|some (.ok _),b=>λg f=>b g (e.trans f)
theorem è.mono{d:List V->Hp->Prop}(e:Ð h Β):∀{o:Option (Rs (List Q))},è a h o d->è a Β o d|none,b=>b|some (.exc _),b=>XW.mono b e|some (.ok _),b=>λv g f r=>b v g (e.trans f) r
theorem ø.mono{d:uE}(e:Ð h Β):∀{o:Option Fl},ø a h o d->ø a Β o d|none,b=>b|some (.exc _),b=>XW.mono b e|some (.rt _),b=>λv g f r=>b v g (e.trans f) r|some (.nx _),b=>λv g f r=>b v g (e.trans f) r
theorem ð.bind{o:Option (Rs Q)}{k:Q->Option (Rs Q)}{P:VK}(b:ð a h (Ù o k) Ê)(g:∀d v f,Ð h f->Ô a.K f d v->ð a f (k d) Ê->P v f):ð a h o P:=by match o,b with|some (.exc _),b=>exact b|some (.ok d),b=>exactλv i e r=>g d v i e r (ð.mono e b)
theorem ð.bindB{g:Bool->Hp->Prop}{o:Option (Rs Q)}{k:Q->Option (Rs Bool)}(b:þ a h (Ù o k) g)(i:∀d v f,Ð h f->Ô a.K f d v->þ a f (k d) g->Ê v f):ð a h o Ê:=by match o,b with|some (.exc _),b=>exact b|some (.ok d),b=>exactλv j e r=>i d v j e r (þ.mono e b)
theorem ð.bindA{g:List V->Hp->Prop}{o:Option (Rs Q)}{k:Q->Option (Rs (List Q))}(b:è a h (Ù o k) g)(i:∀d v f,Ð h f->Ô a.K f d v->è a f (k d) g->Ê v f):ð a h o Ê:=by match o,b with|some (.exc _),b=>exact b|some (.ok d),b=>exactλv j e r=>i d v j e r (è.mono e b)
theorem ð.bindS{f:uE}{o:Option (Rs Q)}{k:Q->Option Fl}(b:ø a h (c5 o k) f)(i:∀d v g,Ð h g->Ô a.K g d v->ø a g (k d) f->Ê v g):ð a h o Ê:=by match o,b with|some (.exc _),b=>exact b|some (.ok d),b=>exactλv j e r=>i d v j e r (ø.mono e b)
theorem þ.bind{o:Option (Rs Bool)}{k:Bool->Option (Rs Q)}{P:Bool->Hp->Prop}(f:ð a h (Ù o k) Ê)(i:∀b g,Ð h g->ð a g (k b) Ê->P b g):þ a h o P:=by match o,f with|some (.exc _),f=>exact f|some (.ok d),f=>exactλj e=>i d j e (ð.mono e f)
theorem þ.bindB{i:Bool->Hp->Prop}{o:Option (Rs Bool)}{k:Bool->Option (Rs Bool)}{P:Bool->Hp->Prop}(f:þ a h (Ù o k) i)(j:∀b g,Ð h g->þ a g (k b) i->P b g):þ a h o P:=by match o,f with|some (.exc _),f=>exact f|some (.ok d),f=>exactλm e=>j d m e (þ.mono e f)
theorem þ.bindS{g:uE}{o:Option (Rs Bool)}{k:Bool->Option Fl}{P:Bool->Hp->Prop}(f:ø a h (c5 o k) g)(j:∀b i,Ð h i->ø a i (k b) g->P b i):þ a h o P:=by match o,f with|some (.exc _),f=>exact f|some (.ok d),f=>exactλm e=>j d m e (ø.mono e f)
variable{À:Ö}
theorem è.bind{o:Option (Rs (List Q))}{P:List V->Hp->Prop}(b:ð a h (Ù o À) Ê)(i:∀ds g f,Ð h f->S a.K f ds g->ð a f (À ds) Ê->P g f):è a h o P:=by match o,b with|some (.exc _),b=>exact b|some (.ok d),b=>exactλv j e r=>i d v j e r (ð.mono e b)
theorem è.bindA{i:List V->Hp->Prop}{o:Option (Rs (List Q))}{k:List Q->Option (Rs (List Q))}{P:List V->Hp->Prop}(b:è a h (Ù o k) i)(j:∀ds g f,Ð h f->S a.K f ds g->è a f (k ds) i->P g f):è a h o P:=by match o,b with|some (.exc _),b=>exact b|some (.ok d),b=>exactλv m e r=>j d v m e r (è.mono e b)
abbrev Ò:=Ev->Option (Rs Q)
abbrev æ:=Ev->Option (Rs Bool)
abbrev à:=Ev->Option (Rs (List Q))
abbrev Û:=Ev->Option Fl
abbrev ê:Û:=λa=>Z (.nx a)
def tF(X:C)(f:Ò):TE:=λb H Q=>∃a,Ü X.K H b a/\ð X H (f a) Q
def tT(X:C)(f:æ):TT:=λb H Q=>∃a,Ü X.K H b a/\þ X H (f a) Q
def tA(X:C)(f:à):TA:=λb H Q=>∃a,Ü X.K H b a/\è X H (f a) Q
def tS(X:C)(f:Û):TS:=λa d H=>∃b,Ü X.K H d b/\ø X H (f b) a
structure FE(X:C)(e:s_)(f:Ò):Prop where h:PE X e (tF X f)
structure FT(X:C)(e:s_)(f:æ):Prop where h:PT X e (tT X f)
structure FW(X:C)(e:s_)(f:æ):Prop where h:PW X e (tT X f)
structure FA(X:C)(es:List s_)(f:à):Prop where h:PA X es (tA X f)
structure FS(X:C)(st:Us)(f:Û):Prop where h:PS X st (tS X f)
structure ġ(X:C)(st:List Us)(f:Û):Prop where h:Ļ X st (tS X f)
variable{y:Ò}
theorem eC(h:PE a g Χ)(w:∀b H Q d,Ü a.K H b d->ð a H (y d) Q->Χ b H Q):FE a g y:=⟨λe s b H Q I⟨d,E,o⟩=>h e s b H Q I (w b H Q d E o)⟩
variable{Μ:æ}
theorem F6{t:TT}(h:PT a g t)(w:∀b H Q d,Ü a.K H b d->þ a H (Μ d) Q->t b H Q):FT a g Μ:=⟨λe s b H Q I⟨d,E,o⟩=>h e s b H Q I (w b H Q d E o)⟩
theorem Ks{t:TT}(h:PW a g t)(w:∀b H Q d,Ü a.K H b d->þ a H (Μ d) Q->t b H Q):FW a g Μ:=⟨λe f s b H Q I⟨d,E,o⟩=>h e f s b H Q I (w b H Q d E o)⟩
variable{Ρ:Û}
theorem sQ{t:TS}(h:PS a Δ t)(w:∀b d H e,Ü a.K H d e->ø a H (Ρ e) b->t b d H):FS a Δ Ρ:=⟨λf s d H b I⟨e,E,o⟩=>h f s d H b I (w b d H e E o)⟩
theorem Eg{t:TS}(h:Ļ a Ψ t)(w:∀b d H e,Ü a.K H d e->ø a H (Ρ e) b->t b d H):ġ a Ψ Ρ:=⟨λf s d H b I⟨e,E,o⟩=>h f s d H b I (w b d H e E o)⟩
theorem FW.ft(h:FW a g Μ):FT a g Μ:=⟨h.h _⟩
noncomputable def Y(i:Nat):Ò:=λa=>match a[i]? with|some (Z d)=>Z (.ok d)|_=>U
noncomputable def fC(d:Q):Ò:=λ_=>Z (.ok d)
theorem Kt(i:Nat)(h:PE a g (xq i)):FE a g (Y i):=eC h λj H Q k E o=>by
 unfold Y at o;split at o;·rename_i d b;obtain⟨v,f,e⟩:=E.at' i d b;exact⟨v,f,o v H (.refl H) e⟩
 ·exact o.elim
theorem ĭ(h:a.env.kindOf d=Z .globalImplicit):Gl a d:=h
theorem Ph(i:Nat){x:Str}(f:a.N[i]?=Z x:=by lk)(d:a.env.scope.names.lookup x=Z .local:=by lk)(e:(x==("__debug__":Str))=D:=by lk)(b:(x==("__classdict__":Str))=D:=by lk):FE a (.Name x m) (Y i):=Kt i (xr f (.inl d) e b)
theorem Pi(i:Nat){x:Str}(f:a.N[i]?=Z x:=by lk)(d:a.env.scope.names.lookup x=Z .cell:=by lk)(e:(x==("__debug__":Str))=D:=by lk)(b:(x==("__classdict__":Str))=D:=by lk):FE a (.Name x m) (Y i):=Kt i (xr f (.inr (.inl d)) e b)
variable{j:Q}
theorem Ju(h:PE a g (tC ψ))(r:∀K H,Ô K H j ψ):FE a g (fC j):=eC h λ_ H _ _ _ o=>o ψ H (.refl H) (r a.K H)
theorem Ku{i j}:FE a (.Constant (.int i) j m) (fC (.int i)):=Ju JP λ_ _=>rfl
theorem Pj{b j}:FE a (.Constant (.bool b) j m) (fC (.bl b)):=Ju OS λ_ _=>rfl
theorem Kw{j}:FE a (.Constant .none j m) (fC .non):=Ju JQ λ_ _=>rfl
theorem Kx{x j}:FE a (.Constant (.str x) j m) (fC (.str x)):=Ju JR λ_ _=>rfl
theorem F7{t:Tok}(e:Gl a d)(b:a.mg d=Z (.int n t))(f:(d==("__debug__":Str))=D:=by lk):FE a (.Name d m) (fC (.int n)):=Ju (xt (ψ:=.int n) e b ⟨t,rfl⟩ f) λ_ _=>rfl
theorem F8{t:Tok}(e:Gl a d)(b:a.mg d=Z (.str o t))(f:(d==("__debug__":Str))=D:=by lk):FE a (.Name d m) (fC (.str o)):=Ju (xt (ψ:=.str o) e b ⟨t,rfl⟩ f) λ_ _=>rfl
def R(g:Q->Q->Option (Rs Q))(d b:Ò):Ò:=λa=>Ù (d a) λx=>Ù (b a) λy=>g x y
def Ġ(X:C)(r:R2)(g:Q->Q->Option (Rs Q)):Prop:=∀d b x y H a,Ô X.K H d x->Ô X.K H b y->ð X H (g d b) a->r x y H a
variable{É:Ò}
theorem two{r:R2}{g:Q->Q->Option (Rs Q)}(n:Ġ a r g){f:L2.St}{H:Hp}{b:VK}{e:Ev}(E:Ü a.K H f e)(o:ð a H (R g y É e) b):tOp r (tF a y) (tF a É) f H b:=⟨e,E,ð.bind o λh x v q j m=>⟨e,E.mono q,ð.bind m λs d u p i k=>n h s x d u b (Ô.mono p h x j) i k⟩⟩
theorem we{d:Operator}{r:R2}{b:Q->Q->Option (Rs Q)}(e:ÿ a (V0 d) r)(f:Ġ a r b)(i:FE a g y)(h:FE a u É):FE a (.BinOp g d u m) (R b y É):=eC (O5 e i.h h.h) λ_ _ _ _ E o=>two f E o
theorem k9{d:P'}{r:R2}{b:Q->Q->Option (Rs Q)}(e:ÿ a (Ug d) r)(h:Ġ a r b)(j:FE a g y)(i:FE a u É)(f:TF d u=D):FE a (.Compare g [d] [u] m) (R b y É):=eC (xF e j.h i.h f) λ_ _ _ _ E o=>two h E o
noncomputable def Ą:Q->Option (Rs Bool)|.bl b=>Z (.ok b)|_=>U
def fB(f:Ò):æ:=λa=>Ù (f a) Ą
theorem uK{d:Bool->Hp->Prop}(r:Ô a.K h j ψ)(o:þ a h (Ą j) d):∃k,ψ=.bl k/\d k h:=by cases j with|bl b=>exact⟨b,r,o h (.refl h)⟩|_=>exact o.elim
theorem jy{h:P'}{r:R2}{b:Q->Q->Option (Rs Q)}(k:ÿ a (Ug h) r)(p:Ġ a r b)(s:FE a g y)(q:FE a u É)(n:TF h u=D):FT a (.Compare g [h] [u] m) (fB (R b y É)):=F6 (xG k s.h q.h n) λi H f w E o=>by show tOp r (tF a y) (tF a É) i H _;refine two p E ?_;exact ð.bindB o λd v z e r j=>uK r j
theorem Ky(i:FE a g y)(h:∀û,isTrue g a.env û=(do let v<-û;Zu g.pos;WY [v] (truthy v)):=by intro _;lk):FT a g (fB y):=F6 (DX i.h h) λj H Q b E o=>⟨b,E,ð.bindB o λd v k e r f=>uK r f⟩
def l7(f g:æ):æ:=λa=>Ù (f a) λk=>if k then g a else Z (.ok D)
def Ĉ(f g:æ):æ:=λa=>Ù (f a) λk=>if k then Z (.ok L)else g a
def cF(f:æ):æ:=λa=>Ù (f a) λk=>Z (.ok (!k))
theorem F9(b:FT a g Μ):FW a (.BoolOp .And [g] m) Μ:=⟨FP b.h⟩
theorem Kz(b:FT a g Μ):FW a (.BoolOp .Or [g] m) Μ:=⟨DY b.h⟩
theorem Eh{f:æ}(j:FT a g Μ)(i:FW a (.BoolOp .And (u::w) m) f):FW a (.BoolOp .And (g::u::w) m) (l7 Μ f):=Ks (JU j.h i.h) λn H Q b E o=>⟨b,E,þ.bindB o λk h e d=>by cases k with|true=>exact Ef ⟨b,E.mono e,d⟩|false=>exact Ee (d h (.refl h))⟩
theorem KB{f:æ}(j:FT a g Μ)(i:FW a (.BoolOp .Or (u::w) m) f):FW a (.BoolOp .Or (g::u::w) m) (Ĉ Μ f):=Ks (JV j.h i.h) λn H Q b E o=>⟨b,E,þ.bindB o λk h e d=>by cases k with|true=>exact Ef (d h (.refl h))|false=>exact Ee ⟨b,E.mono e,d⟩⟩
theorem KC(h:FT a g Μ):FT a (.UnaryOp .Not g m) (cF Μ):=F6 (DZ h.h) λi H Q d E o=>⟨d,E,þ.bindB o λk b e f=>f b (.refl b)⟩
def jU(f g:Ò):Ò:=λa=>Ù (f a) λx=>Ù (Ą x) λk=>if k then g a else Z (.ok (.bl D))
def ĳ(f g:Ò):Ò:=λa=>Ù (f a) λx=>Ù (Ą x) λk=>if k then Z (.ok (.bl L))else g a
def OB(f:Ò):Ò:=λa=>Ù (f a) λx=>Ù (Ą x) λk=>Z (.ok (.bl (!k)))
theorem sS{k:Bool->Option (Rs Q)}(r:Ô a.K h j ψ)(o:ð a h (Ù (Ą j) k) Ê):∃b,ψ=.bl b/\ð a h (k b) Ê:=by cases j with|bl b=>exact⟨b,r,o⟩|_=>exact o.elim
theorem KF{b}(d:FE a g y):FE a (.BoolOp b [g] m) y:=⟨JW d.h⟩
theorem KG(n:FE a g y)(j:FE a (.BoolOp .And (u::w) m) É):FE a (.BoolOp .And (g::u::w) m) (jU y É):=eC (JX n.h j.h) λp H Q b E o=>⟨b,E,ð.bind o λd v h e r i=>by obtain⟨k,rfl,f⟩:=sS r i;refine⟨k,rfl,?_⟩;cases k with|true=>exact Ef ⟨b,E.mono e,f⟩|false=>exact Ee (f (.bl D) h (.refl h) rfl)⟩
theorem Pk(n:FE a g y)(j:FE a (.BoolOp .Or (u::w) m) É):FE a (.BoolOp .Or (g::u::w) m) (ĳ y É):=eC (OX n.h j.h) λp H Q b E o=>⟨b,E,ð.bind o λd v h e r i=>by obtain⟨k,rfl,f⟩:=sS r i;refine⟨k,rfl,?_⟩;cases k with|true=>exact Ef (f (.bl L) h (.refl h) rfl)|false=>exact Ee ⟨b,E.mono e,f⟩⟩
theorem KH(j:FE a g y):FE a (.UnaryOp .Not g m) (OB y):=eC (JZ j.h) λn H Q f E o=>⟨f,E,ð.bind o λd v b e r i=>by obtain⟨k,rfl,h⟩:=sS r i;exact⟨k,rfl,h (.bl (!k)) b (.refl b) rfl⟩⟩
def Ŀ(c:æ)(f g:Ò):Ò:=λa=>Ù (c a) λk=>if k then f a else g a
theorem Pl(f:FT a Á Μ)(i:FE a g y)(h:FE a u É):FE a (.IfExp Á g u m) (Ŀ Μ y É):=eC (Br f.h i.h h.h) λj H Q b E o=>⟨b,E,þ.bind o λk n e d=>by cases k with|true=>exact Ef ⟨b,E.mono e,d⟩|false=>exact Ee ⟨b,E.mono e,d⟩⟩
noncomputable def bZ:à:=λ_=>Z (.ok [])
noncomputable def aP(f:Ò)(g:à):à:=λa=>Ù (f a) λx=>Ù (g a) λb=>Z (.ok (x::b))
abbrev al(f:Ò):à:=aP f bZ
abbrev bJ(f g:Ò):à:=aP f (al g)
abbrev bN(f g h:Ò):à:=aP f (bJ g h)
abbrev nQ(f g h k:Ò):à:=aP f (bN g h k)
abbrev ni(f g h k l:Ò):à:=aP f (nQ g h k l)
abbrev uL(f g h k l m:Ò):à:=aP f (ni g h k l m)
abbrev X(i:Int):Ò:=fC (.int i)
abbrev Ï(x:Str):Ò:=fC (.str x)
variable{ν:à}
theorem KI{t:TA}(h:PA a w t)(b:∀d H Q e,Ü a.K H d e->è a H (ν e) Q->t d H Q):FA a w ν:=⟨λpos f s d H Q I⟨e,E,o⟩=>h pos f s d H Q I (b d H Q e E o)⟩
theorem xW:FA a [] bZ:=KI uH λ_ H _ _ _ o=>o [] H (.refl H) rfl
theorem sU(n:FE a g y)(m:FA a w ν)(k:k_ (g::w) a.env=(D,eval g a.env)::k_ w a.env:=by lk):FA a (g::w) (aP y ν):=KI (kB n.h m.h k) λq H Q b E o=>⟨b,E,ð.bindA o λd v s g r j=>⟨b,E.mono g,è.bindA j λds e f p h i=>i (v::e) f (.refl f) ⟨v,e,rfl,Ô.mono p d v r,h⟩⟩⟩
def gB(g:à):Ò:=λa=>Ù (g a) λds=>if ds.length<=100000 then Z (.ok (.lst ds))else U
def eI(g:à):Ò:=λa=>Ù (g a) λds=>if ds.length<=100000 then Z (.ok (.tup ds))else U
theorem ce(h:b<=100000):b<=sizeLine:=TU h (by rw[X_];decide)
theorem KL(h:FA a w ν):FE a (.List w m) (gB ν):=eC (xL h.h) λk H Q g E o=>⟨g,E,è.bind o λds i n e d b=>by
 split at b;·rename_i j;refine⟨by rw[d.length];exact ce j,λp f=>b (.ref p) _ (aH f _) ⟨p,i,rfl,av,S.mono (aH f _) _ _ d⟩⟩
 ·exact b.elim⟩
theorem KM{k}(h:FA a w ν):FE a (.Tuple w k m) (eI ν):=eC (Kg h.h) λn H Q g E o=>⟨g,E,è.bind o λds i q e d b=>by
 split at b;·rename_i j;refine⟨by rw[d.length];exact ce j,λp f=>b (.ref p) _ (aH f _) ⟨p,i,rfl,av,S.mono (aH f _) _ _ d⟩⟩
 ·exact b.elim⟩
theorem Ga:ġ a [] (λd=>Z (.nx d)):=Eg sK λb e H d E o=>o e H (.refl H) E
def aK(f g:Û):Û:=λa=>sq (f a) g
theorem BD{g:Û}(k:FS a Δ Ρ)(j:ġ a Ψ g):ġ a (Δ::Ψ) (aK Ρ g):=Eg (gC k.h j.h) λb p H i E o=>⟨i,E,by unfold aK at o;match f:Ρ i with|none=>rw[f]at o;exact o.elim|some (.exc c)=>rw[f]at o;exact o|some (.rt d)=>rw[f]at o;exact o|some (.nx h)=>rw[f]at o;exactλn q e m=>⟨h,m,ø.mono e o⟩⟩
theorem xX(b:FS a Δ Ρ):ġ a [Δ] Ρ:=⟨oQ b.h⟩
noncomputable def aL(f:Ò):Û:=λa=>c5 (f a) λd=>Z (.rt d)
theorem Ei(i:FE a g y):FS a (.Return (Z g) m) (aL y):=sQ (xu i.h) λb j H f E o=>⟨f,E,ð.bindS o λd v e g r h=>h v e (.refl e) r⟩
noncomputable def Pm:Û:=λ_=>Z (.rt .non)
noncomputable def eD(f:Ò):Û:=λa=>c5 (f a) λ_=>Z (.nx a)
theorem Gb(k:FE a g y)(j:Ux g U m.line a.env=pure D:=by lk):FS a (.Expr g m) (eD y):=sQ (sL k.h j) λb f H h E o=>⟨h,E,ð.bindS o λd v e g r i=>i f e (.refl e) (E.mono g)⟩
noncomputable def cy(i:Nat)(f:Ò):Û:=λa=>c5 (f a) λd=>Z (.nx (a.set i (Z d)))
theorem KN(i:Nat){x:Str}{e:Pos}(u:a.N.Nodup)(p:a.N[i]?=Z x)(k:Ł a.env.scope x)(s:FE a g y)(n:Ux g (Z (.Name x e)) m.line a.env=pure D:=by lk)(q:a.fn x=L\/a.env.scope.names.lookup x=Z .local:=by first|exact .inl rfl|exact .inr rfl|assumption):FS a (.Assign [.Name x e] g m) (cy i y):=sQ (nK u p k s.h n q) λb w H h E o=>⟨h,E,ð.bindS o λd v f g r j=>j _ f (.refl f) ((E.mono g).set r)⟩
noncomputable def br(c:æ)(f g:Û):Û:=λa=>c5 (c a) λk=>if k then f a else g a
theorem Pn{b:Û}{i:List Us}(j:FT a g Μ)(p:ġ a Ψ Ρ)(n:ġ a i b):FS a (.If g Ψ i m) (br Μ Ρ b):=sQ (Bs j.h p.h n.h) λd q H f E o=>⟨f,E,þ.bindS o λk r e h=>by cases k with|true=>exact Ef ⟨f,E.mono e,h⟩|false=>exact Ee ⟨f,E.mono e,h⟩⟩
noncomputable def Its(z:Str):It:=⟨λi _=>i<z.cps.size,λi H x a=>a=H/\∃c,z.cps[i]?=Z c/\x=.str ⟨#[c]⟩,λi _=>i=z.cps.size⟩
theorem qO(d:N.handled=U)(I:O)(x:Str)(t:Tok){a:String}(b:a="str_ascii_iterator"\/a="str_iterator"):Walks s r N I [I] [I] x.cps.size (SignAt x) (λi h=>h.IsStrIter I a x t i):=by
 rcases b with rfl|rfl;·exact Walks.strAscii d I x t
 ·exact Walks.strWide d I x t
theorem BE(z:Str)(t:Tok)(j:O){N:String}(m:N="str_ascii_iterator"\/N="str_iterator"):w6 s r q g (Its z) [j] j (λi h=>h.IsStrIter j N z t i)where
 mem:=by simp
 obj:=λi h st b n=>by
  have e:b=j:=by simpa using n
  subst e;obtain⟨o,e,c,d⟩:=st;exact⟨o,e,λv z=>by rw[d]at z;cases z⟩
 keep:=λi h y st k=>let⟨o,ho,f⟩:=st;⟨o,k j (by simp) o ho,f⟩;item:=by intro X hP hw hK hc i f' a σ H E I w st hg;subst hP hw hK;obtain⟨f0,f1,R,f3,f4,f5⟩:=w j (by simp);have W:=qO (s:=X.prog) (r:=X.w) (I.ok.hd hc) j z t m;refine W.item i a _ _ hg st λv y P hv p kk=>?_;obtain⟨c,u,b',rfl⟩:=hv;have I1:Í X f' σ H {a with heap:=y,toks:=P}:=I.turned (λb o n e=>kk b o (by simpa using n) e) f0 f1 f3 f4 f5;obtain⟨o,e,c',d⟩:=id p;refine⟨_,rfl,xz (f:={a with heap:=y,toks:=P}) e c' d (by rcases m with rfl|rfl<;>decide) ⟨.str ⟨#[c]⟩,H,I1,⟨u,rfl⟩,⟨rfl,c,b',rfl⟩,p,λb n=>(w b n).1⟩⟩
 done:=by intro X hP hw hK hc i f' a σ H E I w st hg;subst hP hw hK;obtain⟨f0,f1,R,f3,f4,f5⟩:=w j (by simp);have W:=qO (s:=X.prog) (r:=X.w) (I.ok.hd hc) j z t m;have a':i=z.cps.size:=hg;subst a';exact W.done a _ _ st λy P kk=>⟨rfl,I.turned (λb o n e=>kk b o (by simpa using n) e) f0 f1 f3 f4 f5⟩
 self:=λA i a Q E st h=>by
  rcases m with rfl|rfl;·exact wpAny_pyIter_striter_ascii st h
  ·exact wpAny_pyIter_striter_wide st h
structure Wk(K:d_)(J:It)(ds:List Q)(H0:Hp):Prop where
 go:∀i H,Ð H0 H->i<ds.length->J.go i H
 stop:∀H,Ð H0 H->J.stop ds.length H
 yld:∀i H x H',Ð H0 H->i<ds.length->J.yld i H x H'->H'=H/\∃d,ds[i]?=Z d/\Ô K H d x
def İ(X:C)(H:Hp)(o:Option (Rs (List Q)))(R:It->Hp->Prop):Prop:=match o with|none=>False|some (.exc c)=>XW X c H|some (.ok ds)=>∀J a,Ð H a->Wk X.K J ds a->R J a
structure FI(X:C)(tg iter:s_)(f:à):Prop where h:PI X tg iter λσ H R=>∃ρ,Ü X.K H σ ρ/\İ X H (f ρ) R
theorem İ.mono{R:It->Hp->Prop}(e:Ð h Β):∀{o:Option (Rs (List Q))},İ a h o R->İ a Β o R|none,b=>b|some (.exc _),b=>XW.mono b e|some (.ok _),b=>λv f d r=>b v f (e.trans d) r
noncomputable def ĩ(z:Str):List Q:=z.cps.toList.map λc=>.str ⟨#[c]⟩
def items:Q->Option (Rs (List Q))|.lst ds=>Z (.ok ds)|.tup ds=>Z (.ok ds)|.str z=>Z (.ok (ĩ z))|_=>U
def gz(f:Ò):à:=λa=>Ù (f a) items
theorem Gc(b:h e=Z (.lst η))(r:S q h E η):Wk q (Itl q e) E h where
 go:=λi g a f=>by
  have j:i<η.length:=by rw[r.length];exact f
  exact⟨η,η[i],ă.of (a _ _ b),by simp[j]⟩
 stop:=λg a=>⟨η,ă.of (a _ _ b),by rw[r.length];exact pi _⟩;yld:=λi g x o a f y=>by obtain⟨n,y⟩:=y;obtain⟨d,m,k⟩:=S.get (S.mono a _ _ r) (y η (ă.of (a _ _ b)));exact⟨n,d,m,k⟩
theorem KO(b:h e=Z (.tup η))(r:S q h E η):Wk q (Itt q e) E h where
 go:=λi g a f=>by
  have j:i<η.length:=by rw[r.length];exact f
  exact⟨η,η[i],ù.of (a _ _ b),by simp[j]⟩
 stop:=λg a=>⟨η,ù.of (a _ _ b),by rw[r.length];exact pi _⟩;yld:=λi g x o a f y=>by obtain⟨n,y⟩:=y;obtain⟨d,m,k⟩:=S.get (S.mono a _ _ r) (y η (ù.of (a _ _ b)));exact⟨n,d,m,k⟩
theorem KP:Wk q (Its d) (ĩ d) h where
 go:=λi f e b=>by show i<d.cps.size;simpa[ĩ]using b
 stop:=λf e=>by show(ĩ d).length=d.cps.size;simp[ĩ]
 yld:=λi f x k e b y=>by
  obtain⟨j,c,g,rfl⟩:=y;refine⟨j,.str ⟨#[c]⟩,?_,rfl⟩;have a:d.cps.toList[i]?=Z c:=by simpa using g
  rw[ĩ,L_,a]<;>rfl
noncomputable def rng(a:Int):Nat->List Q|0=>[]|n+1=>.int a::rng (a+1) n
theorem jo:∀(n:Nat)(lo:Int),(rng lo n).length=n|0,_=>rfl|n+1,lo=>by show(rng (lo+1) n).length+1=n+1;rw[jo]
theorem xY:∀(n:Nat)(lo:Int)(i:Nat),i<n->(rng lo n)[i]?=Z (.int (lo+i))|0,_,_,h=>by omega|n+1,lo,0,_=>by simp[rng]|n+1,lo,i+1,h=>by have q:=xY n (lo+1) i (by omega);show(Q.int lo::rng (lo+1) n)[i+1]?=_;rw[Xv,q];congr 2;omega
theorem uM:Wk q (Itr n b) (rng n b) h where
 go:=λi d e a=>by rw[jo]at a;exact a
 stop:=λd e=>by show b<=(rng n b).length;rw[jo];exact pi _
 yld:=λi d x g e a y=>by obtain⟨f,rfl⟩:=y;rw[jo]at a;exact⟨f,_,xY b n i a,rfl⟩
theorem KQ(hl:FE a u y):FI a g u (gz y):=by
 constructor;intro f' s σ H R I h;obtain⟨P,E,o⟩:=h;have key:ð a H (y P) λx j=>∃d,Ô a.K j d x/\İ a j (items d) R:=by unfold gz at o;match hf:y P,o with|some (.exc c),o=>exact o|some (.ok d),o=>exactλv j e r=>⟨d,r,İ.mono e o⟩|none,o=>exact o
 refine ã (hl.h f' s σ H _ I ⟨P,E,key⟩) λv i⟨x,j,n,r1,d,rd,q⟩=>?_;have k:∀(o:Obj)(N:Nat->TC->Prop)(J:It)(ds:List Q),w6 a.prog a.w a.K g J [i.heap.objs.size] i.heap.objs.size N->N 0 (i.heap.push o)->Wk a.K J ds j->(∀J H',Ð j H'->Wk a.K J ds H'->R J H')->PIE a f' σ g R (.ref i.heap.objs.size) {i with heap:=i.heap.push o}:=λo N J ds T t0 w q=>by
  refine⟨i.heap.objs.size,[i.heap.objs.size],N,J,j,rfl,n.kept (t':=i.toks) λb o e=>j_ _ e,T,t0,λb hb=>?_,q J j (.refl j) w⟩;have e:b=i.heap.objs.size:=by simpa using hb
  subst e;exact n.fpOk (pi _) (n.hok.fresh (pi _))
 cases d with|lst ds=>obtain⟨f,xs,rfl,m,h2⟩:=rd.lstE;cases r1;obtain⟨A,rv,p,hz⟩:=n.list (ă.of m);exact Xy p.isList (k _ _ (Itl a.K f) ds (xA f _) ⟨_,v_ _ rfl,rfl,rfl⟩ (Gc m h2) q)|tup ds=>obtain⟨f,xs,rfl,m,h2⟩:=rd.tupE;cases r1;obtain⟨A,rv,p,hz⟩:=n.tuple (ù.of m);exact Xi (show i.heap.IsTuple f A.toArray from p) (k _ _ (Itt a.K f) ds (nM f _) ⟨_,v_ _ rfl,rfl,rfl⟩ (KO m h2) q)|str z=>
  cases(show x=.str z from rd);obtain⟨t,rfl⟩:=r1;have a':abp z="str_ascii_iterator"\/abp z="str_iterator":=by
   unfold abp;split;·exact .inl rfl
   ·exact .inr rfl
  exact wpAny_pyIter_strU (k _ _ (Its z) (ĩ z) (BE z t _ a') ⟨_,v_ _ rfl,rfl,rfl⟩ KP q)|_=>exact q.elim
def w8:List Q->Option (Rs (List Q))|[.int j]=>if-(2^62)<=j/\j<2^62 then Z (.ok (rng 0 j.toNat))else U|_=>U
def Bk:List Q->Option (Rs (List Q))|[.int i,.int j]=>if-(2^62)<=i/\i<2^62/\-(2^62)<=j/\j<2^62 then Z (.ok (rng i (j-i).toNat))else U|_=>U
theorem nR{R:It->Hp->Prop}{o:Option (Rs (List Q))}{k:List Q->Option (Rs (List Q))}{P:List V->Hp->Prop}(b:İ a h (Ù o k) R)(i:∀ds g f,Ð h f->S a.K f ds g->İ a f (k ds) R->P g f):è a h o P:=by match o,b with|some (.exc _),b=>exact b|some (.ok d),b=>exactλv j e r=>i d v j e r (İ.mono e b)
theorem xZ(z:Gl a "range")(y:a.mg "range"=U)(A:FA a [u] ν)(w:k_ [u] a.env=[(D,eval u a.env)]:=by lk):FI a g (.Call (.Name "range" v) [u] [] m) (λi=>Ù (ν i) w8):=by
 constructor;intro N s n H R I h;obtain⟨i,E,o⟩:=h;refine qB z y A.h w N s n H R I ⟨i,E,nR o λds p f e q d=>?_⟩;unfold w8 at d;split at d
 · rename_i j;split at d;·rename_i k;obtain⟨b,us,rfl,r,t⟩:∃b us,p=b::us/\Ô a.K f (.int j) b/\S a.K f [] us:=q;cases(show us=[]from t);cases(show b=.int j from r);exact⟨j,rfl,k.1,k.2,d _ f (.refl f) uM⟩
   ·exact d.elim
 ·exact d.elim
theorem ya(hg:Gl a "range")(hm:a.mg "range"=U)(ha:FA a [u,Á] ν)(P:k_ [u,Á] a.env=[(D,eval u a.env),(D,eval Á a.env)]:=by lk)(q:k_ [Á] a.env=[(D,eval Á a.env)]:=by lk):FI a g (.Call (.Name "range" v) [u,Á] [] m) (λn=>Ù (ν n) Bk):=by
 constructor;intro f' s w H R I h;obtain⟨n,E,o⟩:=h;refine qC hg hm ha.h P q f' s w H R I ⟨n,E,nR o λds y f e A d=>?_⟩;unfold Bk at d;split at d
 · rename_i i j;split at d;·rename_i hj;obtain⟨b,us,rfl,r,t⟩:∃b us,y=b::us/\Ô a.K f (.int i) b/\S a.K f [.int j] us:=A;obtain⟨v2,p,rfl,N,z⟩:∃b k,us=b::k/\Ô a.K f (.int j) b/\S a.K f [] k:=t;cases(show p=[]from z);cases(show b=.int i from r);cases(show v2=.int j from N);exact⟨i,j,rfl,hj,d _ f (.refl f) uM⟩
   ·exact d.elim
 ·exact d.elim
def wf(i:Nat)(e:List Nat)(a:Û):List Q->Ev->Option Fl|[],b=>Z (.nx (fgt e b))|d::ds,b=>match a ((fgt e b).set i (Z d))with|some (.nx f)=>wf i e a ds f|o=>o
def KR(i:Nat)(e:List Nat)(b:à)(a:Û):Û:=λd=>c5 (b d) λds=>wf i e a ds d
theorem iQ{a:List ε}(h:a[b]?=Z Ë):a.drop b=Ë::a.drop (b+1):=by obtain⟨d,e⟩:=G_.mp h;rw[List.drop_eq_getElem_cons d,e]
theorem KS(i:Nat)(q:List Nat)(hp:WH (D_ a.prog a.w) a.A a.env a.xe)(hc:a.calm=L)(hi:FI a g u ν)(hg:PG a g (sM i))(hb:ġ a Ψ Ρ)(hs:∀x,TM u a.env x=pure x:=by intro _;lk):FS a (.For g u Ψ [] m) (KR i q ν Ρ):=by refine sQ (qE hp hc hi.h hg hb.h hs) λb σ H A E o=>⟨A,E,?_⟩;unfold KR at o;match hf:ν A,o with
 |none,o=>exact o|some (.exc c),o=>exact o|some (.ok ds),o=>
 intro J P e1 wk;have o1:ø a P (wf i q Ρ ds A) b:=ø.mono e1 o;refine⟨λn e v k=>e=ds.length-n/\n<=ds.length/\Ð P k/\∃j,Ü a.K k v j/\ø a k (wf i q Ρ (ds.drop n) j) b,⟨ds.length,by simp,Ua _,.refl P,A,E.mono e1,by simpa using o1⟩,?_⟩;rintro n e v k⟨rfl,hn,N,j,E',h⟩;by_cases w:n<ds.length;·refine .inr ⟨wk.go n k N w,λs z=>Ð P z/\∃f,Ü a.K z s f/\ø a z (wf i q Ρ (ds.drop (n+1)) f) b,λs z⟨I,f,E2,o2⟩=>⟨ds.length-(n+1),by omega,rfl,w,I,f,E2,o2⟩,λx z y=>?_⟩;obtain⟨rfl,d,hd,rd⟩:=wk.yld n k x z N w y;rw[iQ hd]at h;show tS a Ρ _ _ _;refine⟨(fgt q j).set i (Z d),(Ü.fgt q E').set rd,?_⟩;unfold wf at h;match p:Ρ ((fgt q j).set i (Z d))with|none=>rw[p]at h;exact h|some (.exc c)=>rw[p]at h;exact h|some (.rt r)=>rw[p]at h;exact h|some (.nx f)=>rw[p]at h;exactλs H3 I E3=>⟨N.trans I,f,E3,ø.mono I h⟩
 · have a':n=ds.length:=by omega
   subst a';rw[W6]at h;exact .inl ⟨wk.stop k N,h v k (.refl k) (Ü.fgt q E')⟩
noncomputable def Ņ(K:d_)(F:Ö)(n:Nat):Sp:=λb H Q _=>∃ds,S K H ds b/\ds.length=n/\match F ds with|some (.ok d)=>∀v a,Ð H a->Ô K a d v->Q v a|_=>False
def ag(F:Ö)(n:Nat)(g:à):Ò:=λa=>Ù (g a) λds=>if ds.length=n then(match F ds with|some (.ok d)=>Z (.ok d)|_=>U)else U
theorem Ge(G:ì a.prog a.w a.K a.mg a.base į b e Ã A (Ņ a.K À k))(s:Ý b a.A)(I:Gl a d)(u:a.mg d=Z (.ref e))(z:UK a.K (.ref e)=L)(P:î a.K Ã A [])(ha:FA a (g::w) ν)(n:(d==("__debug__":Str))=D:=by lk)(N:k_ (g::w) a.env=(D,eval g a.env)::k_ w a.env:=by lk)(j:(TW v (k_ w a.env)).any (·.1)=D:=by lk):FE a (.Call (.Name d m) (g::w) [] v) (ag À k ν):=eC (oV G s I u z P .nil Kq ha.h n N j) λσ H Q p E o=>⟨p,E,è.bind o λds q H' g r h=>by
 show Ņ a.K À k (q++[]) H' Q E0;rw[VE];split at h
 ·rename_i y;refine⟨ds,r,y,?_⟩;match i:À ds with|some (.ok f)=>rw[i]at h;exact h|some (.exc c)=>rw[i]at h;exact h|none=>rw[i]at h;exact h
 ·exact h.elim⟩
def Has(P:n_)(w:x_)(K:d_)(d:Str->Option B)(a:TC)(x:Str)(k:Nat)(b:List Str)(F:Ö):Prop:=∃f e,ì P w K d a į k f e b (Ņ K F b.length)/\d x=Z (.ref f)/\UK K (.ref f)=L/\î K e b []
theorem BF(e:Nat)(o:List Str)(F:Ö)(h:Has a.prog a.w a.K a.mg a.base d e o F)(p:Ý k a.A)(s:e<=k)(u:Gl a d)(A:FA a (g::w) ν)(q:b=o.length:=by lk)(n:(d==("__debug__":Str))=D:=by lk)(y:k_ (g::w) a.env=(D,eval g a.env)::k_ w a.env:=by lk)(i:(TW v (k_ w a.env)).any (·.1)=D:=by lk):FE a (.Call (.Name d m) (g::w) [] v) (ag F b ν):=by subst q;obtain⟨f,E,G,r,j,z⟩:=h;exact Ge (G.mono s) p u r j z A n y i
noncomputable def bM(m:Nat)(a:Û):Ö:=λds=>match a (ds.map Z++N_ (m-ds.length) U)with|some (.nx _)=>Z (.ok .non)|some (.rt d)=>Z (.ok d)|_=>U
theorem nU(r:S q h E η):Ü q h (L2.start A η) (E.map Z++N_ (A.length-E.length) U):=by
 have g:=r.length;refine⟨by unfold L2.start;rw[T_,T_,P_,P_,U8,U8,g],λi d a=>?_⟩;by_cases e:i<E.length;·rw[I_ (by simpa using e),L_]at a;cases f:E[i]? with|none=>rw[f]at a;cases a|some m=>rw[f]at a;have b:Z (Z m)=Z (Z d):=a;injection b with b;injection b with b;subst b;obtain⟨v,k,j⟩:=r.get' f;refine⟨v,?_,j⟩;unfold L2.start;rw[I_ (by rw[P_,g];exact e),L_,k]<;>rfl
 ·rw[K_ (by simpa using e),Wp]at a;split at a<;>cases a
theorem Po{N:List Str}(Fn:ļ q d o Δ e Ã)(S:ij N A (aq Δ))(hb:∀(n:B)(g:C_)(m:List Env)(f:ge)(H:Hp)(E:XK),Ý b (g.deeper (Wy o (aq Δ) f.heap.objs.size e n))->ġ (oX į s r q Θ I N o (aq Δ) e n g m f H E).nox (bU Δ) Ρ):ì s r q Θ I į (b+1) e Ã A (Ņ q (bM N.length Ρ) A.length):=by
 refine Fn.ok S (λy H Q E h=>?_) (λn g m f H y Q E P h=>?_);·obtain⟨ds,i,w,_⟩:=h;rw[i.length,w]
 ·obtain⟨ds,i,w,a⟩:=h;refine⟨_,(hb n g m f H E P).h,ds.map Z++N_ (N.length-ds.length) U,nU i,?_⟩;unfold bM at a;match p:Ρ (ds.map Z++N_ (N.length-ds.length) U)with|none=>rw[p]at a;exact a.elim|some (.exc c)=>rw[p]at a;exact a.elim|some (.rt k)=>rw[p]at a;exactλv u j z=>a v u j z|some (.nx ρ)=>rw[p]at a;exactλa' u j _=>a .non u j rfl
theorem KU(N h:List Str)(i:Û)(n:À=bM N.length i)(j:k=h.length)(p:ļ q d o Δ e Ã)(S:ij N h (aq Δ))(m:∀(g:B)(A:C_)(f:List Env)(a:ge)(H:Hp)(E:XK),Ý b (A.deeper (Wy o (aq Δ) a.heap.objs.size e g))->ġ (oX į s r q Θ I N o (aq Δ) e g A f a H E).nox (bU Δ) i):ì s r q Θ I į (b+1) e Ã h (Ņ q À k):=by subst n j;exact Po p S m
noncomputable def lc(b:List (Str×Wi))(d:Env)(a:List (Str×O)):List (Str×O):=match b with|[]=>a|(n,k)::r=>lc r d (if k==.free then(n,(d.cells.lookup n).getD 0)::a else a)
theorem nV{d:Env}{n:Str}{c:O}:∀(a:List (Str×Wi))(b:List (Str×O)),(lc a d b).lookup n=Z c->b.lookup n=Z c\/((n,Vg)∈a/\c=(d.cells.lookup n).getD 0)
 |[],b,h=>.inl h|(m,k)::r,b,h=>by
  rcases nV r _ h with q|⟨j,i⟩
  · by_cases g:k=.free;·subst g;simp only[beq_self_eq_true,if_true]at q;rw[Uh]at q;cases f:n==m with
      |true=>
      rw[f]at q;have e:n=m:=by simpa using f
      subst e;exact .inr ⟨q_,(Ub q).symm⟩|false=>rw[f]at q;exact .inl q
    · have o:(k==Vg)=D:=by simpa using g
      rw[o]at q;exact .inl (by simpa using q)
  ·exact .inr ⟨r_ _ j,i⟩
theorem qP{d:Env}{n:Str}:∀(b:List (Str×Wi))(a:List (Str×O)),(a.lookup n).isSome=L->((lc b d a).lookup n).isSome=L
 |[],a,h=>h|(m,k)::r,a,h=>by
  refine qP r _ ?_;split;·rw[Uh];cases n==m with|true=>rfl|false=>exact h
  ·exact h
theorem o5{d:Env}{n:Str}:∀(a:List (Str×Wi))(b:List (Str×O)),(n,Vg)∈a->((lc a d b).lookup n).isSome=L
 |[],b,h=>by cases h|(m,k)::r,b,h=>by
  rcases uk.mp h with e|q;·injection e with g f;subst g;subst f;refine qP r _ ?_;simp only[beq_self_eq_true,if_true,Uh];rfl
  ·exact o5 r _ q
theorem gU{b:Type}{n:Str}{k:b}:∀{l:List (Str×b)},l.lookup n=Z k->(n,k)∈l|[],h=>by simp at h|(m,j)::r,h=>by rw[Uh]at h;cases a:n==m with
 |true=>
 rw[a]at h;have e:n=m:=by simpa using a
 subst e;have d:j=k:=Ub h;subst d;exact q_|false=>rw[a]at h;exact r_ _ (gU h)
theorem lf{f:Env}{k:Wi}(h:(aby ξ f).names.lookup d=Z k):(d,k)∈ξ.names\/(k=.cell/\(d,Vg)∈ξ.names):=by
 have q:=gU h;unfold aby at q;obtain⟨⟨m,j⟩,g,e⟩:=R_.mp q;dsimp only at e;split at e
 · rename_i i;injection e with b a;subst b;have n:j=.free:=by rw[m_,m_]at i;simpa using i.1.1
   subst n;exact .inr ⟨a.symm,g⟩
 ·injection e with b a;subst b;subst a;exact .inl g
theorem lg{a:Env}:∀{b:List (Str×Wi)}{n:Str},b.lookup n=Z .free->(b.map λ(n,k)=>if(k==Vg&&a.scope.kind==.function&&a.kindOf n==Z .cell)then(n,Vs)else(n,k)).lookup n=Z .cell\/(b.map λ(n,k)=>if(k==Vg&&a.scope.kind==.function&&a.kindOf n==Z .cell)then(n,Vs)else(n,k)).lookup n=Z .free
 |[],_,h=>by simp at h|(m,k)::r,n,h=>by have f:=@lg a r n;rw[Uh]at h;rw[E_];cases d:n==m with
 |true=>
 rw[d]at h;have g:k=.free:=Ub h;subst g;by_cases e:(Vg==Vg&&a.scope.kind==.function&&a.kindOf m==Z .cell)=L;·dsimp only;rw[if_pos e,Uh,d];exact .inl rfl
 ·dsimp only;rw[if_neg e,Uh,d];exact .inr rfl|false=>
 rw[d]at h;dsimp only;by_cases e:(k==Vg&&a.scope.kind==.function&&a.kindOf m==Z .cell)=L;·rw[if_pos e,Uh,d];exact f h
 ·rw[if_neg e,Uh,d];exact f h
noncomputable def Ej(b:List (Str×Nat))(a:Ev):Ev:=U::b.map λc=>(a[c.2]?).join
noncomputable def yb(a:Option æ)(b:Ò)(e:Ev):List Q->Option (List Q)|[]=>Z []|d::ds=>let f:=e.set 0 (Z d);match(match a with|none=>(Z (.ok L):Option (Rs Bool))|some t=>t f)with|some (.ok L)=>(match b f with|some (.ok y)=>(match yb a b e ds with|some g=>Z (y::g)|none=>U)|_=>U)|some (.ok D)=>yb a b e ds|_=>U
def dq(g:List (Str×Nat))(b:à)(a:Option æ)(d:Ò):Ò:=λe=>Ù (b e) λds=>match yb a d (Ej g e) ds with|some f=>if f.length<=100000/\ds.length<=100000 then Z (.ok (.lst f))else U|none=>U
def LAt(h:TC)(a:O)(b:List B):Prop:=∃n,h.get? a=Z {cls:=.type "list",data:=.seq b.toArray n}
theorem wg(h:LAt f.heap e θ)(g:θ.length<=100000)(k:∀d,LAt d e (θ++[ω])->(∀b o,b≠e->f.heap.get? b=Z o->d.get? b=Z o)->Ç .none {f with heap:=d}):u_ (D_ s r) N (call (.builtin "list.append") [.ref e,ω]) Ç χ f:=by
 obtain⟨n,a⟩:=h;refine Xk WL ⟨_,a,rfl⟩ aam (aab _ _) (aaN e θ.toArray n ω (by rw[H_];exact ce g)) ⟨a,?_⟩;have q:=abe a (·.push ω);have m:θ.toArray.push ω=(θ++[ω]).toArray:=by simp
 rw[m]at q;exact k _ ⟨_,q⟩ λb o j i=>(XF f.heap _ (Uq j)).trans i
def yc(X:C)(a:List s_)(b:Option æ):Prop:=match b with|none=>a=[]|some t=>∃c,a=[c]/\FT X c t
theorem ĉ.add{f:TC}{o:HO}(x:ĉ s r h I)(j:h e=U)(m:h z=U)(k:∀b u,b≠z->I.get? b=Z u->f.get? b=Z u)(g:å s r (Þ h e o) f e o):ĉ s r (Þ h e o) f:=λb u a=>by
 by_cases i:b=e;·subst i;rw[av]at a;cases a;exact g
 · rw[ax i]at a;refine(x b u a).stay (λc v d q=>k c v ?_ q) (λc q=>by rw[ax (aE q j)];exact q) λc n q=>by rw[ax (aE q j)];exact q
   rcases d with rfl|d;·exact aE a m
   ·exact aE d m
theorem Gf(h:b<k):b≠k:=by omega
theorem KW(h:b<k):b≠k+1:=by omega
theorem RM:b≠b+1:=by omega
noncomputable def bX:Q->Q->Option (Rs Q)|.int i,.int j=>Z (.ok (.int (i+j)))|.str x,.str y=>if x.length+y.length<=100000 then Z (.ok (.str (x++y)))else U|.lst a,.lst b=>if a.length+b.length<=100000 then Z (.ok (.lst (a++b)))else U|_,_=>U
def Gg:R2:=λx y H Q=>ŝ (λi j=>.int (i+j)) x y H Q\/((∃i j,x=.str i/\y=.str j/\i.length+j.length<=sizeLine/\Q (.str (i++j)) H)\/RK x y H Q)
theorem ž:ÿ a (V0 .Add) Gg:=op_add.or (op_add_str.or Kp)
theorem KY:Ġ a Gg bX:=by
 intro v u x y H Q g f o;cases v<;>cases u<;>try exact(show False from o).elim
 ·rename_i i j;exact .inl ⟨i,j,g,f,o _ H (.refl H) rfl⟩
 · rename_i i j;simp only[bX]at o;split at o;·rename_i e;exact .inr (.inl ⟨i,j,g,f,ce e,o _ H (.refl H) rfl⟩)
   ·exact o.elim
 · rename_i d b;simp only[bX]at o;split at o;·rename_i e;obtain⟨p,n,rfl,s,m⟩:=g.lstE;obtain⟨q,h,rfl,r,k⟩:=f.lstE;refine .inr (.inr ⟨p,q,n,h,rfl,rfl,s,r,by rw[m.length,k.length];exact ce e,λl e=>o _ _ (aH e _) ⟨l,_,rfl,av,S.mono (aH e _) _ _ (m.append k)⟩⟩)
   ·exact o.elim
noncomputable def kG:Q->Q->Option (Rs Q)|.int i,.int j=>Z (.ok (.int (i-j)))|_,_=>U
theorem Pp:Ġ a (ŝ λi j=>.int (i-j)) kG:=by
 intro f e x y H Q d b o;cases f<;>cases e<;>try exact(show False from o).elim
 rename_i i j;exact⟨i,j,d,b,o _ H (.refl H) rfl⟩
noncomputable def kx:Q->Q->Option (Rs Q)|.int i,.int j=>if(-18446744073709551616<i/\i<18446744073709551616)\/(-18446744073709551616<j/\j<18446744073709551616)then Z (.ok (.int (i*j)))else U|_,_=>U
theorem Pq:Ġ a (rI Ű λi j=>.int (i*j)) kx:=by
 intro f e x y H Q d b o;cases f<;>cases e<;>try exact(show False from o).elim
 rename_i i j;simp only[kx]at o;split at o;·rename_i h;exact⟨i,j,d,b,h,o _ H (.refl H) rfl⟩
 ·exact o.elim
noncomputable def jQ:Q->Q->Option (Rs Q)|.int i,.int j=>if 0<j then Z (.ok (.int (i%j)))else U|_,_=>U
theorem Pr:Ġ a (rI (λ_ j=>0<j) λi j=>.int (i%j)) jQ:=by
 intro f e x y H Q d b o;cases f<;>cases e<;>try exact(show False from o).elim
 rename_i i j;simp only[jQ]at o;split at o;·rename_i h;exact⟨i,j,d,b,h,o _ H (.refl H) rfl⟩
 ·exact o.elim
noncomputable def jV:Q->Q->Option (Rs Q)|.int i,.int j=>if 0<j/\j<1073741824 then Z (.ok (.int (i/j)))else U|_,_=>U
theorem KZ:Ġ a (rI RE λi j=>.int (i/j)) jV:=by
 intro f e x y H Q d b o;cases f<;>cases e<;>try exact(show False from o).elim
 rename_i i j;simp only[jV]at o;split at o;·rename_i h;exact⟨i,j,d,b,h,o _ H (.refl H) rfl⟩
 ·exact o.elim
noncomputable def Gh:Q->Option (Rs Q)|.int i=>Z (.ok (.int (-i)))|_=>U
def f1(g:Q->Option (Rs Q))(b:Ò):Ò:=λa=>Ù (b a) g
theorem K0(j:FE a g y):FE a (.UnaryOp .USub g m) (f1 Gh y):=eC (O6 Kc j.h) λk H Q h E o=>⟨h,E,ð.bind o λd v f e r b=>by
 cases d<;>try exact(show False from b).elim
 rename_i i;exact⟨i,r,b _ f (.refl f) rfl⟩⟩
noncomputable def seq(x y:Str):Bool:=x.cps.toList==y.cps.toList
theorem Ek(x y:Str):(x==y)=seq x y:=by rw[Vc];unfold seq;obtain⟨⟨a⟩⟩:=x;obtain⟨⟨b⟩⟩:=y;simp
def Ŕ:Q->Q->Option Bool|.non,.non=>Z L|.non,.int _=>Z D|.int _,.non=>Z D|.non,.bl _=>Z D|.bl _,.non=>Z D|.non,.str _=>Z D|.str _,.non=>Z D|.int i,.int j=>Z (i==j)|.bl i,.bl j=>Z (i==j)|.str i,.str j=>Z (seq i j)|.int _,.str _=>Z D|.str _,.int _=>Z D|.bl _,.str _=>Z D|.str _,.bl _=>Z D|_,_=>U
variable{μ:Q}
theorem El{y:V}(d:Ô q h j ψ)(b:Ô q h μ y)(a:Ŕ j μ=Z H):O8 ψ y=L/\t_ (ψ=y)=H:=by cases j<;>cases μ<;>(try cases a)<;>(try(cases d;cases b;exact⟨rfl,by first|rfl|exact sN|exact xB|(rw[sO,Ek])|simp⟩))
noncomputable def Ps(p:Int->Int->Bool):Q->Q->Option (Rs Q)|.int i,.int j=>Z (.ok (.bl (p i j)))|_,_=>U
theorem K1(p:Int->Int->Bool):Ġ a (ŝ λi j=>.bl (p i j)) (Ps p):=by
 intro f e x y H Q d b o;cases f<;>cases e<;>try exact(show False from o).elim
 rename_i i j;exact⟨i,j,d,b,o _ H (.refl H) rfl⟩
abbrev Ŋ:=Ps λi j=>t_ (j<i)
noncomputable def Ď:Q->Q->Option (Rs Q)|x,.non=>Z (.ok (.bl (match x with|.non=>L|_=>D)))|_,_=>U
noncomputable def nW:Q->Q->Option (Rs Q)|x,.non=>Z (.ok (.bl (match x with|.non=>D|_=>L)))|_,_=>U
theorem yd(r:Ô q h j ψ):t_ (ψ=.non)=(match j with|.non=>L|_=>D):=by cases j with|non=>cases(show ψ=.non from r);rfl|bl b=>cases(show ψ=.bl b from r);rfl|int b=>cases(show ψ=.int b from r);rfl|str b=>cases(show ψ=.str b from r);rfl|tup ds=>obtain⟨a,d,rfl,_⟩:=r.tupE;rfl|lst ds=>obtain⟨a,d,rfl,_⟩:=r.lstE;rfl|scr ds=>obtain⟨a,rfl,_⟩:=r.scrE;rfl|exn c=>obtain⟨a,_,_,_,rfl,_⟩:=r.exnE;rfl|obj k ds=>obtain⟨a,_,_,_,rfl,_⟩:=r.objE;rfl
theorem K2:Ġ a (λx y H Q=>y=.non/\Q (.bl (t_ (x=.non))) H) Ď:=by
 intro g f x y H Q d b o;cases f<;>try exact(show False from o).elim
 have q:=yd d;refine⟨b,?_⟩;have e:=o _ H (.refl H) rfl;cases g<;>(rw[q];exact e)
theorem Em:Ġ a (λx y H Q=>y=.non/\Q (.bl (!t_ (x=.non))) H) nW:=by
 intro g f x y H Q d b o;cases f<;>try exact(show False from o).elim
 have q:=yd d;refine⟨b,?_⟩;have e:=o _ H (.refl H) rfl;cases g<;>(rw[q];exact e)
noncomputable def inS(x y:Str):Bool:=!(Uk y x 0 y.length 1).isEmpty
noncomputable def lu:Q->Bool|.non=>L|.bl _=>L|.int _=>L|.str _=>L|_=>D
def eqF:Q->Q->Bool|.non,.non=>L|.bl a,.bl b=>a==b|.bl a,.int b=>(if a then 1 else 0)==b|.int a,.bl b=>a==(if b then 1 else 0)|.int a,.int b=>a==b|.str a,.str b=>seq a b|_,_=>D
def K'(x:Q)(a:List Q):Option Bool:=if lu x&&a.all lu then Z (a.any λy=>eqF y x)else U
def RN:Q->Q->Option Bool|.str x,.str y=>Z (inS x y)|x,.lst a=>K' x a|x,.tup a=>K' x a|_,_=>U
def ı(x y:Q):Option (Rs Q):=match RN x y with|some b=>Z (.ok (.bl b))|none=>U
def lh(x y:Q):Option (Rs Q):=match RN x y with|some b=>Z (.ok (.bl (!b)))|none=>U
theorem sV(r:Ô q h j ψ)(a:lu j=L):jF ψ=L:=by cases j<;>first|(cases a;done)|(cases r;rfl)
theorem o6{K:d_}{H:Hp}:∀{ds:List Q}{a:List V},S K H ds a->ds.all lu=L->a.all jF=L|[],a,r,_=>by cases(show a=[]from r);rfl|d::ds,a,r,h=>by obtain⟨v,us,rfl,e,b⟩:∃v us,a=v::us/\Ô K H d v/\S K H ds us:=r;rw[Vu,m_]at h;rw[Vu,m_];exact⟨sV e h.1,o6 b h.2⟩
theorem Eo{u:V}(r:Ô q h j ψ)(a:Ô q h μ u)(b:lu j=L)(d:lu μ=L):Ō ψ u=eqF j μ:=by cases j<;>first|(cases b;done)|(cases r;cases μ<;>first|(cases d;done)|(cases a;first|rfl|exact Ek _ _))
theorem Ep{K:d_}{H:Hp}{e:Q}{u:V}(q:Ô K H e u)(b:lu e=L):∀{ds:List Q}{a:List V},S K H ds a->ds.all lu=L->(a.any λy=>Ō y u)=ds.any λy=>eqF y e|[],a,r,_=>by cases(show a=[]from r);rfl|d::ds,a,r,h=>by obtain⟨v,us,rfl,g,f⟩:∃v us,a=v::us/\Ô K H d v/\S K H ds us:=r;rw[Vu,m_]at h;rw[Vt,Vt,Eo g q h.1 b,Ep q b f h.2]
theorem uN(e:Ô q h j ψ)(d:S q h E η)(a:K' j E=Z H):jF ψ=L/\η.all jF=L/\inV ψ η=H:=by
 unfold K' at a;split at a;·rename_i b;rw[m_]at b;cases a;exact⟨sV e b.1,o6 d b.2,Ep e b.1 d b.2⟩
 ·cases a
def RO(K:d_):R2:=λx y H Q=>(∃i j,x=.str i/\y=.str j/\Q (.bl (!(Uk j i 0 j.length 1).isEmpty)) H)\/rIn K D x y H Q
def ye(K:d_):R2:=λx y H Q=>(∃i j,x=.str i/\y=.str j/\Q (.bl (!(!(Uk j i 0 j.length 1).isEmpty))) H)\/rIn K L x y H Q
theorem Pu:ÿ a (Ug .In) (RO a.K):=op_in_str.or xT
theorem yf:ÿ a (Ug .NotIn) (ye a.K):=op_notIn_str.or qL
theorem Pv:Ġ a (RO a.K) ı:=by
 intro f s x y H Q k j o;unfold ı at o;split at o
 · rename_i b g;have q:=o _ H (.refl H) rfl;cases s<;>try(cases f<;>cases g;done)
   · rename_i z;cases f<;>try(cases g;done)
     rename_i r;cases g;exact .inl ⟨r,z,k,j,q⟩
   · rename_i h;have e:K' f h=Z b:=by cases f<;>exact g
     obtain⟨d,i,rfl,n,m⟩:=j.tupE;obtain⟨f1,R,p⟩:=uN k m e;exact .inr ⟨d,i,rfl,.inr (ù.of n),f1,R,by rw[if_neg A_,p];exact q⟩
   · rename_i h;have e:K' f h=Z b:=by cases f<;>exact g
     obtain⟨d,i,rfl,n,m⟩:=j.lstE;obtain⟨f1,R,p⟩:=uN k m e;exact .inr ⟨d,i,rfl,.inl (ă.of n),f1,R,by rw[if_neg A_,p];exact q⟩
 ·exact o.elim
theorem yg:Ġ a (ye a.K) lh:=by
 intro f s x y H Q k j o;unfold lh at o;split at o
 · rename_i b g;have q:=o _ H (.refl H) rfl;cases s<;>try(cases f<;>cases g;done)
   · rename_i z;cases f<;>try(cases g;done)
     rename_i r;cases g;exact .inl ⟨r,z,k,j,q⟩
   · rename_i h;have e:K' f h=Z b:=by cases f<;>exact g
     obtain⟨d,i,rfl,n,m⟩:=j.tupE;obtain⟨f1,R,p⟩:=uN k m e;exact .inr ⟨d,i,rfl,.inr (ù.of n),f1,R,by rw[if_pos rfl,p];exact q⟩
   · rename_i h;have e:K' f h=Z b:=by cases f<;>exact g
     obtain⟨d,i,rfl,n,m⟩:=j.lstE;obtain⟨f1,R,p⟩:=uN k m e;exact .inr ⟨d,i,rfl,.inl (ă.of n),f1,R,by rw[if_pos rfl,p];exact q⟩
 ·exact o.elim
def Ă(a:List ε)(i:Int):Option ε:=if 0<=i then a[i.toNat]? else if-(a.length:Int)<=i then a[(i+a.length).toNat]? else U
theorem o7{a:List ε}(h:Ă a n=Z Ë):M' a n=Z Ë:=by
 unfold Ă at h;unfold M' L';split at h
 · rename_i b;have e:n.toNat<a.length:=by obtain⟨q,_⟩:=G_.mp h;exact q
   rw[if_pos b,if_pos (by omega)];exact h
 · rename_i b;split at h;·rename_i d;rw[if_neg b,if_pos d];exact h
   ·cases h
noncomputable def Î:Q->Q->Option (Rs Q)|.lst a,.int i=>(match Ă a i with|some d=>Z (.ok d)|none=>U)|.tup a,.int i=>(match Ă a i with|some d=>Z (.ok d)|none=>U)|.str z,.int i=>if z.length<=100000 then(match Ă z.cps.toList i with|some c=>Z (.ok (.str ⟨#[c]⟩))|none=>U)else U|.scr b,.int i=>(match Ă b i with|some d=>Z (.ok (.int d))|none=>U)|_,_=>U
theorem sW{f:Type}{b:List ε}{a:List f}(h:a.length=b.length){i:Int}{x:ε}(e:Ă b i=Z x):∃j:Nat,b[j]?=Z x/\∀y,a[j]?=Z y->Ă a i=Z y:=by
 unfold Ă at e;split at e;·rename_i d;exact⟨_,e,λy q=>by unfold Ă;rw[if_pos d];exact q⟩
 · rename_i d;split at e;·rename_i g;exact⟨_,e,λy q=>by unfold Ă;rw[if_neg d,h,if_pos g];exact q⟩
   ·cases e
theorem SL:Ġ a (rIx a.K) Î:=by
 intro E A x y H Q n m o;cases E<;>cases A<;>try exact(show False from o).elim
 · rename_i z i;simp only[Î]at o;split at o
   · rename_i u;split at o;·rename_i c w;exact .inr (.inr ⟨z,i,c,n,m,ce u,o7 w,o _ H (.refl H) rfl⟩)
     ·exact o.elim
   ·exact o.elim
 · rename_i ds i;simp only[Î]at o;split at o;·rename_i d e;obtain⟨b,p,rfl,g,f⟩:=n.tupE;obtain⟨j,k,h⟩:=sW f.length e;obtain⟨v,r,q⟩:=f.get' k;exact .inr (.inl ⟨b,p,i,v,rfl,m,ù.of g,o7 (h v r),o v H (.refl H) q⟩)
   ·exact o.elim
 · rename_i ds i;simp only[Î]at o;split at o;·rename_i d e;obtain⟨b,p,rfl,g,f⟩:=n.lstE;obtain⟨j,k,h⟩:=sW f.length e;obtain⟨v,r,q⟩:=f.get' k;exact .inl ⟨b,p,i,v,rfl,m,ă.of g,o7 (h v r),o v H (.refl H) q⟩
   ·exact o.elim
 · rename_i s i;simp only[Î]at o;split at o;·rename_i d e;obtain⟨b,rfl,g⟩:=n.scrE;obtain⟨j,k,h⟩:=sW (a:=s.map V.int) (by simp) e;exact .inl ⟨b,_,i,.int d,rfl,m,g,o7 (h _ (by rw[L_,k]<;>rfl)),o _ H (.refl H) rfl⟩
   ·exact o.elim
theorem Pw(e:FE a g y)(d:FE a u É)(b:xQ u:=by intro _ _;lk):FE a (.Subscript g u m) (R Î y É):=eC (Pe Kl e.h d.h b) λ_ _ _ _ E o=>two SL E o
abbrev FnO:=Ev->Option (Rs (Option Int))
def RP(X:C)(H:Hp)(o:Option (Rs (Option Int)))(Q:Option Int->Hp->Prop):Prop:=match o with|none=>False|some (.exc c)=>XW X c H|some (.ok d)=>∀a,Ð H a->Q d a
structure FO(X:C)(e:Option s_)(f:FnO):Prop where h:PO X e λσ H Q=>∃ρ,Ü X.K H σ ρ/\RP X H (f ρ) Q
noncomputable def gM:FnO:=λ_=>Z (.ok U)
noncomputable def toI:Q->Option (Rs (Option Int))|.int i=>Z (.ok (Z i))|_=>U
def eE(f:Ò):FnO:=λa=>Ù (f a) toI
theorem Gi:FO a U gM:=⟨λd s b H Q I⟨_,_,o⟩=>F3 d s b H Q I (o H (.refl H))⟩
theorem Gj(h:FE a g y):FO a (Z g) (eE y):=⟨λf s e H Q I⟨b,E,o⟩=>F4 h.h f s e H Q I ⟨b,E,by unfold eE at o;match k:y b,o with
 |none,o=>exact o|some (.exc c),o=>exact o|some (.ok d),o=>
 intro v j g r;cases d<;>try exact(show False from o).elim
 rename_i i;exact⟨i,r,o j g⟩⟩⟩
def yh(a:List ε)(b d:Option Int):List ε:=(a.drop (HT.sIx a.length 0 b)).take (HT.sIx a.length a.length d-HT.sIx a.length 0 b)
def SM:V->Option Int->Option Int->Hp->VK->Prop:=λx lo a H Q=>∃z,x=.str z/\z.length<=sizeLine/\Q (.str (aba z lo a)) H
theorem Ţ:ź a SM:=by intro p s n H x v w r lo m y Q I o f pl h q;obtain⟨z,rfl,e,q⟩:=q;obtain⟨t,rfl⟩:=o;refine⟨"str",_,F.slot_str_getitem.lookup,Xj _ _ _,?_⟩;have d:∀(b:Tok)(k:Nat),EP a p n Q (.str (aba z lo m) b) {s with toks:=k}:=λb k=>⟨.str (aba z lo m),H,I.tok _,⟨_,rfl⟩,q⟩;cases pl with
 |none=>cases h with|none=>exact We (l:=U) (u:=U) (st:=U) f rfl (Yk ⟨TU (ZA z _ _) e,λb k=>d b k⟩)|int j u=>exact We (l:=U) (u:=Z (j,u)) (st:=U) f rfl (Yk ⟨TU (ZA z _ _) e,λb k=>d b k⟩)
 |int i g=>cases h with|none=>exact We (l:=Z (i,g)) (u:=U) (st:=U) f rfl (Yk ⟨TU (ZA z _ _) e,λb k=>d b k⟩)|int j u=>exact We (l:=Z (i,g)) (u:=Z (j,u)) (st:=U) f rfl (Yk ⟨TU (ZA z _ _) e,λb k=>d b k⟩)
def OC(x:Q)(a b:Option Int):Option (Rs Q):=match x with|.str z=>if z.length<=100000 then Z (.ok (.str (aba z a b)))else U|.lst d=>Z (.ok (.lst (yh d a b)))|_=>U
def uO(f:Ò)(d e:FnO):Ò:=λa=>Ù (f a) λx=>Ù (d a) λlo=>Ù (e a) λb=>OC x lo b
theorem jW{o:Option (Rs (Option Int))}{k:Option Int->Option (Rs Q)}{P:Option Int->Hp->Prop}(f:ð a h (Ù o k) Ê)(i:∀b g,Ð h g->ð a g (k b) Ê->P b g):RP a h o P:=by match o,f with|some (.exc _),f=>exact f|some (.ok d),f=>exactλj e=>i d j e (ð.mono e f)
theorem K3{i k:Option s_}{q r:FnO}(ha:FE a g y)(hl:FO a i q)(hh:FO a k r):FE a (.Subscript g (.Slice i k U m) v) (uO y q r):=eC (uJ (Ţ.or xR) ha.h hl.h hh.h) λσ H Q f E o=>⟨f,E,ð.bind o λd b H1 w N o1=>⟨f,E.mono w,jW o1 λl H2 s P=>⟨f,(E.mono w).mono s,jW P λu A e3 e=>by
 have h:=Ô.mono e3 d b (Ô.mono s d b N);cases d<;>try exact(show False from e).elim
 · rename_i z;unfold OC at e;dsimp only at e;split at e;·rename_i hz;exact .inl ⟨z,h,ce hz,e _ A (.refl A) rfl⟩
   ·exact e.elim
 ·rename_i ds;obtain⟨a',I,rfl,h1,n⟩:=h.lstE;refine .inr ⟨a',I,rfl,ă.of h1,λp j=>e _ _ (aH j _) ⟨p,_,rfl,av,S.mono (aH j _) _ _ ?_⟩⟩;unfold Bz yh;rw[n.length];exact(n.drop _).take _⟩⟩⟩
noncomputable def fJ:Ö|[.str z]=>if z.length<=100000 then Z (.ok (.int z.length))else U|[.lst a]=>Z (.ok (.int a.length))|[.tup a]=>Z (.ok (.int a.length))|[.scr b]=>Z (.ok (.int b.length))|_=>U
def á(g:Ö)(b:à):Ò:=λa=>Ù (b a) g
theorem eP(r:S q h [j] η):∃v,η=[v]/\Ô q h j v:=by obtain⟨v,us,rfl,b,a⟩:∃v us,η=v::us/\Ô q h j v/\S q h [] us:=r;cases(show us=[]from a);exact⟨v,rfl,b⟩
theorem Gk(r:S q h [j,μ] η):∃v v2,η=[v,v2]/\Ô q h j v/\Ô q h μ v2:=by obtain⟨v,us,rfl,d,b⟩:∃v us,η=v::us/\Ô q h j v/\S q h [μ] us:=r;obtain⟨v2,rfl,a⟩:=eP b;exact⟨v,v2,rfl,d,a⟩
theorem K4(y:Gl a "len")(u:a.mg "len"=U)(I:FA a (g::w) ν)(A:k_ (g::w) a.env=(D,eval g a.env)::k_ w a.env:=by lk)(n:(TW v (k_ w a.env)).any (·.1)=D:=by lk):FE a (.Call (.Name "len" m) (g::w) [] v) (á fJ ν):=eC (jT Bt y u abF I.h (by decide) (by decide) A n) λN H Q p E o=>⟨p,E,è.bind o λds P f e1 i e=>by
 unfold fJ at e;split at e
 · rename_i z;split at e;·rename_i s;obtain⟨b,rfl,r⟩:=eP i;cases(show b=.str z from r);exact⟨_,_,rfl,⟨ce s,rfl⟩,e _ f (.refl f) rfl⟩
   ·exact e.elim
 ·rename_i q;obtain⟨b,rfl,r⟩:=eP i;obtain⟨d,j,rfl,h,k⟩:=r.lstE;exact⟨_,_,rfl,.inl ⟨j,ă.of h,rfl⟩,e _ f (.refl f) (by rw[k.length];rfl)⟩
 ·rename_i q;obtain⟨b,rfl,r⟩:=eP i;obtain⟨d,j,rfl,h,k⟩:=r.tupE;exact⟨_,_,rfl,.inr ⟨j,ù.of h,rfl⟩,e _ f (.refl f) (by rw[k.length];rfl)⟩
 ·rename_i ns;obtain⟨b,rfl,r⟩:=eP i;obtain⟨d,rfl,h⟩:=r.scrE;exact⟨_,_,rfl,.inl ⟨_,h,rfl⟩,e _ f (.refl f) (by rw[P_];rfl)⟩
 ·exact e.elim⟩
noncomputable def jX:List Q->Option (List Bool)|[]=>Z []|.bl b::r=>(match jX r with|some bs=>Z (b::bs)|none=>U)|_=>U
def o8:Ö|[.lst a]=>(match jX a with|some bs=>Z (.ok (.bl (bs.all id)))|none=>U)|_=>U
theorem o9{K:d_}{H:Hp}:∀{ds:List Q}{a:List V}{us:List B}{bs:List Bool},S K H ds a->Ñ a us->jX ds=Z bs->us=bs.map S_
 |[],a,us,bs,r,q,h=>by cases(show a=[]from r);cases q;cases h;rfl|d::ds,a,us,bs,r,q,h=>by obtain⟨v,m,rfl,g,f⟩:∃v us,a=v::us/\Ô K H d v/\S K H ds us:=r;cases q with|cons j i=>
 cases d<;>try(cases h;done)
 rename_i b;simp only[jX]at h;cases e:jX ds with|none=>rw[e]at h;cases h|some k=>rw[e]at h;cases h;cases(show v=.bl b from g);cases j;rw[o9 f i e];rfl
theorem BG:nh a (.builtin "all") (λy H Q=>∃d o bs ds,y=[.ref d]/\H d=Z (.lst o)/\S a.K H ds o/\jX ds=Z bs/\a.calm=L/\Q (.bl (bs.all id)) H):=by
 intro f' s σ H y us Q I r h;obtain⟨d,o,bs,ds,rfl,h1,h2,h3,hc,q⟩:=h;obtain⟨u,rfl,P⟩:=iL r;cases P;obtain⟨z,a',n,N,hl,e⟩:=I.lstM h1;have k:=o9 h2 N h3;subst k;have A:s.heap.IsList d (bs.map S_).toArray:=⟨_,e,rfl,_,rfl⟩;have w:d<s.heap.objs.size:=y_ e;refine call_all_walk (Xy A ?_);refine⟨s.heap.objs.size,[s.heap.objs.size,d],[s.heap.objs.size],(bs.map S_).toArray.size,_,_,λi=>(bs[i]?).getD L,rfl,abK (A:=a.A.in1) (I.ok.hd hc) _ d (TY w) (bs.map S_).toArray,⟨⟨_,v_ _ rfl,rfl,rfl⟩,A.push _⟩,λi v E Q' E' hP hQ=>?_,λh' tk hk=>?_⟩
 · have f:(bs.map S_)[i]?=Z v:=by simpa using hP
   rw[L_]at f;cases j:bs[i]? with|none=>rw[j]at f;cases f|some b=>rw[j]at f;cases f;have m:Q' ((bs[i]?).getD L) E:=hQ;rw[j]at m;exact Vh m
 · have e2:((p_ (bs.map S_).toArray.size).all λi=>(bs[i]?).getD L)=bs.all id:=by
    rw[H_,P_];rw[Vc];simp only[Ul,TX,id];constructor;·intro p b j;obtain⟨i,g,rfl⟩:=aae.mp j;simpa[g]using p i g
    ·intro p i g;simp only[F_ g,abh];exact p _ (W4 g)
   rw[e2];refine⟨.bl _,H,I.kept λb x k=>hk b x (λhm=>?_) (j_ _ k),rfl,q⟩;rw[M_.mp hm]at k;exact U1 _ (y_ k)
theorem K5(u:a.calm=L)(q:Gl a "all")(p:a.mg "all"=U)(z:FA a (g::w) ν)(s:k_ (g::w) a.env=(D,eval g a.env)::k_ w a.env:=by lk)(f:(TW v (k_ w a.env)).any (·.1)=D:=by lk):FE a (.Call (.Name "all" m) (g::w) [] v) (á o8 ν):=eC (jT BG q p PyProof.Rows.boot_all z.h (by decide) (by decide) s f) λN H Q i E o=>⟨i,E,è.bind o λds P h e1 n e=>by
 unfold o8 at e;split at e
 · rename_i j;split at e;·rename_i bs y;obtain⟨d,rfl,r⟩:=eP n;obtain⟨b,k,rfl,I,A⟩:=r.lstE;exact⟨b,k,bs,j,rfl,I,A,y,u,e _ h (.refl h) rfl⟩
   ·exact e.elim
 ·exact e.elim⟩
noncomputable def tyD:Q->String|.non=>"NoneType"|.bl _=>"bool"|.int _=>"int"|.str _=>"str"|.tup _=>"tuple"|.lst _=>"list"|.scr _=>"list"|.exn _=>"object"|.obj _ _=>"object"
theorem Gm(r:Ô q h j ψ)(i:∀e,j≠.scr e)(g:∀c,j≠.exn c)(m:∀k ds,j≠.obj k ds):uG q h ψ (.type (tyD j)):=by cases j with|non=>cases(show ψ=.non from r);exact .non|bl b=>cases(show ψ=.bl b from r);exact .bl b|int b=>cases(show ψ=.int b from r);exact .int b|str b=>cases(show ψ=.str b from r);exact .str b|tup ds=>obtain⟨a,f,rfl,d,_⟩:=r.tupE;exact .tup d|lst ds=>obtain⟨a,f,rfl,d,_⟩:=r.lstE;exact .lst d|scr e=>exact absurd rfl (i e)|exn c=>exact absurd rfl (g c)|obj k ds=>exact absurd rfl (m k ds)
theorem BH(T:String):nh a (.builtin "isinstance") (λe H Q=>∃x t b,e=[x,.ty T]/\uG a.K H x t/\Wg a.K t (.type T)=Z b/\Q (.bl b) H):=by intro n s m H e us Q I r h;obtain⟨x,t,b,rfl,g,k,q⟩:=h;obtain⟨u,f,rfl,j,d⟩:=Ke r;cases(show f=rl T from d);exact xK I j g k λi=>⟨.bl b,H,I.tok i,rfl,q⟩
noncomputable def jR(a:Q->Bool):Q->Option (Rs Q)|.scr _=>U|.exn _=>U|.obj _ _=>U|d=>Z (.ok (.bl (a d)))
variable{Τ:Pos}
theorem uP{T:String}{u:Q->Bool}(hk:∀K d,Wg K (.type (tyD d)) (.type T)=Z (u d))(hT:Vb (b_ T)=Z (.type T))(N:b_ T≠"__name__")(s:(b_ T==("__debug__":Str))=D)(hg:Gl a "isinstance")(P:a.mg "isinstance"=U)(q:Gl a (b_ T))(p:a.mg (b_ T)=U)(ha:FE a g y)(h:k_ [g,.Name (b_ T) Τ] a.env=(D,eval g a.env)::k_ [.Name (b_ T) Τ] a.env:=by lk)(j:k_ [.Name (b_ T) Τ] a.env=(D,eval (.Name (b_ T) Τ) a.env)::k_ [] a.env:=by lk)(n:(TW v (k_ [.Name (b_ T) Τ] a.env)).any (·.1)=D:=by lk):FE a (.Call (.Name "isinstance" m) [g,.Name (b_ T) Τ] [] v) (f1 (jR u) y):=eC (jT (BH T) hg P PyProof.Rows.boot_isinstance (kB ha.h (kB (FN (ψ:=.ty T) q p hT rfl N s) uH j) h) (by decide) (by decide) h n) λσ H f A E o=>⟨A,E,ð.bind o λd e w e1 r i=>by show∃x t b,[e,V.ty T]=[x,.ty T]/\_;cases d with|scr I=>exact i.elim|exn c=>exact i.elim|obj k ds=>exact i.elim|_=>exact⟨e,_,_,rfl,Gm r (λI z=>by cases z) (λc z=>by cases z) (λk ds z=>by cases z),hk a.K _,i _ w (.refl w) rfl⟩⟩
noncomputable def qQ:Q->Bool|.str _=>L|_=>D
theorem Go(K:d_)(d:Q):Wg K (.type (tyD d)) (.type "str")=Z (qQ d):=by cases d<;>lk
noncomputable def sX:Q->Bool|.tup _=>L|_=>D
theorem Gp(K:d_)(d:Q):Wg K (.type (tyD d)) (.type "tuple")=Z (sX d):=by cases d<;>lk
noncomputable def fY:Q->Bool|.bl _=>L|_=>D
theorem BI(K:d_)(d:Q):Wg K (.type (tyD d)) (.type "bool")=Z (fY d):=by cases d<;>lk
def fM(g:Str->Ö)(e:Ò)(d:à):Ò:=λa=>Ù (e a) λx=>match x with|.str i=>Ù (d a) λb=>g i b|_=>U
noncomputable def qR(h:Str->Str->Bool):Str->Ö|x,[.str y]=>Z (.ok (.bl (h x y)))|_,_=>U
noncomputable def OD(h:Str->Str->Int):Str->Ö|x,[.str y]=>Z (.ok (.int (h x y)))|_,_=>U
def Gq(h:Str->Str->Bool):V->List V->Hp->VK->Prop:=λx a H Q=>∃i j,x=.str i/\a=[.str j]/\Q (.bl (h i j)) H
def K6(h:Str->Str->Int):V->List V->Hp->VK->Prop:=λx a H Q=>∃i j,x=.str i/\a=[.str j]/\Q (.int (h i j)) H
theorem Px:œ a "str.startswith" (Gq Ud):=by intro m s f H x g v us Q I b e h;obtain⟨i,j,rfl,rfl,q⟩:=h;obtain⟨t,rfl⟩:=b;obtain⟨u,rfl,d⟩:=iL e;obtain⟨k,rfl⟩:=d;exact SC.startswith ⟨.bl _,H,I,rfl,q⟩
theorem Py:œ a "str.endswith" (Gq Yx):=by intro m s f H x g v us Q I b e h;obtain⟨i,j,rfl,rfl,q⟩:=h;obtain⟨t,rfl⟩:=b;obtain⟨u,rfl,d⟩:=iL e;obtain⟨k,rfl⟩:=d;exact SC.endswith ⟨.bl _,H,I,rfl,q⟩
theorem BJ:œ a "str.rfind" (K6 ab0):=by intro m s f H x g v us Q I b e h;obtain⟨i,j,rfl,rfl,q⟩:=h;obtain⟨t,rfl⟩:=b;obtain⟨u,rfl,d⟩:=iL e;obtain⟨k,rfl⟩:=d;exact SC.rfind ⟨.int _,H,I.tok _,⟨_,rfl⟩,q⟩
theorem Gr{q:String}{r:V->List V->Hp->VK->Prop}{b:Str->Ö}(n:Slot "str" d q)(s:abB (.builtin q)=pure (.type "method_descriptor"))(hm:œ a q r)(hg:∀i ds p H Q,S a.K H ds p->ð a H (b i ds) Q->r (.str i) p H Q)(ho:FE a u y)(ha:FA a (g::w) ν)(k:Uy u d a.env (eval u a.env)=eval u a.env:=by lk)(o:((TW v (k_ (g::w) a.env)).all (λx=>!x.1)&&(Vy v (UN [] a.env)).all (λx=>x.1.isSome)&&t_ ((g::w).length+([]:List VI).length+(if([]:List VI).isEmpty then 0 else 1)<30))=L:=by lk)(j:(m.endLine==v.line)=L:=by lk)(hs:k_ (g::w) a.env=(D,eval g a.env)::k_ w a.env:=by lk)(h:(TW v (k_ w a.env)).any (·.1)=D:=by lk):FE a (.Call (.Attribute u d m) (g::w) [] v) (fM b y ν):=eC (BB PySem.F.plainAttrs_str n s hm ho.h ha.h k o j hs h) λσ H Q z E u=>⟨z,E,ð.bind u λf e H1 e1 N A=>by
 cases f<;>try exact(show False from A).elim
 rename_i i;cases(show e=.str i from N);exact⟨rfl,z,E.mono e1,è.bind A λds p H2 e2 I P=>hg i ds p H2 Q I P⟩⟩
theorem Er{h:Str->Str->Bool}(i:Str)(f:List Q)(e:List V)(H:Hp)(b:VK)(g:S a.K H f e)(o:ð a H (qR h i f) b):Gq h (.str i) e H b:=by
 unfold qR at o;split at o;·rename_i j;obtain⟨w,rfl,d⟩:=eP g;cases(show w=.str j from d);exact⟨i,j,rfl,rfl,o _ H (.refl H) rfl⟩
 ·exact o.elim
theorem K7{h:Str->Str->Int}(i:Str)(f:List Q)(e:List V)(H:Hp)(b:VK)(g:S a.K H f e)(o:ð a H (OD h i f) b):K6 h (.str i) e H b:=by
 unfold OD at o;split at o;·rename_i j;obtain⟨w,rfl,d⟩:=eP g;cases(show w=.str j from d);exact⟨i,j,rfl,rfl,o _ H (.refl H) rfl⟩
 ·exact o.elim
noncomputable def RQ(K:d_):R2:=λx y H Q=>∃(a b:O)(d:List Int),x=.ref a/\y=.ref b/\ă K H a (d.map V.int)/\H b=Z (.lst [])/\Q (.bl d.isEmpty) H
theorem Pz(g:a.A.units<cLine):ÿ a (Ug .Eq) (RQ a.K):=by intro f' s σ H x y v u Q I p o h;obtain⟨d,b,f,rfl,rfl,N,E,q⟩:=h;cases p;cases o;obtain⟨e,r,pl,hz⟩:=I.list N;obtain⟨z2,m,n2,w,a',P⟩:=I.lstM E;cases w;have k:s.heap.IsList b #[]:=⟨_,P,rfl,_,rfl⟩;have j:=r.length;cases f with
 |nil=>
 have e0:e=[]:=by cases e with|nil=>rfl|cons _ _=>simp at j
 subst e0;exact SeqAt.eq_listAt (e:=λ_=>L) pl.isList k rfl g (λi A=>absurd A (by simp)) (by first|exact⟨.bl _,H,I,rfl,q⟩|(refine⟨.bl _,H,I,?_,q⟩;simp[Ø]))|cons n f=>
 refine SeqAt.eq_list_lengthsAt pl.isList k ?_ g ⟨.bl _,H,I,rfl,q⟩;have:0<e.length:=by rw[<-j];simp
 simp;exactλz=>by rw[z]at this;simp at this
noncomputable def OE:Q->Q->Option (Rs Q)|.scr a,.lst []=>Z (.ok (.bl a.isEmpty))|_,_=>U
theorem PB:Ġ a (RQ a.K) OE:=by
 intro n m x y H Q g f o;unfold OE at o;split at o;·rename_i h;obtain⟨d,rfl,k⟩:=g.scrE;obtain⟨b,e,rfl,j,i⟩:=f.lstE;cases(show e=[]from i);exact⟨d,b,h,rfl,rfl,k,j,o _ H (.refl H) rfl⟩
 ·exact o.elim
theorem K8:Vb (b_ "str")=Z (.type "str"):=PyProof.Rows.boot_str
theorem BK:Vb (b_ "tuple")=Z (.type "tuple"):=by decide+kernel
theorem Gs:Vb (b_ "bool")=Z (.type "bool"):=by decide+kernel
mutual
def fZ:Q->PyData|.non=>.none|.bl b=>.bool b|.int i=>.int i|.str x=>.str x|.tup a=>.tuple (ò a)|.lst a=>.list (ò a)|.scr e=>.list (e.map PyData.int)|.exn _=>.dict []|.obj _ _=>.dict []def ò:List Q->List PyData|[]=>[]|d::ds=>fZ d::ò ds
end
theorem nX{s:ge}:∀{a:List Int}{us:List B},Ñ (a.map V.int) us->∃as,ReadsAll s.heap us (a.map PyData.int) as|[],us,r=>by cases r;exact⟨_,.nil⟩|n::a,us,r=>by cases r with|cons d b=>obtain⟨t,rfl⟩:=d;obtain⟨as,q⟩:=nX b;exact⟨_,.cons (.int n t) q⟩
mutual
theorem Ô.reads{X:C}{E:List (O×Obj)}{w:L2.St}{H:Hp}{s:ge}(I:Í X E w H s):∀(d:Q)(v:V)(u:B),Ô X.K H d v->Ø v u->(fZ d).canLay0=L->∃as,Reads s.heap u (fZ d) as|.non,v,u,r,q,f=>by cases(show v=.non from r);cases(show u=J_ from q);exact⟨_,.none⟩|.bl b,v,u,r,q,f=>by cases(show v=.bl b from r);cases(show u=S_ b from q);exact⟨_,.bool b⟩|.int i,v,u,r,q,f=>by cases(show v=.int i from r);obtain⟨t,rfl⟩:=(show∃t,u=Zg i t from q);exact⟨_,.int i t⟩|.str x,v,u,r,q,f=>by cases(show v=.str x from r);obtain⟨t,rfl⟩:=(show∃t,u=Wh x t from q);exact⟨_,.str x t⟩|.tup ds,v,u,r,q,f=>by obtain⟨a,y,rfl,h,A⟩:=r.tupE;cases(show u=z_ a from q);obtain⟨g,k,⟨o,e,c,n,d⟩,hz⟩:=I.tuple (ù.of h);obtain⟨as,m⟩:=S.reads I ds y g A k (by simpa[fZ,Ue]using f);exact⟨as,.tuple e c d (by simpa using m)⟩|.lst ds,v,u,r,q,f=>by obtain⟨a,y,rfl,h,A⟩:=r.lstE;cases(show u=z_ a from q);obtain⟨z,g,n,k,hl,e⟩:=I.lstM h;obtain⟨as,m⟩:=S.reads I ds y g A k (by simpa[fZ,Ue]using f);exact⟨a::as,.list e rfl rfl (by simpa using m)⟩|.scr ns,v,u,r,q,f=>by obtain⟨a,rfl,h⟩:=r.scrE;cases(show u=z_ a from q);obtain⟨g,k,⟨o,n,e,c,hd,d⟩,hz⟩:=I.list h;obtain⟨as,m⟩:=nX (s:=s) k;exact⟨a::as,.list e c d (by simpa using m)⟩|.exn c,v,u,r,q,f=>by simp[fZ,Ue]at f|.obj c ds,v,u,r,q,f=>by simp[fZ,Ue]at f
theorem S.reads{X:C}{E:List (O×Obj)}{w:L2.St}{H:Hp}{s:ge}(I:Í X E w H s):∀(ds:List Q)(j:List V)(us:List B),S X.K H ds j->Ñ j us->V1 (ò ds)=L->∃as,ReadsAll s.heap us (ò ds) as|[],j,us,r,q,_=>by cases(show j=[]from r);cases q;exact⟨_,.nil⟩|d::ds,j,us,r,q,f=>by obtain⟨v,N,rfl,r1,P⟩:∃v us,j=v::us/\Ô X.K H d v/\S X.K H ds us:=r;cases q with|cons q1 q2=>
 have p:(fZ d).canLay0=L/\V1 (ò ds)=L:=by simpa[ò,V1]using f
 obtain⟨as,a⟩:=Ô.reads I d v _ r1 q1 p.1;obtain⟨bs,b⟩:=S.reads I ds N _ P q2 p.2;exact⟨_,.cons a b⟩end
noncomputable def okP(d:Q):Bool:=SeqAt.shaped (fZ d)
def rPy(X:C)(d:Bool):R2:=λx y H Q=>∃b a,Ô X.K H b x/\Ô X.K H a y/\okP b=L/\okP a=L/\Q (.bl (if d then !UL (fZ b) (fZ a)else UL (fZ b) (fZ a))) H
theorem K9(m:a.A.units+64<cLine):ÿ a (Ug .Eq) (rPy a D):=by intro r s p H x y v u Q I f e h;obtain⟨o,n,k,j,d,b,q⟩:=h;obtain⟨as,i⟩:=Ô.reads I o x v k f (WW.mp d).1;obtain⟨bs,g⟩:=Ô.reads I n y u j e (WW.mp b).1;exact SeqAt.compareEq_shaped i g d b m ⟨.bl _,H,I,rfl,q⟩
theorem La(m:a.A.units+64<cLine):ÿ a (Ug .NotEq) (rPy a L):=by intro r s p H x y v u Q I f e h;obtain⟨o,n,k,j,d,b,q⟩:=h;obtain⟨as,i⟩:=Ô.reads I o x v k f (WW.mp d).1;obtain⟨bs,g⟩:=Ô.reads I n y u j e (WW.mp b).1;exact SeqAt.compareNe_shaped i g d b m ⟨.bl _,H,I,rfl,q⟩
def ß(x y:Q):Option (Rs Q):=match Ŕ x y with|some b=>Z (.ok (.bl b))|none=>if okP x&&okP y then Z (.ok (.bl (UL (fZ x) (fZ y))))else U
def ċ(x y:Q):Option (Rs Q):=match Ŕ x y with|some b=>Z (.ok (.bl (!b)))|none=>if okP x&&okP y then Z (.ok (.bl (!UL (fZ x) (fZ y))))else U
def RS(X:C):R2:=λx y H Q=>rEq x y H Q\/rPy X D x y H Q
def RT(X:C):R2:=λx y H Q=>rNe x y H Q\/rPy X L x y H Q
theorem Gu(b:a.A.units+64<cLine):ÿ a (Ug .Eq) (RS a):=op_eq.or (K9 b)
theorem Lb(b:a.A.units+64<cLine):ÿ a (Ug .NotEq) (RT a):=op_ne.or (La b)
theorem Gx:Ġ a (RS a) ß:=by
 intro k j x y H Q f e o;unfold ß at o;split at o;·rename_i b g;obtain⟨i,h⟩:=El f e g;exact .inl ⟨i,by rw[h];exact o _ H (.refl H) rfl⟩
 · split at o;·rename_i d;rw[m_]at d;exact .inr ⟨k,j,f,e,d.1,d.2,o _ H (.refl H) rfl⟩
   ·exact o.elim
theorem Lc:Ġ a (RT a) ċ:=by
 intro k j x y H Q f e o;unfold ċ at o;split at o;·rename_i b g;obtain⟨i,h⟩:=El f e g;exact .inl ⟨i,by rw[h];exact o _ H (.refl H) rfl⟩
 · split at o;·rename_i d;rw[m_]at d;exact .inr ⟨k,j,f,e,d.1,d.2,o _ H (.refl H) rfl⟩
   ·exact o.elim
noncomputable def Ż:Q->Q->Option (Rs Q)|.int i,.int j=>Z (.ok (.bl (t_ (i<j))))|.str x,.str y=>Z (.ok (.bl (t_ (x.cps.toList<y.cps.toList))))|_,_=>U
def RU:R2:=λx y H Q=>ŝ (λi j=>.bl (t_ (i<j))) x y H Q\/∃i j,x=.str i/\y=.str j/\Q (.bl (t_ (i.cps.toList<j.cps.toList))) H
theorem Ld:ÿ a (Ug .Lt) RU:=op_lt.or xD
theorem Le:Ġ a RU Ż:=by
 intro f e x y H Q d b o;cases f<;>cases e<;>try exact(show False from o).elim
 ·rename_i i j;exact .inl ⟨i,j,d,b,o _ H (.refl H) rfl⟩
 ·rename_i i j;exact .inr ⟨i,j,d,b,o _ H (.refl H) rfl⟩
theorem qS:∀(a:List Str)(k:Nat),Ñ (a.map V.str) (strsFrom k a)|[],_=>.nil|p::a,k=>.cons ⟨k,rfl⟩ (qS a (k+1))
theorem qT{K:d_}{H:Hp}:∀a:List Str,S K H (a.map Q.str) (a.map V.str)|[]=>rfl|p::a=>⟨.str p,a.map V.str,rfl,rfl,qT a⟩
noncomputable def iH:Str->Ö|x,[.str y]=>if y.length≠0/\x.length<=100000/\(VW x y).length<=100000 then Z (.ok (.lst ((VW x y).map Q.str)))else U|_,_=>U
def Es:V->List V->Hp->VK->Prop:=λx a H Q=>∃i j,x=.str i/\a=[.str j]/\j.length≠0/\i.length<=sizeLine/\(VW i j).length<=sizeLine/\∀p,H p=U->Q (.ref p) (Þ H p (.lst ((VW i j).map V.str)))
theorem BL:œ a "str.split" Es:=by
 intro A s o H x E v us Q I p w h;obtain⟨i,j,rfl,rfl,y,z,g,q⟩:=h;obtain⟨t,rfl⟩:=p;obtain⟨u,rfl,r⟩:=iL w;obtain⟨f,rfl⟩:=r;have n:(j.length==0)=D:=by simpa using y
 have one:∀{m:ge},m={s with heap:=s.heap.push {cls:=.type "list",data:=.seq [Wh i t].toArray}}->VW i j=[i]->EP a A o Q (.ref s.heap.objs.size) m:=λe k=>by subst e;rw[k]at q;exact⟨.ref _,_,I.lnew (its:=[Wh i t]) (ys:=[V.str i]) (t':=s.toks) (.cons ⟨t,rfl⟩ .nil) (by show 1<=sizeLine;decide),rfl,q _ I.fresh⟩
 cases b:(t_ (i.length<j.length)||t_ (VF i<VF j))
 · cases d:(Uk i j 0 i.length (i.length+1)).isEmpty
   · have k:VW i j=Builtin.Str.partsBetween i (Uk i j 0 i.length (i.length+1)) j.length:=by unfold VW;rw[if_neg (by rw[b];exact A_),if_neg (by rw[d];exact A_)]
     rw[k]at q g;refine Xk Xw (Xj _ _ _) Y3 (YO _ _) (meets_str_split_sep i j t f b n d z g) ?_;exact⟨.ref _,_,I.lnew (t':=_) (qS _ _) (by rw[P_];exact g),rfl,q _ I.fresh⟩
   ·refine Xk Xw (Xj _ _ _) Y3 (YO _ _) (meets_str_split_not_found i j t f b n d) ?_;exact one rfl (by unfold VW;rw[if_neg (by rw[b];exact A_),if_pos d])
 ·refine Xk Xw (Xj _ _ _) Y3 (YO _ _) (meets_str_split_cannot_occur i j t f b) ?_;exact one rfl (by unfold VW;rw[if_pos b])
theorem Gy(i:Str)(g:List Q)(f:List V)(H:Hp)(b:VK)(h:S a.K H g f)(o:ð a H (iH i g) b):Es (.str i) f H b:=by
 unfold iH at o;split at o
 · rename_i j;split at o;·rename_i d;obtain⟨w,rfl,e⟩:=eP h;cases(show w=.str j from e);exact⟨i,j,rfl,rfl,d.1,ce d.2.1,ce d.2.2,λp k=>o _ _ (aH k _) ⟨p,_,rfl,av,qT _⟩⟩
   ·exact o.elim
 ·exact o.elim
noncomputable def wj:List Q->Option (List Str)|[]=>Z []|.str x::r=>(match wj r with|some a=>Z (x::a)|none=>U)|_=>U
def BM:Str->Ö|x,[.lst ds]=>(match wj ds with|some a=>if JoinOk x a=L then Z (.ok (.str (WT x a)))else U|none=>U)|_,_=>U
def Lf(K:d_):V->List V->Hp->VK->Prop:=λx e H Q=>∃i a d ds b,x=.str i/\e=[.ref a]/\H a=Z (.lst d)/\S K H ds d/\wj ds=Z b/\JoinOk i b=L/\Q (.str (WT i b)) H
theorem nY{K:d_}{H:Hp}:∀{ds:List Q}{a:List V}{us:List B}{e:List Str},S K H ds a->Ñ a us->wj ds=Z e->∃l:List (Str×Tok),us=strValues l/\l.map (·.1)=e
 |[],a,us,e,r,q,h=>by cases(show a=[]from r);cases q;cases h;exact⟨[],rfl,rfl⟩|d::ds,a,us,e,r,q,h=>by obtain⟨v,p,rfl,i,g⟩:∃v us,a=v::us/\Ô K H d v/\S K H ds us:=r;cases q with|cons k j=>
 cases d<;>try(cases h;done)
 rename_i b;simp only[wj]at h;cases f:wj ds with|none=>rw[f]at h;cases h|some o=>rw[f]at h;cases h;cases(show v=.str b from i);obtain⟨t,rfl⟩:=k;obtain⟨l,n,m⟩:=nY g j f;exact⟨(b,t)::l,by rw[n];rfl,by rw[E_,m]⟩
theorem Gz:œ a "str.join" (Lf a.K):=by intro f' s E H x N v us Q I d j h;obtain⟨i,b,P,ds,ts,rfl,rfl,r,p,o,m,q⟩:=h;obtain⟨t,rfl⟩:=d;obtain⟨u,rfl,g⟩:=iL j;cases g;obtain⟨z,A,n,f,hl,e⟩:=I.lstM r;obtain⟨l,y,w⟩:=nY p f o;subst y;exact SC.join ⟨_,e,rfl,_,rfl⟩ w m λt' k=>⟨.str _,H,I.tok _,⟨_,rfl⟩,q⟩
theorem Lg(i:Str)(g:List Q)(f:List V)(H:Hp)(b:VK)(k:S a.K H g f)(o:ð a H (BM i g) b):Lf a.K (.str i) f H b:=by
 unfold BM at o;split at o
 · rename_i r;split at o
   · rename_i j m;split at o;·rename_i n;obtain⟨w,rfl,e⟩:=eP k;obtain⟨d,h,rfl,q,p⟩:=e.lstE;exact⟨i,d,h,r,j,rfl,rfl,q,p,m,n,o _ H (.refl H) rfl⟩
     ·exact o.elim
   ·exact o.elim
 ·exact o.elim
noncomputable def pb:Str->Ö|x,[.str y]=>if y.length≠0/\x.length<=100000 then Z (.ok (.tup [.str (VN x y).1,.str (VN x y).2.1,.str (VN x y).2.2]))else U|_,_=>U
def Lh:V->List V->Hp->VK->Prop:=λx a H Q=>∃i j,x=.str i/\a=[.str j]/\j.length≠0/\i.length<=sizeLine/\∀p,H p=U->Q (.ref p) (Þ H p (.tup [.str (VN i j).1,.str (VN i j).2.1,.str (VN i j).2.2]))
theorem GA:œ a "str.partition" Lh:=by
 intro f' s p H x xs v us Q I y A h;obtain⟨i,j,rfl,rfl,N,P,q⟩:=h;obtain⟨t,rfl⟩:=y;obtain⟨u,rfl,z⟩:=iL A;obtain⟨w,rfl⟩:=z;have E:(j.length==0)=D:=by simpa using N
 have f:∀(d b c:Str)(n m g:Tok)(k:Nat),VN i j=(d,b,c)->EP a f' p Q (.ref s.heap.objs.size) {s with toks:=k,heap:=s.heap.push {cls:=.type "tuple",data:=.seq [Wh d n,.str b m,.str c g].toArray}}:=λd b c n m g k e=>by rw[e]at q;refine⟨.ref _,_,I.laid (t':=k) (λb u e=>j_ _ e) (pi _) ?_,rfl,q _ I.fresh⟩;exact⟨by show 3<=sizeLine;decide,[Wh d n,.str b m,.str c g],.cons ⟨_,rfl⟩ (.cons ⟨_,rfl⟩ (.cons ⟨_,rfl⟩ .nil)),⟨_,v_ _ rfl,rfl,_,rfl⟩⟩
 refine Xk Zi (Xj _ _ _) F.entry_str_partition (F.args_str_partition_2 _ _) (meets_str_partition i j t w E P) ?_;cases o:Uk i j 0 i.length 1 with|nil=>exact f _ _ _ _ _ _ _ (by unfold VN;rw[o])|cons k r=>exact f _ _ _ _ _ _ _ (by unfold VN;rw[o])
theorem Li(i:Str)(g:List Q)(e:List V)(H:Hp)(b:VK)(h:S a.K H g e)(o:ð a H (pb i g) b):Lh (.str i) e H b:=by
 unfold pb at o;split at o
 · rename_i j;split at o;·rename_i f;obtain⟨w,rfl,d⟩:=eP h;cases(show w=.str j from d);exact⟨i,j,rfl,rfl,f.1,ce f.2,λp k=>o _ _ (aH k _) ⟨p,_,rfl,av,⟨_,_,rfl,rfl,_,_,rfl,rfl,_,_,rfl,rfl,rfl⟩⟩⟩
   ·exact o.elim
 ·exact o.elim
noncomputable def gD:Ö|[.lst a]=>Z (.ok (.tup a))|[.tup a]=>Z (.ok (.tup a))|_=>U
theorem BN(y:Gl a "tuple")(u:a.mg "tuple"=U)(A:FA a (g::w) ν)(z:k_ (g::w) a.env=(D,eval g a.env)::k_ w a.env:=by lk)(j:(TW v (k_ w a.env)).any (·.1)=D:=by lk):FE a (.Call (.Name "tuple" m) (g::w) [] v) (á gD ν):=eC (lX oZ y u (by decide+kernel) A.h (by decide) (by decide) z j) λI H Q q E o=>⟨q,E,è.bind o λds N p P k f=>by
 unfold gD at f;split at f;·rename_i s;obtain⟨d,rfl,r⟩:=eP k;obtain⟨b,e,rfl,h,i⟩:=r.lstE;exact⟨b,e,rfl,.inl ⟨ă.of h,λl n=>f _ _ (aH n _) ⟨l,e,rfl,av,S.mono (aH n _) _ _ i⟩⟩⟩
 ·rename_i s;obtain⟨d,rfl,r⟩:=eP k;obtain⟨b,e,rfl,h,i⟩:=r.tupE;exact⟨b,e,rfl,.inr ⟨ù.of h,f _ p (.refl p) ⟨b,e,rfl,h,i⟩⟩⟩
 ·exact f.elim⟩
def OF(x:Q):List Q->Nat->Option Nat|[],_=>U|y::a,k=>if eqF y x then Z k else OF x a (k+1)
def PC:List Q->Ö|a,[x]=>if lu x&&a.all lu&&t_ (a.length<=100000)then(match OF x a 0 with|some j=>Z (.ok (.int j))|none=>U)else U|_,_=>U
theorem yi{K:d_}{H:Hp}{x:Q}{u:V}(q:Ô K H x u)(n:lu x=L):∀{d:List Q}{b:List V}{k j:Nat},S K H d b->d.all lu=L->OF x d k=Z j->k<=j/\(∃v,b[j-k]?=Z v/\Ō v u=L)/\∀(m:Nat)v,m<j-k->b[m]?=Z v->Ō v u=D
 |[],b,k,j,r,_,h=>by cases h|y::p,b,k,j,r,g,h=>by
  obtain⟨v,P,rfl,A,s⟩:∃v us,b=v::us/\Ô K H y v/\S K H p us:=r;rw[Vu,m_]at g;unfold OF at h;have o:=Eo A q g.1 n;split at h;·rename_i f;cases h;refine⟨pi _,⟨v,by simp,by rw[o];exact f⟩,λm w E=>by omega⟩
  · rename_i f;obtain⟨a,⟨w,N,I⟩,c⟩:=yi q n s g.2 h;refine⟨by omega,⟨w,?_,I⟩,λm z E i=>?_⟩
    · have e:j-k=(j-(k+1))+1:=by omega
      rw[e,Xv];exact N
    ·cases m with|zero=>
      have:z=v:=by simpa using i.symm
      subst this;rw[o];simpa using f|succ m=>exact c m z (by omega) (by simpa using i)
def Lj:V->List V->Hp->VK->Prop:=λx d H Q=>∃a b y j,x=.ref a/\d=[y]/\H a=Z (.lst b)/\jF y=L/\b.all jF=L/\b.length<=100000/\(∃v,b[j]?=Z v/\Ō v y=L)/\(∀(m:Nat)v,m<j->b[m]?=Z v->Ō v y=D)/\Q (.int j) H
theorem Et(r:Ñ η θ)(f:η.all jF=L){m:Nat}{v:V}(h:η[m]?=Z v):∃a:m<θ.length,ľ ψ θ[m]=Ō v ψ:=by obtain⟨u,d,b⟩:=r.get h;obtain⟨a,e⟩:=G_.mp d;refine⟨a,?_⟩;rw[e];exact xS b (Ul.mp f v (TV h))
theorem BO:œ a "list.index" Lj:=by
 intro f' s σ H x xs v us Q I A N h;obtain⟨b,r,y,j,rfl,rfl,h1,fy,g,hz,⟨w,P,p⟩,k,q⟩:=h;cases A;obtain⟨u,rfl,E⟩:=iL N;obtain⟨z,i,n,f,hl,e⟩:=I.lstM h1;obtain⟨hj,ej⟩:=Et (ψ:=y) f g P;refine Xk Zj ⟨_,e,rfl⟩ PySem.F.entry_list_index (PySem.F.args_list_index_2 _ _) (SeqAt.list_indexAt b i.toArray n U #[] u (ľ y) j (by simpa using hj) (by omega) (by simpa[ej]using p) λm hm o=>?_) ⟨e,λt ht=>jn E fy f g t (by simpa using ht),⟨.int j,H,I.tok _,⟨_,rfl⟩,q⟩⟩;have d:m<r.length:=by rw[f.length];simpa using hm
 obtain⟨a',em⟩:=Et (ψ:=y) f g (F_ d);have:=k m r[m] o (F_ d);simpa[em]using this
def fML(g:List Q->Ö)(e:Ò)(d:à):Ò:=λa=>Ù (e a) λx=>match x with|.lst i=>Ù (d a) λb=>g i b|_=>U
theorem BP(ho:FE a u y)(ha:FA a (g::w) ν)(n:Uy u "index" a.env (eval u a.env)=eval u a.env:=by lk)(r:((TW v (k_ (g::w) a.env)).all (λx=>!x.1)&&(Vy v (UN [] a.env)).all (λx=>x.1.isSome)&&t_ ((g::w).length+([]:List VI).length+(if([]:List VI).isEmpty then 0 else 1)<30))=L:=by lk)(k:(m.endLine==v.line)=L:=by lk)(hs:k_ (g::w) a.env=(D,eval g a.env)::k_ w a.env:=by lk)(h:(TW v (k_ w a.env)).any (·.1)=D:=by lk):FE a (.Call (.Attribute u "index" m) (g::w) [] v) (fML PC y ν):=eC (BB Wj Zj PySem.F.type_list_index BO ho.h ha.h n r k hs h) λσ H Q s E u=>⟨s,E,ð.bind u λd f H1 e1 rd A=>by
 cases d<;>try exact(show False from A).elim
 rename_i ds;obtain⟨e,z,rfl,N,I⟩:=rd.lstE;refine⟨.inl ⟨rfl,z,ă.of N⟩,s,E.mono e1,è.bind A λw ws H2 P rs i=>?_⟩;unfold PC at i;split at i
 · rename_i x;split at i
   · rename_i o;rw[m_,m_]at o;split at i;·rename_i j hj;obtain⟨b,rfl,p⟩:=eP rs;have q:=S.mono P _ _ I;obtain⟨c1,c2,c3⟩:=yi p o.1.1 q o.1.2 hj;refine⟨e,z,b,j,rfl,rfl,P _ _ N,sV p o.1.1,o6 q o.1.2,by rw[I.length];exact of_decide_eq_true o.2,by simpa using c2,by simpa using c3,i _ H2 (.refl H2) rfl⟩
     ·exact i.elim
   ·exact i.elim
 ·exact i.elim⟩
structure FG(X:C)(tg:s_)(b:Q->Ev->Option Ev):Prop where h:∀(f':List (O×Obj))(s:ge)(σ:L2.St)(H:Hp)(v:V)(u:B)(d:Q)(ρ ρ':Ev),Í X f' σ H s->Ø v u->Ô X.K H d v->Ü X.K H σ ρ->b d ρ=Z ρ'->u_ (D_ X.prog X.w) X.A (Wf tg X.env u) (λ_ s'=>∃σ' H',Í X f' σ' H' s'/\Ð H H'/\Ü X.K H' σ' ρ') X.xe s
noncomputable def gN(i:Nat):Q->Ev->Option Ev:=λd a=>Z (a.set i (Z d))
noncomputable def gP(i j:Nat):Q->Ev->Option Ev:=λd b=>match d with|.tup [a,c]=>Z ((b.set i (Z a)).set j (Z c))|_=>U
theorem GB(i:Nat){x:Str}(o:a.N.Nodup)(k:a.N[i]?=Z x)(j:Ł a.env.scope x)(n:a.fn x=L\/a.env.scope.names.lookup x=Z .local):FG a (.Name x m) (gN i):=⟨λp s f H v u d A z I r h E e=>by cases e;exact ã (gL o k j n p s f H v u (λb g=>g=H/\b=f.set i (Z v)) I r ⟨rfl,rfl⟩) λ_ N⟨b,g,y,w,q⟩=>by subst w q;exact⟨_,_,y,.refl _,E.set h⟩⟩
theorem yj(i j:Nat){x y:Str}{k:Nat}(hc:a.calm=L)(z:a.N.Nodup)(hi:a.N[i]?=Z x)(hx:Ł a.env.scope x)(hf:a.fn x=L\/a.env.scope.names.lookup x=Z .local)(hj:a.N[j]?=Z y)(hy:Ł a.env.scope y)(hg:a.fn y=L\/a.env.scope.names.lookup y=Z .local)(p:(TZ [.Name x v,.Name y Τ] a.env).map (·.2)=Wf (.Name x v) a.env::(TZ [.Name y Τ] a.env).map (·.2):=by lk)(o:(TZ [.Name y Τ] a.env).map (·.2)=Wf (.Name y Τ) a.env::(TZ [] a.env).map (·.2):=by lk)(hn:(TZ [.Name x v,.Name y Τ] a.env).length=2:=by lk)(n:(TZ [.Name x v,.Name y Τ] a.env).findIdx? (·.1)=U:=by lk):FG a (.Tuple [.Name x v,.Name y Τ] k m) (gP i j):=⟨λf' s q H b u d ρ a' I r N E e=>by
 unfold gP at e;split at e;·rename_i f c;cases e;obtain⟨ad,xs,rfl,h1,h2⟩:=N.tupE;obtain⟨w,h,rfl,ra,P⟩:=Gk h2;refine ã (D4 (k:=2) hc (oR (gL (b:=i) z hi hx hf) (oR (gL (b:=j) z hj hy hg) xx o) p) hn n f' s q H _ u (λg A=>A=H/\g=(q.set i (Z w)).set j (Z h)) I r ⟨ad,_,rfl,ù.of h1,rfl,w,[h],rfl,h,[],rfl,rfl,rfl,rfl⟩) λ_ s'⟨g,A,I',e1,e2⟩=>?_;subst e1 e2;exact⟨_,_,I',.refl _,(E.set ra).set P⟩
 ·cases e⟩
structure ſ(K:d_)(J:It)(ds:List Q)(H0:Hp):Prop where
 go:∀i H,Ð H0 H->i<ds.length->J.go i H
 stop:∀H,Ð H0 H->J.stop ds.length H
 yld:∀i H x H',Ð H0 H->i<ds.length->J.yld i H x H'->Ð H H'/\∃d,ds[i]?=Z d/\Ô K H' d x
theorem Wk.toG{J:It}(w:Wk q J E h):ſ q J E h:=⟨w.go,w.stop,λi H x g e a y=>by obtain⟨rfl,d,f,b⟩:=w.yld i H x g e a y;exact⟨.refl _,d,f,b⟩⟩
def ī(X:C)(H:Hp)(o:Option (Rs (List Q)))(R:It->Hp->Prop):Prop:=match o with|none=>False|some (.exc c)=>XW X c H|some (.ok ds)=>∀J a,Ð H a->ſ X.K J ds a->R J a
theorem ī.mono{R:It->Hp->Prop}(e:Ð h Β):∀{o:Option (Rs (List Q))},ī a h o R->ī a Β o R|none,b=>b|some (.exc _),b=>XW.mono b e|some (.ok _),b=>λv f d r=>b v f (e.trans d) r
structure ŗ(X:C)(tg iter:s_)(f:à):Prop where h:PI X tg iter λσ H R=>∃ρ,Ü X.K H σ ρ/\ī X H (f ρ) R
theorem FI.toG(h:FI a g u ν):ŗ a g u ν:=⟨λf s d H R I⟨b,E,o⟩=>h.h f s d H R I ⟨b,E,by match j:ν b,o with|some (.exc c),o=>exact o|some (.ok ds),o=>exactλJ i e w=>o J i e w.toG⟩⟩
noncomputable def iM(m:Nat)(b:List (Str×Nat))(a:Ev):Ev:=N_ m U++b.map λc=>(a[c.2]?).join
noncomputable def kH(b:Q->Ev->Option Ev)(a:Option æ)(e:Ò)(f:Ev):List Q->Option (List Q)|[]=>Z []|d::ds=>match b d f with|none=>U|some g=>match(match a with|none=>(Z (.ok L):Option (Rs Bool))|some t=>t g)with|some (.ok L)=>(match e g with|some (.ok y)=>(match kH b a e f ds with|some h=>Z (y::h)|none=>U)|_=>U)|some (.ok D)=>kH b a e f ds|_=>U
noncomputable def l8(m:Nat)(b:List (Str×Nat))(a:L2.St):L2.St:=N_ m U++b.map λc=>(a[c.2]?).join
theorem mf{l:List (Option ε)}(h:(N_ b (U:Option ε)++l)[k]?=Z (Z Ë)):∃a,k=b+a/\l[a]?=Z (Z Ë):=by
 by_cases d:k<b;·rw[I_ (by simpa using d),Wp,if_pos d]at h;cases h
 ·refine⟨k-b,by omega,?_⟩;rw[K_ (by simpa using d)]at h;simpa using h
theorem yk(m:Nat)(g:List (Str×Nat))(E:Ü q h Ι δ):Ü q h (l8 m g Ι) (iM m g δ):=by refine⟨by simp[l8,iM],λi d b=>?_⟩;obtain⟨k,rfl,e⟩:=mf b;rw[L_]at e;cases f:g[k]? with|none=>rw[f]at e;simp at e|some c=>
 rw[f]at e;simp only[VY,WP]at e;have p:δ[c.2]?=Z (Z d):=by cases a:δ[c.2]? with|none=>rw[a]at e;simp at e|some o=>rw[a]at e;simp at e;rw[e]
 obtain⟨v,n,j⟩:=E.at' c.2 d p;refine⟨v,?_,j⟩;unfold l8;rw[K_ (by simp)];simp only[U8,Zp,L_,f,VY,n];rfl
theorem qU{R:aaG->ge->Prop}{a':B}{d:Env}(I:Nat->ge->Prop)(b':∀n f,I n f->u_ (D_ s r) N (Yj ω) (λa y=>match a with|none=>R (.ok .next) y|some v=>u_ (D_ s r) N (Yl u ω v) (λ_ H=>u_ (D_ s r) N (Wf u d v) (λ_ E=>u_ (D_ s r) N (V' w L λc a=>if a=L then do let ok<-isTrue c d (eval c d);pure (WF ok)else pure (WF a)) (λok q=>if ok=L then u_ (D_ s r) N (eval g d) (λx p=>u_ (D_ s r) N (call (.builtin "list.append") [a',x]) (λ_ o=>∃b,b<n/\I b o) (aaM (D_ s r) N d λe k=>R (.error e) k) p) (aaM (D_ s r) N d λe k=>R (.error e) k) q else∃b,b<n/\I b q) (aaM (D_ s r) N d λe k=>R (.error e) k) E) (aaM (D_ s r) N d λe k=>R (.error e) k) H) (aaM (D_ s r) N d λe k=>R (.error e) k) y) (aaM (D_ s r) N d λe k=>R (.error e) k) f)(n:Nat)(h:I n f):WN (D_ s r) N (.compLoop (.ListComp g [⟨u,Á,w,0⟩] ξ m) 0 ω a' d) R f:=by refine codeAny_loop rfl I (λn f hI=>?_) n h;show u_ _ N ((compTurn (.ListComp g [⟨u,Á,w,0⟩] ξ m) 0 ω a' d).onRaise (λx=>do aa9 x d;theTreesLotGoes x)) _ _ f;refine wpAny_noted ?_;rw[compTurn_list];refine e_ (aat (e_ (Uj (b' n f hI) (λa y P=>?_) λ_ _ j=>j)));cases a with|none=>exact l_ P|some v=>refine e_ (Uj P (λ_ H d'=>?_) λ_ _ j=>j);refine e_ (Uj d' (λ_ E c'=>e_ (Uj c' (λok q i=>?_) λ_ _ j=>j)) λ_ _ j=>j);cases ok with
 |false=>rw[if_neg A_]at i;first|exact e_ (l_ (l_ ⟨rfl,i⟩))|exact l_ ⟨rfl,i⟩|(show u_ _ _ (again _) _ _ _;exact l_ ⟨rfl,i⟩)
 |true=>rw[if_pos rfl]at i;first|exact e_ (e_ (Uj i (λx p A=>e_ (Uj A (λ_ o z=>l_ (l_ ⟨rfl,z⟩)) λ_ _ j=>j)) λ_ _ j=>j))|exact e_ (Uj i (λx p A=>e_ (Uj A (λ_ o z=>l_ ⟨rfl,z⟩) λ_ _ j=>j)) λ_ _ j=>j)
def c6(m:Nat)(h:List (Str×Nat))(d:à)(b:Q->Ev->Option Ev)(a:Option æ)(e:Ò):Ò:=λf=>Ù (d f) λds=>match kH b a e (iM m h f) ds with|some g=>if g.length<=100000/\ds.length<=100000 then Z (.ok (.lst g))else U|none=>U
theorem PD{i:List (Str×Nat)}{a:Q->Ev->Option Ev}{d:Option æ}{o:Rs Q}(h:c6 b i ν a d y δ=Z o):(∃c,ν δ=Z (.exc c)/\o=.exc c)\/∃ds e,ν δ=Z (.ok ds)/\kH a d y (iM b i δ) ds=Z e/\ds.length<=100000/\e.length<=100000/\o=.ok (.lst e):=by unfold c6 at h;match g:ν δ with|none=>rw[g]at h;cases h|some (.exc c)=>rw[g]at h;cases h;exact .inl ⟨c,rfl,rfl⟩|some (.ok ds)=>rw[g]at h;dsimp only[Ù]at h;match f:kH a d y (iM b i δ) ds with
 |none=>rw[f]at h;cases h|some e=>
 rw[f]at h;dsimp only at h;split at h;·rename_i j;cases h;exact .inr ⟨ds,e,rfl,f,j.2,j.1,rfl⟩
 ·cases h
theorem Ll(e:List (Str×Nat))(b:Ev)(d:Q)(a:Ev)(h:gN 0 d (iM 1 e b)=Z a):fgt [0] a=iM 1 e b:=by cases h;rfl
theorem PF(e:List (Str×Nat))(b:Ev)(d:Q)(a:Ev)(h:gP 0 1 d (iM 2 e b)=Z a):fgt [0,1] a=iM 2 e b:=by
 unfold gP at h;split at h;·cases h;rfl
 ·cases h
def Ite(K:d_)(a:O):It:=⟨λi H=>∃b x,ă K H a b/\b[i]?=Z x,λi H v d=>∃p x,v=.ref p/\H p=U/\d=Þ H p (.tup [.int i,x])/\∀b,ă K H a b->b[i]?=Z x,λi H=>∃b,ă K H a b/\b.length<=i⟩
theorem ym(a e A:O)(e':e≠A):w6 s r q (.Tuple w b m) (Ite q a) [e,A] e (λi h=>(∃N,IsEnum h e A i N)/\h.IsListIter A a i)where
 mem:=by simp
 obj:=λi h st f P=>by
  obtain⟨⟨N,he⟩,o,e2,c,d⟩:=st;have n':f=e\/f=A:=by simpa using P
  rcases n' with rfl|rfl;·exact⟨_,he,λv z=>by cases z⟩
  ·exact⟨o,e2,λv z=>by rw[d]at z;cases z⟩
 keep:=λi h h' st kk=>by obtain⟨⟨N,he⟩,a'⟩:=st;exact⟨⟨N,kk e (by simp) _ he⟩,a'.at λo ee=>kk A (by simp) o ee⟩
 item:=by
  intro X hP hw hK hc i f' j σ H E I hf st hg;subst hP hw hK;obtain⟨xs,x,hq,hx⟩:=hg;obtain⟨l',rv,p,hz⟩:=I.list hq;obtain⟨u,hu,ru⟩:=rv.get hx;obtain⟨⟨N,he⟩,a'⟩:=st;obtain⟨f0,f1,R,f3,f4,f5⟩:=hf e (by simp);obtain⟨g0,g1,g2,g3,g4,g5⟩:=hf A (by simp);refine wpAny_pyNext_enum_item he a' p.isList (x:=u) (by simpa using hu) e' λh' eo k' tp sz kk=>?_;refine⟨_,rfl,wpAny_letOwnedTupleGo_enum eo λh2 m' c'=>?_⟩;have hp:H j.heap.objs.size=U:=I.hok.fresh (pi _);have g':e<j.heap.objs.size:=y_ he;have k2:∀f o,f∉[e,A]->j.heap.get? f=Z o->h2.get? f=Z o:=λf o P g=>c'.extBut f o (λz=>P (by simp[z])) (kk f o (λz=>P (by simp[z])) (λz=>P (by simp[z])) g);have i':h2.get? j.heap.objs.size=Z {cls:=.type "tuple",data:=.seq #[.int i j.toks,u]}:=c'.extBut _ _ (W3 g') tp;have I1:Í X f' σ (Þ H j.heap.objs.size (.tup [.int i,x])) {j with heap:=h2,toks:=j.toks+1}:=by
   have nt:∀f u,H f=Z u->f∉[e,A]:=λf u g z=>by
    have z':f=e\/f=A:=by simpa using z
    rcases z' with rfl|rfl;·rw[f0]at g;cases g
    ·rw[g0]at g;cases g
   refine I.step (g':=j.gens) (d':=j.drawn) (ch:=[e,A]) (λf P=>?_) (λf o _ _ b' g _=>k2 f o b' g) (λf o _ _ b' g _=>⟨o.slots,k2 f o b' g⟩) (λf o b' g n=>?_) (λf o b' g=>⟨o,k2 f o b' g⟩) (λf ys g=>by rw[ax (aE g hp)];exact g) (λf o ys g=>by rw[ax (aE g hp)];exact g) (λf ps g=>⟨#[],by rw[ax (aE g hp),g];simp⟩) (λy hm=>?_) (λf u2 g=>?_) I.bare
   · have z':f=e\/f=A:=by simpa using P
     rcases z' with rfl|rfl;·exact⟨f3,f1,f4,f5⟩
     ·exact⟨g3,g1,g4,g5⟩
   ·rw[ax (TY (y_ g))];exact n
   ·obtain⟨o,o',ep,ho,k⟩:=hm;exact⟨o,o',ep,k2 _ o (λz=>by
      have z':X.env.locals=e\/X.env.locals=A:=by simpa using z
      rcases z' with z'|z';·exact f1 z'.symm
      ·exact g1 z'.symm) ho,k⟩
   · by_cases P:f=j.heap.objs.size;·subst P;rw[av]at g;cases g;exact⟨by show 2<=sizeLine;decide,[.int i j.toks,u],.cons ⟨_,rfl⟩ (.cons ru .nil),⟨_,i',rfl,_,rfl⟩⟩
     · rw[ax P]at g;refine(I.hok f u2 g).stay (λc v d' qq=>k2 c v ?_ qq) (λc qq=>by rw[ax (aE qq hp)];exact qq) λc ys qq=>by rw[ax (aE qq hp)];exact qq
       rcases d' with rfl|d';·exact nt _ _ g
       ·exact nt _ _ d'
  refine⟨.ref j.heap.objs.size,_,I1,rfl,⟨_,x,rfl,hp,rfl,λzs hy=>by rw[I.list_inj hy hq];exact hx⟩,⟨⟨_,by simpa using m'⟩,?_⟩,λf P=>?_⟩;·exact k'.at λo g=>c'.extBut _ _ (Uq e') g
  · have z':f=e\/f=A:=by simpa using P
    rcases z' with rfl|rfl;·rw[ax (TY g')];exact f0
    ·obtain⟨o,g,_⟩:=id a';rw[ax (TY (y_ g))];exact g0
 done:=by intro X hP hw hK hc i f' j σ H E I hf st hg;subst hP hw hK;obtain⟨xs,hq,hx⟩:=hg;obtain⟨l',rv,p,hz⟩:=I.list hq;obtain⟨⟨N,he⟩,a'⟩:=st;obtain⟨g0,g1,g2,g3,g4,g5⟩:=hf A (by simp);have hl:=rv.length;exact wpAny_pyNext_enum_end (I.ok.hd hc) he a' p.isList (by simp;omega) λh' eb=>⟨rfl,I.turned (t':=j.toks) (λf o P e=>eb f o P e) g0 g1 g3 g4 g5⟩
 self:=λ_ _ _ _ _ st h=>by obtain⟨⟨N,he⟩,_⟩:=st;exact wpAny_pyIter_enum he h
noncomputable def kJ:Nat->List Q->List Q|_,[]=>[]|k,d::ds=>.tup [.int k,d]::kJ (k+1) ds
theorem iR:∀(ds:List Q)(k:Nat),(kJ k ds).length=ds.length|[],_=>rfl|d::ds,k=>by show(kJ (k+1) ds).length+1=ds.length+1;rw[iR]
theorem qV:∀(ds:List Q)(k i:Nat)(d:Q),ds[i]?=Z d->(kJ k ds)[i]?=Z (.tup [.int ((k+i:Nat):Int),d])
 |[],_,_,_,h=>by simp at h|d::ds,k,0,a,h=>by simp at h;subst h;rfl|d::ds,k,i+1,a,h=>by
  have q:=qV ds (k+1) i a (by simpa using h);show(Q.tup [.int k,d]::kJ (k+1) ds)[i+1]?=_;rw[Xv,q];have e:k+1+i=k+(i+1):=by omega
  rw[e]
theorem GC(b:h e=Z (.lst η))(r:S q h E η):ſ q (Ite q e) (kJ 0 E) h where
 go:=λi k a g=>by
  rw[iR]at g;have m:i<η.length:=by rw[r.length];exact g
  exact⟨η,η[i],ă.of (a _ _ b),by simp[m]⟩
 stop:=λk a=>⟨η,ă.of (a _ _ b),by rw[r.length,iR];exact pi _⟩;yld:=λi k v s a g y=>by obtain⟨p,x,rfl,j,rfl,y⟩:=y;obtain⟨d,o,n⟩:=S.get (S.mono a _ _ r) (y η (ă.of (a _ _ b)));have f:=qV E 0 i d o;rw[Wz]at f;exact⟨aH j _,_,f,⟨p,_,rfl,av,⟨.int i,[x],rfl,rfl,x,[],rfl,Ô.mono (aH j _) _ _ n,rfl⟩⟩⟩
def BQ:List Q->Option (Rs (List Q))|[.lst ds]=>Z (.ok (kJ 0 ds))|_=>U
theorem BR(hg:Gl a "enumerate")(hm:a.mg "enumerate"=U)(ha:FA a [g] ν)(hs:k_ [g] a.env=[(D,eval g a.env)]:=by lk):ŗ a (.Tuple w b m) (.Call (.Name "enumerate" v) [g] [] Τ) (λn=>Ù (ν n) BQ):=by
 constructor;intro f' s P H R I h;obtain⟨n,E,o⟩:=h;have key:è a H (ν n) λr z=>∃ds,S a.K z ds r/\ī a z (BQ ds) R:=by match hf:ν n,o with|some (.exc c),o=>exact o|some (.ok ds),o=>exactλr z e y=>⟨ds,y,ī.mono e o⟩
 refine Call_ (iP I hg hm (show Vb "enumerate"=Z (.type "enumerate")by decide+kernel) (UC (ã (ha.h Τ f' s P H _ I ⟨n,E,key⟩) λus j⟨r,q,k,r1,ds,y,p⟩=>?_) hs rfl));unfold BQ at p;split at p
 · rename_i xs;obtain⟨i,rfl,rv⟩:=eP y;obtain⟨f,ws,rfl,h1,h2⟩:=rv.lstE;obtain⟨u,rfl,ru⟩:=iL r1;cases ru;obtain⟨b',a',pl,hz⟩:=k.list (ă.of h1);refine call_enumerate_list pl.isList λh' he A c' kk=>?_;refine wpAny_pyIter_enum he ?_;have I2:Í a f' P q {j with heap:=h'}:=k.kept (t':=j.toks) kk;refine⟨j.heap.objs.size+1,[j.heap.objs.size+1,j.heap.objs.size],_,Ite a.K f,q,rfl,I2,ym f _ _ (Nat.succ_ne_self _),⟨⟨_,he⟩,A⟩,λd hb=>?_,p _ q (.refl q) (GC h1 h2)⟩;have N:d=j.heap.objs.size+1\/d=j.heap.objs.size:=by simpa using hb
   rcases N with rfl|rfl;·exact k.fpOk (Y6 _) (k.hok.fresh (Y6 _))
   ·exact k.fpOk (pi _) (k.hok.fresh (pi _))
 ·exact p.elim
noncomputable def PH:List Nat->List V->L2.St->L2.St|i::is,v::b,a=>PH is b (a.set i (Z v))|_,_,a=>a
noncomputable def OG:List Nat->List Q->Ev->Ev|i::is,d::ds,a=>OG is ds (a.set i (Z d))|_,_,a=>a
def GD(b:List Nat):Ź:=λa d H Q=>a.length=b.length/\Q (PH b a d) H
theorem uQ{t f:Ź}(h:Ř a w t)(b:∀e d H Q,f e d H Q->t e d H Q):Ř a w f:=λg s d H e us Q I r q=>h g s d H e us Q I r (b e d H Q q)
theorem Lm:Ř a [] (GD []):=uQ xx λb d H Q⟨l,q⟩=>by cases b with|nil=>exact⟨rfl,q⟩|cons v r=>cases l
theorem GE(i:Nat){x:Str}{d:List Nat}{b:List s_}(o:a.N.Nodup)(k:a.N[i]?=Z x)(g:Ł a.env.scope x)(n:a.fn x=L\/a.env.scope.names.lookup x=Z .local)(h:Ř a b (GD d))(j:(TZ (.Name x m::b) a.env).map (·.2)=Wf (.Name x m) a.env::(TZ b a.env).map (·.2):=by lk):Ř a (.Name x m::b) (GD (i::d)):=uQ (oR (gL (b:=i) o k g n) h j) λf e H Q⟨l,q⟩=>by cases f with|nil=>cases l|cons v r=>exact⟨v,r,rfl,(⟨Nat.succ.inj l,q⟩:GD d r (e.set i (Z v)) H Q)⟩
theorem Ü.setAll{K:d_}{H:Hp}:∀(is:List Nat){ds:List Q}{a:List V}{b:L2.St}{e:Ev},Ü K H b e->S K H ds a->Ü K H (PH is a b) (OG is ds e)|[],_,_,_,_,E,_=>E|_::_,[],a,_,_,E,r=>by cases(show a=[]from r);exact E|i::is,d::ds,a,b,e,E,r=>by obtain⟨v,us,rfl,h,t⟩:∃v us,a=v::us/\Ô K H d v/\S K H ds us:=r;exact Ü.setAll is (E.set h) t
def SN(a:List Nat)(b:Ev):Q->Option Fl|.tup ds=>if ds.length=a.length then Z (.nx (OG a ds b))else U|_=>U
def Ln(b:List Nat)(f:Ò):Û:=λa=>c5 (f a) (SN b a)
theorem Lo{j:List Nat}(hc:a.calm=L)(h:Ř a w (GD j))(he:FE a g y)(hn:(TZ w a.env).length=j.length:=by lk)(u:(TZ w a.env).findIdx? (·.1)=U:=by lk)(P:aav [.Tuple w b v] g m.line a.env=pure D:=by lk)(N:aaw [.Tuple w b v] g a.env=pure U:=by lk)(q:(TZ [.Tuple w b v] a.env).map (·.2)=[Wf (.Tuple w b v) a.env]:=by lk):FS a (.Assign [.Tuple w b v] g m) (Ln j y):=sQ (D8 he.h (D4 (k:=j.length) hc h hn u) P N q) λf σ H z E o=>⟨z,E,ð.bindS o λd i s g r A=>by cases d with
 |tup ds=>
 have k:ø a s (if ds.length=j.length then Z (.nx (OG j ds z))else U) f:=A;by_cases n:ds.length=j.length;·rw[if_pos n]at k;obtain⟨e,I,rfl,q,p⟩:=r.tupE;exact⟨e,I,rfl,ù.of q,p.length.trans n,p.length.trans n,k _ s (.refl s) (Ü.setAll j (E.mono g) p)⟩
 ·rw[if_neg n]at k;exact k.elim|_=>exact A.elim⟩
theorem ay{b:Û}{a:Ev}(h:Ρ δ=Z (.nx a)):aK Ρ b δ=b a:=by unfold aK;rw[h];rfl
theorem mh{b:Û}(h:Ρ δ=Z (.rt j)):aK Ρ b δ=Z (.rt j):=by unfold aK;rw[h];rfl
theorem cp(h:Μ δ=Z (.ok D)):br Μ Ρ (λδ=>Z (.nx δ)) δ=Z (.nx δ):=by unfold br;rw[h];rfl
theorem bV{a:Ev}(h:y δ=Z (.ok j))(e:δ.set b (Z j)=a):cy b y δ=Z (.nx a):=by unfold cy;rw[h,<-e];rfl
theorem lG(h:y δ=Z (.ok j)):eD y δ=Z (.nx δ):=by unfold eD;rw[h];rfl
theorem eQ(h:y δ=Z (.ok j)):aL y δ=Z (.rt j):=by unfold aL;rw[h];rfl
theorem PJ{b:æ}(h:Μ δ=Z (.ok D)):Ĉ Μ b δ=b δ:=by unfold Ĉ;rw[h];rfl
theorem yn{b:æ}(h:Μ δ=Z (.ok L)):l7 Μ b δ=b δ:=by unfold l7;rw[h];rfl
theorem yo{b:æ}(h:Μ δ=Z (.ok D)):l7 Μ b δ=Z (.ok D):=by unfold l7;rw[h];rfl
theorem kK(h:Μ δ=Z (.ok H)):cF Μ δ=Z (.ok (!H)):=by unfold cF;rw[h];rfl
theorem bi(h:y δ=Z (.ok (.bl H))):fB y δ=Z (.ok H):=by unfold fB;rw[h];rfl
theorem bb{g:Q->Q->Option (Rs Q)}(b:y δ=Z (.ok j))(a:É δ=Z (.ok μ)):R g y É δ=g j μ:=by unfold R;rw[b,a];rfl
theorem ae(h:y δ=Z (.ok j))(t:ν δ=Z (.ok E)):aP y ν δ=Z (.ok (j::E)):=by unfold aP;rw[h,t];rfl
theorem au:bZ δ=Z (.ok []):=rfl
theorem pc(h:ν δ=Z (.ok E))(a:E.length=b)(d:À E=Z (.ok j)):ag À b ν δ=Z (.ok j):=by unfold ag;rw[h];show(if _ then _ else _)=_;rw[if_pos a,d]
theorem fK(F:Ö){f:Ò}{b:Ev}{a d:Q}(h:f b=Z (.ok a))(e:F [a]=Z (.ok d)):ag F 1 (aP f bZ) b=Z (.ok d):=pc (ae h au) rfl e
theorem gO(F:Ö){f g:Ò}{e:Ev}{a b d:Q}(h:f e=Z (.ok a))(j:g e=Z (.ok b))(i:F [a,b]=Z (.ok d)):ag F 2 (aP f (aP g bZ)) e=Z (.ok d):=pc (ae h (ae j au)) rfl i
theorem jG(h:ν δ=Z (.ok E))(a:E.length<=100000):eI ν δ=Z (.ok (.tup E)):=by unfold eI;rw[h];show(if _ then _ else _)=_;rw[if_pos a]
theorem Lq(h:y δ=Z (.ok (.bl D))):ĳ y É δ=É δ:=by unfold ĳ;rw[h];rfl
theorem Lr(h:y δ=Z (.ok (.bl L))):ĳ y É δ=Z (.ok (.bl L)):=by unfold ĳ;rw[h];rfl
theorem Eu(h:y δ=Z (.ok (.bl L))):jU y É δ=É δ:=by unfold jU;rw[h];rfl
theorem dg(h:ν δ=Z (.ok E)):á À ν δ=À E:=by unfold á;rw[h];rfl
theorem PK(h:Μ δ=Z (.ok L)):Ŀ Μ y É δ=y δ:=by unfold Ŀ;rw[h];rfl
theorem PM(h:Μ δ=Z (.ok D)):Ŀ Μ y É δ=É δ:=by unfold Ŀ;rw[h];rfl
theorem yp(h:ν δ=Z (.ok E))(a:E.length<=100000):gB ν δ=Z (.ok (.lst E)):=by unfold gB;rw[h];show(if _ then _ else _)=_;rw[if_pos a]
theorem iI(h:Ρ (E.map Z++N_ (b-E.length) U)=Z (.rt j)):bM b Ρ E=Z (.ok j):=by unfold bM;rw[h]
structure Aft(X:C)(e:O)(Ts:List O)(h h':TC):Prop where
 keep:∀b o,h.get? b=Z o->b≠e->b∉Ts->b∉frs X.stack->h'.get? b=Z o
 slot:∀b o,h.get? b=Z o->b∈frs X.stack->∃sl,h'.get? b=Z {o with slots:=sl}
theorem Aft.any{h:TC}(A:Aft a e ο h I){b:O}{o:Obj}(q:h.get? b=Z o)(i:b≠e)(g:b∉ο):∃f,I.get? b=Z {o with slots:=f}:=by
 by_cases d:b∈frs a.stack;·exact A.slot b o q d
 ·exact⟨o.slots,A.keep b o q i g d⟩
theorem Í.aft(g:Í a P Ι h f)(A:Aft a e ο f.heap I)(b':a.ex=[])(N:∀b,b=e\/b∈ο->h b=U/\a.s₀.heap.get? b=U/\(∀p∈a.pn++P,p.1≠b)/\∃o H,f.heap.get? b=Z o/\o.data=.fields H):Í a P Ι h {f with heap:=I}:=by
 have nE:∀b,h b≠U->b≠e/\b∉ο:=λb s=>⟨λz=>s (N b (.inl z)).1,λz=>s (N b (.inr z)).1⟩;have n0:∀b o,a.s₀.heap.get? b=Z o->b≠e/\b∉ο:=λb o s=>⟨λz=>(by simp:(Z o:Option Obj)≠U) (s.symm.trans (N b (.inl z)).2.1),λz=>(by simp:(Z o:Option Obj)≠U) (s.symm.trans (N b (.inr z)).2.1)⟩;have nx:∀b,b∉a.ex:=λb=>by rw[b'];simp
 have nD:∀b o,f.heap.get? b=Z o->(∀H,o.data≠.fields H)->b≠e/\b∉ο:=λb o s hd=>
  have go:(b=e\/b∈ο)->False:=λz=>by obtain⟨o',H,q,d⟩:=(N b z).2.2.2;rw[s]at q;cases q;exact hd H d
  ⟨λz=>go (.inl z),λz=>go (.inr z)⟩;have nS:∀b∈frs a.stack,h b=U:=g.stkFree;have E:∀c v,f.heap.IsCell c v->I.IsCell c v:=λc v⟨o,ho,hd⟩=>by
  obtain⟨y,w⟩:=nD c o ho λH q=>by rw[hd]at q;cases q
  obtain⟨sl,q⟩:=A.any ho y w;exact⟨_,q,hd⟩
 refine⟨g.ok,g.os,g.bare,⟨λb o q n s hx=>?_,λb o q n s hx=>?_,g.base.free,λb o q hx=>?_,g.base.tups,g.base.frzs,g.base.tbls⟩,?_,λx c q=>?_,g.free,g.freeC,λp hp=>?_,λj o q=>?_,g.len⟩
 · have h1:=g.base.keep b o q n s hx;obtain⟨y,w⟩:=n0 b o q;refine A.keep b o h1 y w λz=>?_;rcases uk.mp (g.stkSub b z)with z|z;·exact absurd z (TY (TJ (y_ q) g.ok.above))
   ·exact s z
 ·obtain⟨sl,h1⟩:=g.base.slot b o q n s hx;obtain⟨y,w⟩:=n0 b o q;obtain⟨a',h2⟩:=A.any h1 y w;exact⟨a',h2⟩
 ·obtain⟨o',h1⟩:=g.base.there b o q hx;obtain⟨y,w⟩:=n0 b o q;obtain⟨sl,h2⟩:=A.any h1 y w;exact⟨_,h2⟩
 · obtain⟨m,⟨o,es,ep,ho,hd,r⟩,hl⟩:=g.loc;obtain⟨y,w⟩:=nD _ o ho λH q=>by rw[hd]at q;cases q
   obtain⟨sl,q⟩:=A.any ho y w;refine⟨m,⟨_,es,ep,q,hd,r⟩,λi x v e1 e2 e3=>?_⟩;obtain⟨u,ru,l⟩:=hl i x v e1 e2 e3;refine⟨u,ru,?_⟩;rcases l with l|⟨k,c,ec,z⟩;·exact .inl l
   ·exact .inr ⟨k,c,ec,E c _ z⟩
 ·obtain⟨v,z⟩:=g.cell x c q;exact⟨v,E c v z⟩
 · obtain⟨q,n,ne,nf,d⟩:=g.pin p hp;have y:p.1≠e:=(N e (.inl rfl)).2.2.1 p hp;have w:p.1∉ο:=λz=>(N p.1 (.inr z)).2.2.1 p hp rfl;refine⟨A.keep p.1 p.2 q y w λz=>?_,n,ne,nf,d⟩;rcases uk.mp (g.stkSub _ z)with z|z;·exact ne z
   ·exact nf z
 · refine(g.hok j o q).stay (λb u s hu=>?_) (λ_ z=>z) λ_ _ z=>z;have hn:h b≠U:=by
    rcases s with rfl|s;·rw[q];simp
    ·rw[s];simp
   exact A.keep b u hu (nE b hn).1 (nE b hn).2 λz=>hn (nS b z)
abbrev Ľ(X:C)(e:O)(a:List O)(h:TC):TC:=abv h (e::(a++frs X.stack))
theorem uR(g:Í a P Ι h f)(k:(Ľ a e ο f.heap).StaysIn I)(u:∀b o,f.heap.get? b=Z o->(∀j,o.data≠.fields j)->∃m,I.get? b=Z {o with slots:=m}):Aft a e ο f.heap I:=⟨λb o q r p n=>k b o (Ys _ q (by simp only[uk,TH];rintro(z|z|z);exact r z;exact p z;exact n z)),λb o q s=>by obtain⟨_,v,i,d⟩:=g.stack.mem s;rw[q]at i;cases i;exact u b o q d⟩
theorem pj(I:Í a P Ι h f):f.heap.FunFrames (Ľ a e ο f.heap) a.stack:=PySem.W.funFrames_hide I.stack λg i b d=>r_ _ (o_ _ (YV.mpr ⟨g,i,d⟩))
theorem Ů.imp{N d:O->Prop}(F:Ů N h e ω I)(k:∀a,N a->d a):Ů d h e ω I:=by
 obtain⟨y,w,u,f,z,s,r,q,p,b⟩:=F;refine⟨y,k _ w,u,f,z,s,r,q,p,?_⟩;rcases b with b|⟨T,v,g,o,n,m,j,i⟩;·exact .inl b
 ·exact .inr ⟨T,v,g,o,n,m,k _ j,i⟩
theorem Ew(b:Í a P Ι h f)(r:a.ex=[])(he:h e=U/\a.s₀.heap.get? e=U)(hT:∀T∈ο,h T=U/\a.s₀.heap.get? T=U)(ff:I.FunFrames (Ľ a e ο f.heap) a.stack){T:O}{v:Obj}{s:Array B}(H:(Ľ a e ο f.heap).get? T=U)(E:T≠e)(N:I.get? T=Z v)(hd:v.data=.fields s):h T=U/\a.s₀.heap.get? T=U:=by
 have A:T∉frs a.stack:=λz=>by obtain⟨_,o,q,d⟩:=ff.mem z;rw[N]at q;cases q;exact d s hd
 have m:T∈ο\/f.heap.get? T=U:=by cases q:f.heap.get? T with|none=>exact .inr rfl|some o=>
   by_cases k:T∈ο;·exact .inl k
   ·have:=Ys (e::(ο++frs a.stack)) q (by simp only[uk,TH];rintro(z|z|z);exact E z;exact k z;exact A z);rw[H]at this;cases this
 rcases m with k|k;·exact hT T k
 · constructor;·cases q:h T with|none=>rfl|some u=>
    have j:=b.hok T u q;exfalso;have:∃o,f.heap.get? T=Z o:=by clear q;induction u with|lst w=>obtain⟨_,_,_,_,z⟩:=j;exact⟨_,z⟩|tup w=>obtain⟨_,_,_,o,z,_⟩:=j;exact⟨_,z⟩|dK p=>obtain⟨_,_,_,_,o,_,_,z,_⟩:=j;exact⟨_,z⟩|dT p=>obtain⟨_,_,_,_,o,_,_,z,_⟩:=j;exact⟨_,z⟩|set S n=>obtain⟨o,_,_,_,z,_⟩:=j;exact⟨_,z⟩|ins i dx fs=>obtain⟨_,_,_,z,_⟩:=j;exact⟨_,z⟩|own y=>obtain⟨_,z⟩:=j;exact⟨_,z⟩|xd fs=>obtain⟨_,⟨_,_,_,z,_⟩,_⟩:=j;exact⟨_,z⟩|rng lo hi=>obtain⟨_,_,_,z⟩:=j;exact⟨_,z⟩|frz ob u ih=>obtain⟨z,_⟩:=j;exact⟨_,z⟩|tbl ps=>obtain⟨_,z,_⟩:=j;exact⟨_,z⟩|met g y=>exact⟨_,(show f.heap.get? T=Z _ from j)⟩|ext φ=>obtain⟨_,⟨_,z⟩,_⟩:=j;exact⟨_,z⟩
    obtain⟨o,z⟩:=this;rw[k]at z;cases z
   ·cases q:a.s₀.heap.get? T with|none=>rfl|some o=>obtain⟨o',z⟩:=b.base.there T o q (by rw[r];simp);rw[k]at z;cases z
theorem qW(I:Í a P Ι h f)(H:a.ex=[])(g:a.stack=a.env::a.outer)(A:a.env.frame=Z a.env.locals)(F:Ů (λd=>a.s₀.heap.get? d=U) h e ω f.heap){Q:Unit->ge->Prop}{E:B->ge->Prop}(k:∀i Ts,Ů (λd=>a.s₀.heap.get? d=U) h e ω i->Aft a e Ts f.heap i->(∀b,b=e\/b∈Ts->h b=U/\a.s₀.heap.get? b=U/\∃o r,f.heap.get? b=Z o/\o.data=.fields r)->Q () {f with heap:=i}):u_ (D_ a.prog a.w) a.A (leaving a.env (.ref e)) Q E f:=by
 obtain⟨f1,R,oe,r,a0,q1,q2,q3,q4,q5⟩:=F;have y:a.A.frames=Z (a.env::a.outer):=g▸I.ok.frames;subst q2;rcases q5 with q5|⟨T,oT,N,r1,r2,r3,r4,r5,r6,r7⟩
 · have b3:f.heap.FunFrames (Ľ a e [] f.heap) (a.env::a.outer):=g▸pj I;refine wpAny_leaving_firstW (base:=Ľ a e [] f.heap) y b3 A q1 (λb o z=>Wu _ z) (Ve _ (q_ ..)) q3 q5 q4 λi hL=>?_;obtain⟨k1,k2,⟨p,m,T,oT,N,t1,⟨t2,t3⟩,t4,t5,t6,v,u,s,n⟩,k4⟩:=hL;have q:i.FunFrames (Ľ a e [] f.heap) a.stack:=g▸k2;have w:=Ew I H ⟨f1,R⟩ (λ_ z=>absurd z (by simp)) q t6 v u s;refine k i [] ⟨f1,R,p,m,a0,t1,t2,t4,t3,.inr ⟨T,oT,N,t5,v,w.1,w.2,u,s,n⟩⟩ (uR I k1 k4) λb j=>?_;rcases j with rfl|j;·exact⟨f1,R,oe,r,q1,q3⟩
   ·cases j
 · have b3:f.heap.FunFrames (Ľ a e [T] f.heap) (a.env::a.outer):=g▸pj I;have ht:f.heap.TracedW (Ľ a e [T] f.heap) e oe.cls a0:=⟨oe,r,T,oT,N,q1,⟨rfl,q4⟩,q3,r1,Ve _ (by simp),r2,r5,r6,r7⟩;refine wpAny_leaving_nextW (base:=Ľ a e [T] f.heap) y b3 A ht (λb o z=>Wu _ z) (Ve _ (q_ ..)) λi hL=>?_;obtain⟨k1,k2,⟨p,m,T',b',a',t1,⟨t2,t3⟩,t4,t5,t6,v,u,s,n⟩,k4⟩:=hL;have q:i.FunFrames (Ľ a e [T] f.heap) a.stack:=g▸k2;have w:=Ew I H ⟨f1,R⟩ (λT0 z=>by simp at z;subst z;exact⟨r3,r4⟩) q t6 v u s;refine k i [T] ⟨f1,R,p,m,a0,t1,t2,t4,t3,.inr ⟨T',b',a',t5,v,w.1,w.2,u,s,n⟩⟩ (uR I k1 k4) λb j=>?_;rcases j with rfl|j;·exact⟨f1,R,oe,r,q1,q3⟩
   ·simp at j;subst j;exact⟨r3,r4,oT,N,r5,r6⟩
def Ĺ(P:n_)(w:x_):ŀ:=λb H s E h d=>∃e f g,h=.ref e/\d.os=s.os/\YA d.gens/\Un (frs b) [] H g s.heap d.heap/\ĉ P w g d.heap/\Ů (λa=>s.heap.get? a=U) g e f d.heap/\E f U g
def spE(K:d_)(F:Ö)(n:Nat):Sp:=λb H Q E=>∃ds,S K H ds b/\ds.length=n/\match F ds with|some (.ok d)=>∀v a,Ð H a->Ô K a d v->Q v a|some (.exc c)=>∀C a,Um K B_ (Ħ c)=Z (Z (.ref C))->Ð H a->E (.ref C) U a|none=>False
def EX(X:C):XK:=λb _ d=>∃c a,b=.ref a/\Um X.K B_ (Ħ c)=Z (Z (.ref a))/\XW X c d
theorem wm(i:a.ex=[]):jS (Ĺ a.prog a.w) a (EX a):=by
 intro r k H s A m I⟨e,N,u,y,os,g,un,h,F,c,f,j,hC,v⟩;have E:Í a r k u m:=I.call' (ch:=[]) os un h g λb z=>absurd z (by simp);refine v r k u m A (λ_ _ z=>z) E ⟨e,f,y,hC,j▸F.imp λd n=>⟨?_,λp w z=>?_⟩⟩;·cases q:a.s₀.heap.get? d with|none=>rfl|some o=>obtain⟨P,z⟩:=I.base.there d o q (by rw[i];simp);rw[n]at z;cases z
 ·have:=(I.pin p (O_ _ w)).1;rw[z,n]at this;cases this
def aF(F:Ö)(n:Nat)(g:à):Ò:=λa=>Ù (g a) λds=>if ds.length=n then F ds else U
def OH(P:n_)(w:x_)(K:d_)(d:Str->Option B)(a:TC)(x:Str)(k:Nat)(b:List Str)(F:Ö):Prop:=∃f e,ì P w K d a (Ĺ P w) k f e b (spE K F b.length)/\d x=Z (.ref f)/\UK K (.ref f)=L/\î K e b []
theorem BS(e:Nat)(p:List Str)(F:Ö)(h:OH a.prog a.w a.K a.mg a.base d e p F)(P:Ý k a.A)(hk:e<=k)(y:a.ex=[])(hg:Gl a d)(ha:FA a (g::w) ν)(hn:b=p.length:=by lk)(z:(d==("__debug__":Str))=D:=by lk)(he:k_ (g::w) a.env=(D,eval g a.env)::k_ w a.env:=by lk)(s:(TW v (k_ w a.env)).any (·.1)=D:=by lk):FE a (.Call (.Name d m) (g::w) [] v) (aF F b ν):=by
 subst hn;obtain⟨f,fd,G,hm,u,hb⟩:=h;refine eC (oV (G.mono hk) P hg hm u hb .nil (wm y) ha.h z he s) λσ H Q A E o=>⟨A,E,è.bind o λds I H' g N n=>?_⟩;show spE a.K F p.length (I++[]) H' Q (EX a);rw[VE];by_cases q:ds.length=p.length
 ·rw[if_pos q]at n;refine⟨ds,N,q,?_⟩;match r:F ds with|none=>rw[r]at n;exact n.elim|some (.ok j)=>rw[r]at n;exact n|some (.exc c)=>rw[r]at n;exactλi H1 hC e1=>⟨c,i,rfl,hC,XW.mono n e1⟩
 ·rw[if_neg q]at n;exact n.elim
noncomputable def gA(m:Nat)(a:Û):Ö:=λds=>match a (ds.map Z++N_ (m-ds.length) U)with|some (.nx _)=>Z (.ok .non)|some (.rt d)=>Z (.ok d)|some (.exc c)=>Z (.exc c)|none=>U
theorem PN{m:List Env}{E:XK}(k:∀C n,Um q B_ (Ħ b)=Z (Z (.ref C))->Ð h n->E (.ref C) U n):XW (oX (Ĺ s r) s r q Θ I A d ξ e ω N m f h E) b h:=by intro f' σ n y ev P g⟨j,C,z,hC,F⟩;subst z;have F':Ů (λa=>f.heap.get? a=U) n j (.ref C) y.heap:=F.imp λa H=>H.1;refine qW g rfl rfl rfl F' λh' Ts F2 A2 u=>?_;have w:=Í.aft (P:=[]) (g.pins_of (pins':=[]) λp o=>nomatch o) A2 rfl λi v=>⟨(u i v).1,(u i v).2.1,λp o=>absurd (show p∈([]:List (O×Obj))from o) (by simp),(u i v).2.2⟩;exact⟨j,.ref C,n,rfl,g.os,g.bare,w.base,w.hok,F2,k C n hC P⟩
theorem Ex(N u:List Str)(w:Û)(hF:À=gA N.length w)(hn:k=u.length)(Fn:ļ q d o Δ e Ã)(S:ij N u (aq Δ))(hb:∀(n:B)(A:C_)(m:List Env)(f:ge)(H:Hp)(E:XK),Ý b (A.deeper (Wy o (aq Δ) f.heap.objs.size e n))->ġ (oX (Ĺ s r) s r q Θ I N o (aq Δ) e n A m f H E) (bU Δ) w):ì s r q Θ I (Ĺ s r) (b+1) e Ã u (spE q À k):=by
 subst hF hn;obtain⟨oc,od,kV,c',pm,an,n,ct,b',rfl,lk,z⟩:=Fn.ex;refine Bx lk z S (λvs H Q E h=>?_) λA m f H vs Q E hr h=>?_;·obtain⟨ds,g,P,_⟩:=h;rw[g.length,P]
 ·obtain⟨ds,g,P,a⟩:=h;refine⟨_,(hb n A m f H E hr).h,ds.map Z++N_ (N.length-ds.length) U,nU g,?_⟩;unfold gA at a;match p:w (ds.map Z++N_ (N.length-ds.length) U)with|none=>rw[p]at a;exact a.elim|some (.exc c)=>rw[p]at a;exact PN a|some (.rt j)=>rw[p]at a;exactλv y i r'=>a v y i r'|some (.nx ρ)=>rw[p]at a;exactλa' y i _=>a .non y i rfl
theorem pk(g:ĉ s r h I){a:O}{u:HO}(q:h a=Z u):∃o,I.get? a=Z o:=by have b:=g a u q;clear q;induction u with|lst e=>obtain⟨_,_,_,_,z⟩:=b;exact⟨_,z⟩|tup e=>obtain⟨_,_,_,o,z,_⟩:=b;exact⟨_,z⟩|dK d=>obtain⟨_,_,_,_,o,_,_,z,_⟩:=b;exact⟨_,z⟩|dT d=>obtain⟨_,_,_,_,o,_,_,z,_⟩:=b;exact⟨_,z⟩|set S n=>obtain⟨o,_,_,_,z,_⟩:=b;exact⟨_,z⟩|ins C v fs=>obtain⟨_,_,_,z,_⟩:=b;exact⟨_,z⟩|own y=>obtain⟨_,z⟩:=b;exact⟨_,z⟩|xd fs=>obtain⟨_,⟨_,_,_,z,_⟩,_⟩:=b;exact⟨_,z⟩|rng lo p=>obtain⟨_,_,_,z⟩:=b;exact⟨_,z⟩|frz k u m=>obtain⟨z,_⟩:=b;exact⟨_,z⟩|tbl j=>obtain⟨_,z,_⟩:=b;exact⟨_,z⟩|met f y=>exact⟨_,(show I.get? a=Z _ from b)⟩|ext i=>obtain⟨_,⟨_,z⟩,_⟩:=b;exact⟨_,z⟩
theorem yq(b:ĉ s r h I){a:O}(n:I.get? a=U):h a=U:=by cases q:h a with|none=>rfl|some u=>obtain⟨o,z⟩:=pk b q;rw[n]at z;cases z
theorem yr{b:String}(X:q.In I)(u:Θ d=Z (.ref e))(a:aaz q e θ b=L):OwnCls d e θ b Θ I:=by
 constructor;·exact u
 unfold aaz at a;split at a
 · rename_i dd cd s look;split at a;·rename_i C2 rest n m k j g i o H;simp only[m_,beq_iff_eq,aa5]at a;have e1:=a.1.1.1.1.1;have e2:=a.1.1.1.1.2;have r:=a.1.1.1.2;have P:=a.1.1.2;have f:=a.1.2;have p:=a.2;clear a;subst e1 e2;obtain⟨f1,R,f3,E,A,z,y,w,v,h,a'⟩:=cd;dsimp only at o r f p;subst o r;obtain⟨l⟩:=s;have N:l=[n,m,k,j,Z (.builtin g),i]:=H;subst N;refine⟨rest,E,f1,A,R,z,y,w,v,h,dd,n,m,k,j,i,_,X _ _ look,.of_isNs (PySem.W.isNs_of_in X f),?_,PySem.W.tail_of_in X P⟩;exact PySem.W.nsMap_none_of_in X f p
   ·cases a
 ·cases a
abbrev ŧ:List B:=[.type "ValueError",.type "Exception",.type "BaseException",.type "object"]
structure XC(K:d_)(c:Nat)(C:O):Prop where nm:Um K B_ (Ħ c)=Z (Z (.ref C))ex:aaz K C ŧ "ValueError.__new__"=L
noncomputable def gc(c:Nat)(f:Ò):Û:=λa=>c5 (f a) λ_=>Z (.exc c)
theorem BU(c:Nat)(K:XC a.K c e)(hx:Ħ c=d)(hm:a.mg d=Z (.ref e))(b':a.ex=[])(hc:a.calm=L)(hg:Gl a d)(ha:FE a g y)(he:k_ [g] a.env=(D,eval g a.env)::k_ [] a.env:=by lk)(c':(d==("__debug__":Str))=D:=by lk):FS a (.Raise (Z (.Call (.Name d m) [g] [] v)) U Τ) (gc c y):=by
 subst hx;constructor;intro f' s u H h I⟨w,E,o⟩;obtain⟨tl,N,nm,q,bs,k,sn,sub,ab,d',dd,k0,k1,k2,k3,k5,mN,hC,hN,a',T⟩:=(yr I.ok.mod.kin hm K.ex).obj;refine wpAny_Raise_call_subT (C:=e) (nm:=nm) (q:=q) (N:=N) (bs:=bs) (bm:=tl) (hdct:=k) (sn:=sn) (sub:=sub) (ab:=ab) (col:=d') (dd:=dd) (k0:=k0) (k1:=k1) (k2:=k2) (k3:=k3) (k5:=k5) WU (mN:=mN) (T.hasType WU.hasBase) (I.ok.hd hc) (by rw[he];rfl) a' (kA I hg hm ⟨rfl,?_⟩ c');have n:=(sU ha xW he).h v f' s u H (λA j=>A.length=1/\XW a c j) I ⟨w,E,?_⟩
 · rw[he]at n⊢;refine Yd (ã n λus s2⟨A,j,i,rv,hl,hw⟩=>⟨rfl,?_,i.bk _ _ hC,hN.keeps i.bk,T.keeps i.bk,λh' b me=>?_⟩);·rw[<-rv.length,hl];decide
   · have I2:Í a f' u j {s2 with heap:=h'}:=i.kept (t':=s2.toks) me.keeps;obtain⟨t,t1,t2,t3⟩:=me.there;refine hw f' u j _ (.ref b) (λ_ _ z=>z) I2 ⟨b,e,rfl,K.nm,yq i.hok me.new,⟨?_,λp n z=>?_⟩,_,_,.ref t,t1,rfl,rfl,rfl,.inl rfl⟩;·cases z:a.s₀.heap.get? b with|none=>rfl|some o2=>obtain⟨o3,z3⟩:=i.base.there b o2 z (by rw[b'];simp);rw[me.new]at z3;cases z3
     ·have z2:=(i.pin p (O_ _ n)).1;rw[z,me.new]at z2;cases z2
 ·show è a H (aP y bZ w) _;unfold aP;unfold gc at o;match P:y w with|none=>rw[P]at o;exact o.elim|some (.exc c2)=>rw[P]at o;exact o|some (.ok f)=>rw[P]at o;exactλA j e1 r=>⟨r.length,XW.mono o e1⟩
open PySem.W Builtin.Getset_descriptor
structure XI(K:d_)(C:O):Prop where
 ga:findIn K (.ref C) "__getattribute__"=Z (Z (.builtin "BaseException.__getattribute__"))gt:findIn K (.ref C) "__getattr__"=Z U
 cl:findIn K (.ref C) "__class__"=Z (Z (.builtin "object.__class__"))sp:specialIn K (.builtin "object.__class__") "__get__"=Z (Z (.builtin "getset_descriptor.__get__"))tk:takesIn K (.builtin "object.__class__")=Z L
 ob:mroIn K C (.type "object")=Z L
 be:mroIn K C (.type "BaseException")=Z L
abbrev Jv(X:C)(a:List (O×Obj))(E:B->ge->Prop):C:={X with pn:=X.pn++a,xe:=E}
abbrev wn(X:C)(a:List (O×Obj))(e:O):C:={X with A:=X.A.mark (Z (.ref e)),calm:=D,pn:=X.pn++a,xe:=λ_ _=>False}
theorem GF(I:Í a P Ι h f):Í (Jv a P χ) [] Ι h f:=⟨⟨I.ok.mod,I.ok.kind,I.ok.glob,I.ok.blt,I.ok.above,I.ok.inj,I.ok.has,I.ok.cab,I.ok.hd,I.ok.frames,I.ok.stk,I.ok.exf,I.ok.bs,I.ok.bsz,I.ok.noex,I.ok.exfs,I.ok.funs,I.ok.frf⟩,I.os,I.bare,I.base,I.loc,I.cell,I.free,I.freeC,λp b=>I.pin p (by simpa using b),I.hok,I.len⟩
theorem mi{b:List (O×Obj)}(I:Í (Jv a P χ) b Ι h f):Í a P Ι h f:=⟨⟨I.ok.mod,I.ok.kind,I.ok.glob,I.ok.blt,I.ok.above,I.ok.inj,I.ok.has,I.ok.cab,I.ok.hd,I.ok.frames,I.ok.stk,I.ok.exf,I.ok.bs,I.ok.bsz,I.ok.noex,I.ok.exfs,I.ok.funs,I.ok.frf⟩,I.os,I.bare,I.base,I.loc,I.cell,I.free,I.freeC,λp d=>I.pin p (O_ _ d),I.hok,I.len⟩
theorem uS(I:Í a P Ι h f):Í (wn a P e) [] Ι h f:=⟨⟨I.ok.mod,I.ok.kind,I.ok.glob,I.ok.blt,I.ok.above,I.ok.inj,I.ok.has,I.ok.cab,λz=>absurd z A_,I.ok.frames,I.ok.stk,I.ok.exf,I.ok.bs,I.ok.bsz,I.ok.noex,I.ok.exfs,I.ok.funs,I.ok.frf⟩,I.os,I.bare,I.base,I.loc,I.cell,I.free,I.freeC,λp b=>I.pin p (by simpa using b),I.hok,I.len⟩
theorem wo{b:List (O×Obj)}(d:a.Ok)(I:Í (wn a P e) b Ι h f):Í a P Ι h f:=⟨d,I.os,I.bare,I.base,I.loc,I.cell,I.free,I.freeC,λp g=>I.pin p (O_ _ g),I.hok,I.len⟩
theorem BV(I:Í a P Ι h f)(a':a.ex=[])(i:a.stack=a.env::a.outer)(n:a.env.frame=Z a.env.locals){y:B}(F:Ů (Pg a) h e y f.heap){Q:Unit->ge->Prop}{E1 E2:B->ge->Prop}(k:∀g E p,(Ľ a e E f.heap).StaysIn g->g.FunFrames (Ľ a e E f.heap) a.stack->g.TracedW (Ľ a e E f.heap) e y p->(∀b o,f.heap.get? b=Z o->(∀m,o.data≠.fields m)->∃r,g.get? b=Z {o with slots:=r})->(∀b,b=e\/b∈E->h b=U/\Pg a b/\∃o m,f.heap.get? b=Z o/\o.data=.fields m)->Q () {f with heap:=g}):u_ (D_ a.prog a.w) a.A (aa9 (.ref e) a.env) (λ_ s2=>u_ (D_ a.prog a.w) a.A (setFlight (.ref e) U) Q E1 s2) E2 f:=by
 obtain⟨f1,R,v,m,p,u,q2,s,q4,A⟩:=F;have w:a.A.frames=Z (a.env::a.outer):=i▸I.ok.frames;subst q2;rcases A with A|⟨T,oT,ts,r1,r2,r3,r4,r5,r6,r7⟩
 · have b3:f.heap.FunFrames (Ľ a e [] f.heap) (a.env::a.outer):=i▸pj I;have go:∀g,Heap.NotedW (Ľ a e [] f.heap) (a.env::a.outer) e v.cls p (YG a.env.locals) f.heap g->u_ (D_ a.prog a.w) a.A (setFlight (.ref e) U) Q E1 {f with heap:=g}:=λg⟨k1,k2,k3,k4⟩=>X1 (s:={f with heap:=g}) k1 k2 k3 λh2 m1 m2 m3 N=>k h2 [] p m1 (i▸m2) m3 (λb o q d=>by obtain⟨r,H⟩:=k4 b o q d;exact⟨r,N b _ H d⟩) λb j=>by
    rcases j with rfl|j;·exact⟨f1,R,v,m,u,s⟩
    ·cases j
   unfold aa9;simp only[n];refine e_ (UX u s A ?_);rw[if_neg (by decide)];exact wpAny_entryW w b3 n u (λb o z=>Wu _ z) (Ve _ (q_ ..)) s (Vj.mp A).1 q4 go
 ·have b3:f.heap.FunFrames (Ľ a e [T] f.heap) (a.env::a.outer):=i▸pj I;have ht:f.heap.TracedW (Ľ a e [T] f.heap) e v.cls p:=⟨v,m,T,oT,ts,u,⟨rfl,q4⟩,s,r1,Ve _ (by simp),r2,r5,r6,r7⟩;refine wpAny_noteFrame_onW w b3 n ht (λb o z=>Wu _ z) (Ve _ (q_ ..)) λg⟨k1,k2,k3,k4⟩=>?_;refine X1 (s:={f with heap:=g}) k1 k2 k3 λh2 m1 m2 m3 N=>k h2 [T] p m1 (i▸m2) m3 (λb o q d=>by obtain⟨r,H⟩:=k4 b o q d;exact⟨r,N b _ H d⟩) λb j=>by
    rcases j with rfl|j;·exact⟨f1,R,v,m,u,s⟩
    ·simp at j;subst j;exact⟨r3,r4,oT,ts,r5,r6⟩
theorem yt{v:Str->Option B}{J:O}{E:Obj}{Q:Bool->ge->Prop}(X:q.In f.heap)(p:OwnCls d z ŧ "ValueError.__new__" Θ f.heap)(n:OwnCls o J ŧ "ValueError.__new__" v f.heap)(he:f.heap.get? e=Z E)(hc:E.cls=.ref z)(H:mroIn q z (.ref J)=Z L)(h:Q L f):u_ (D_ s r) N (excMatches (.ref e) (.ref J)) Q χ f:=by
 obtain⟨tl,m,nm,i,bs,a',sn,sub,ab,k',dd,k0,k1,k2,k3,k5,mN,p,hN,g',T⟩:=p.obj;obtain⟨u,N',e',q',l',A,d',I,m',c',i',l0,l1,l2,l3,l5,f',n,h',P,T'⟩:=n.obj;obtain⟨hh,g,k,t,os⟩:=f;have y:(z_ J::u).contains (.type "BaseException")=L:=by rw[List.contains_cons,T'.hasType WU.hasBase,Bool.or_true]
 have w:(z_ z::tl).contains (.ref J)=L:=by
  unfold mroIn at H;obtain⟨cd,a,b⟩:=Wn.mp H;split at b;·cases b
  · have b':=Ub b;unfold clsIn at a;split at a;·rename_i look;cases a;have o:=(X _ _ look).symm.trans p;cases o;exact b'
    ·cases a
 have j:=tc_notTuple;unfold excMatches;repeat(first|(with_reducible refine wpAny_loadPart_at he ?_;rw[hc])|with_reducible refine wpAny_loadPart_at n ?_|(with_reducible refine wpAny_isSubtype_exc n ?_;rw[y])|(with_reducible refine wpAny_isSubtype_exc p ?_;rw[w])|wp_step)
 exact h
noncomputable def xiB(K:d_)(C:O):Bool:=findIn K (.ref C) "__getattribute__"==Z (Z (.builtin "BaseException.__getattribute__"))&&findIn K (.ref C) "__getattr__"==Z U&&findIn K (.ref C) "__class__"==Z (Z (.builtin "object.__class__"))&&specialIn K (.builtin "object.__class__") "__get__"==Z (Z (.builtin "getset_descriptor.__get__"))&&takesIn K (.builtin "object.__class__")==Z L&&mroIn K C (.type "object")==Z L&&mroIn K C (.type "BaseException")==Z L
theorem PP(h:xiB q e=L):XI q e:=by unfold xiB at h;simp only[m_,beq_iff_eq]at h;exact⟨h.1.1.1.1.1.1,h.1.1.1.1.1.2,h.1.1.1.1.2,h.1.1.1.2,h.1.1.2,h.1.2,h.2⟩
structure SO(K:d_)(m:Nat)(cls:Nat->O)(CJ:O):Prop where at_:∀c,c<m->nsIn K B_ (Ħ c)=Z (Z (.ref (cls c)))/\excIn K (cls c) ŧ "ValueError.__new__"=L/\XI K (cls c)/\mroIn K (cls c) (.ref CJ)=Z L/\kitOne K (.ref (cls c)) (.type "ValueError")=Z L/\∀d,d<m->kitOne K (.ref (cls c)) (.ref (cls d))=Z (c==d)exJ:excIn K CJ ŧ "ValueError.__new__"=L
section
variable{K:d_}{m:Nat}{cls:Nat->O}{CJ:O}(x:SO K m cls CJ)
include x
end
noncomputable def mj:Str->Ö|x,[.str y]=>if x.length<=100000 then Z (.ok (.str (Vz x y)))else U|_,_=>U
def Ey:V->List V->Hp->VK->Prop:=λx a H Q=>∃i j,x=.str i/\a=[.str j]/\i.length<=sizeLine/\Q (.str (Vz i j)) H
theorem BW:œ a "str.strip" Ey:=by intro p s g H x m v us Q I b e h;obtain⟨i,j,rfl,rfl,f,q⟩:=h;obtain⟨t,rfl⟩:=b;obtain⟨u,rfl,d⟩:=iL e;obtain⟨o,rfl⟩:=d;exact SC.stripChars (λn k=>⟨.str _,H,I.tok k,⟨_,rfl⟩,q⟩) f
theorem GG(i:Str)(f:List Q)(e:List V)(H:Hp)(b:VK)(g:S a.K H f e)(o:ð a H (mj i f) b):Ey (.str i) e H b:=by
 unfold mj at o;split at o
 · rename_i j;split at o;·rename_i h;obtain⟨w,rfl,d⟩:=eP g;cases(show w=.str j from d);exact⟨i,j,rfl,rfl,ce h,o _ H (.refl H) rfl⟩
   ·exact o.elim
 ·exact o.elim
def c9(x y:Q):Option (Rs Q):=match x,y with|.tup a,.tup b=>if a.length+b.length<=100000 then Z (.ok (.tup (a++b)))else U|x,y=>bX x y
theorem BX(u:X' f.heap e #[])(v:X' f.heap z θ.toArray)(w:Ç (.ref z) f):u_ (D_ s r) N (V0 .Add (.ref e) (.ref z)) Ç χ f:=by obtain⟨⟨A,y,m,p⟩,i,k,n,j⟩:=id u;obtain⟨⟨o,h,data2,g⟩,a,d,q,b⟩:=id v;simp only at k j d b;subst k j d b;exact aaO ⟨_,i,rfl⟩ ⟨_,a,rfl⟩ Zf aay XG Xq (Xd _ _) (tuple_addW0 e z #[] θ.toArray n q y h p g (by simp)) ⟨i,a,w⟩
noncomputable def Ez(K:d_):R2:=λx y H Q=>∃a b d,x=.ref a/\y=.ref b/\ù K H a []/\ù K H b d/\Q (.ref b) H
theorem BY:ÿ a (V0 .Add) (Ez a.K):=by intro z s p H x y v u Q I g f h;obtain⟨d,b,r,rfl,rfl,n,m,q⟩:=h;cases g;cases f;obtain⟨o,i,k,_⟩:=I.tuple n;obtain⟨e,w,j,_⟩:=I.tuple m;cases i;exact BX k j ⟨.ref b,H,I,rfl,q⟩
def Ls(X:C):R2:=λx y H Q=>Gg x y H Q\/(Kj X.K x y H Q\/Ez X.K x y H Q)
theorem Lu:ÿ a (V0 .Add) (Ls a):=ž.or (op_catT.or BY)
variable{j μ:Q}
theorem yu(h:∀a b,¬(j=.tup a/\μ=.tup b)):c9 j μ=bX j μ:=by
 unfold c9;split;·rename_i a b;exact absurd ⟨rfl,rfl⟩ (h a b)
 ·rfl
theorem Lv:Ġ a (Ls a) c9:=by
 intro z w x y H Q s r o;by_cases v:∃d b,z=.tup d/\w=.tup b
 · obtain⟨d,b,rfl,rfl⟩:=v;have e:ð a H (if d.length+b.length<=100000 then Z (.ok (.tup (d++b)))else U) Q:=o;split at e;·rename_i i;obtain⟨p,k,rfl,q,g⟩:=s.tupE;obtain⟨m,j,rfl,n,f⟩:=r.tupE;cases k with
   |nil=>
   have I:d=[]:=by have:=g.length;exact Wo.mp this.symm
   subst I;exact .inr (.inr ⟨p,m,j,rfl,rfl,ù.of q,ù.of n,e _ H (.refl H) ⟨m,j,rfl,n,by simpa using f⟩⟩)|cons A k=>refine .inr (.inl ⟨p,m,A::k,j,rfl,rfl,ù.of q,ù.of n,by simp,by rw[g.length,f.length];exact ce i,λu=>?_,λu l i=>e _ _ (aH i _) ⟨l,_,rfl,av,S.mono (aH i _) _ _ (g.append f)⟩⟩);subst u;have E:b=[]:=Wo.mp f.length.symm;subst E;exact e _ H (.refl H) ⟨p,_,rfl,q,by simpa using g⟩
   ·exact e.elim
 ·rw[yu (λd b h=>v ⟨d,b,h⟩)]at o;exact .inl (KY z w x y H Q s r o)
theorem jH{a:Array B}{k:B}(b:X' f.heap e a)(n:f.heap.IsSliceOf z ω k .none)(p:ZC ω Ε)(o:ZC k Λ)(m:HT.sIx a.size 0 Ε=0/\HT.sIx a.size a.size Λ=a.size)(h:Ç (.ref e) f):u_ (D_ s r) N (Zw (.ref e) (.ref z)) Ç χ f:=by
 obtain⟨os,g,i,q⟩:=id n;have j:f.TypeIs (.ref z) "slice":=⟨os,g,i⟩;unfold Zw;try with_reducible refine U9 ?_
 first|refine e_ (l_ ?_)|skip
 refine e_ (wpAny_sequenceKey b.typeIs (by decide) ?_);refine e_ (UJ (name:=b_ "__getitem__") b.typeIs UF (U4 UF b.typeIs entry_tuple_getitem ?_ (args_tuple_getitem _ _)));show u_ _ _ (YR (.ref e)>>=_) _ _ f;refine e_ (tupleItemsOf_ b ?_);refine e_ (Xx j ?_);rw[if_pos (by decide)];refine e_ (HT.sliceApplied_gen n p o ?_);have d:(((HT.sIx a.size 0 Ε:Nat):Int)==0&&(1:Int)==1&&(HT.sIx a.size a.size Λ-HT.sIx a.size 0 Ε)==a.size)=L:=by rw[m.1,m.2];simp
 show u_ _ _ (if(((HT.sIx a.size 0 Ε:Nat):Int)==0&&(1:Int)==1&&(HT.sIx a.size a.size Λ-HT.sIx a.size 0 Ε)==a.size)=L then _ else _) _ _ f;rw[if_pos d];refine e_ (e_ (Xx b.typeIs (l_ ?_)));rw[if_pos (by decide)];exact e_ (Xh (l_ ⟨_,rfl,l_ h⟩))
def SQ(K:d_):V->Option Int->Option Int->Hp->VK->Prop:=λx lo d H Q=>∃a b,x=.ref a/\ù K H a b/\(HT.sIx b.length 0 lo=0/\HT.sIx b.length b.length d=b.length)/\Q (.ref a) H
theorem BZ:ź a (SQ a.K):=by
 intro A s o H x v u p lo z w Q I i n pl j h;obtain⟨b,g,rfl,k,m,q⟩:=h;cases i;obtain⟨e,r,f,y⟩:=I.tuple k;have d:e.toArray.size=g.length:=by rw[H_];exact r.length.symm
 refine⟨"tuple",_,UF.lookup,f.typeIs,?_⟩;exact jH f n pl j (by rw[d];exact m) ⟨.ref b,H,I,rfl,q⟩
def RV(x:Q)(a b:Option Int):Option (Rs Q):=match x with|.tup d=>Z (.ok (.tup (yh d a b)))|x=>OC x a b
def lz(f:Ò)(d e:FnO):Ò:=λa=>Ù (f a) λx=>Ù (d a) λlo=>Ù (e a) λb=>RV x lo b
theorem wp{a:List ε}(h:HT.sIx a.length 0 Ε=0/\HT.sIx a.length a.length Λ=a.length):yh a Ε Λ=a:=by unfold yh;rw[h.1,h.2];simp
variable{y:Ò}
theorem GH{A I:Option s_}{N P:FnO}(ha:FE a g y)(hl:FO a A N)(hh:FO a I P):FE a (.Subscript g (.Slice A I U m) v) (lz y N P):=eC (uJ ((Ţ.or xR).or (sl_tup.or BZ)) ha.h hl.h hh.h) λσ H Q r E o=>⟨r,E,ð.bind o λd b H1 e1 r1 o1=>⟨r,E.mono e1,jW o1 λl H2 e2 o2=>⟨r,(E.mono e1).mono e2,jW o2 λu q e3 f=>by
 have s:=Ô.mono e3 d b (Ô.mono e2 d b r1);cases d<;>try exact(show False from f).elim
 · rename_i z;unfold RV OC at f;dsimp only at f;split at f;·rename_i hz;exact .inl (.inl ⟨z,s,ce hz,f _ q (.refl q) rfl⟩)
   ·exact f.elim
 · rename_i ds;obtain⟨k,e,rfl,j,h⟩:=s.tupE;have n:=h.length;by_cases w:HT.sIx e.length 0 l=0/\HT.sIx e.length e.length u=e.length;·refine .inr (.inr ⟨k,e,rfl,ù.of j,w,f _ q (.refl q) ⟨k,e,rfl,j,?_⟩⟩);rw[wp (by rw[<-n];exact w)];exact h
   ·refine .inr (.inl ⟨k,e,rfl,ù.of j,w,λp i=>f _ _ (aH i _) ⟨p,_,rfl,av,S.mono (aH i _) _ _ ?_⟩⟩);unfold Bz yh;rw[h.length];exact(h.drop _).take _
 ·rename_i ds;obtain⟨k,e,rfl,j,h⟩:=s.lstE;refine .inl (.inr ⟨k,e,rfl,ă.of j,λp i=>f _ _ (aH i _) ⟨p,_,rfl,av,S.mono (aH i _) _ _ ?_⟩⟩);unfold Bz yh;rw[h.length];exact(h.drop _).take _⟩⟩⟩
noncomputable def Lw:Str->Ö
 |x,[.str y]=>match Uk x y 0 x.length 1 with|i::_=>Z (.ok (.int i))|[]=>U
 |_,_=>U
def RW:V->List V->Hp->VK->Prop:=λx a H Q=>∃i j k l,x=.str i/\a=[.str j]/\Uk i j 0 i.length 1=k::l/\Q (.int (k:Nat)) H
theorem Lx:œ a "str.index" RW:=by intro o s g H x m v us Q I b e h;obtain⟨i,j,k,l,rfl,rfl,f,q⟩:=h;obtain⟨t,rfl⟩:=b;obtain⟨u,rfl,d⟩:=iL e;obtain⟨n,rfl⟩:=d;exact SC.index f ⟨.int _,H,I.tok _,⟨_,rfl⟩,q⟩
theorem PQ(i:Str)(g:List Q)(f:List V)(H:Hp)(b:VK)(h:S a.K H g f)(o:ð a H (Lw i g) b):RW (.str i) f H b:=by
 unfold Lw at o;split at o
 ·rename_i j;obtain⟨w,rfl,e⟩:=eP h;cases(show w=.str j from e);match d:Uk i j 0 i.length 1 with|[]=>rw[d]at o;exact o.elim|k::l=>rw[d]at o;exact⟨i,j,k,l,rfl,rfl,d,o _ H (.refl H) rfl⟩
 ·exact o.elim
abbrev GI(a:List B)(n:Nat):Obj:={cls:=.type "list",data:=.seq a.toArray n}
variable{Ι:L2.St}
theorem Í.untrack(I:Í a P Ι (Þ h e (.lst η)) f)(ha:h e=U)(y:a.ex=[]):∃j n,Ñ η j/\η.length<=sizeLine/\(∀o,a.s₀.heap.get? e=Z o->a.H₀ e≠U)/\(∀p∈a.pn++P,p.1≠e)/\Í a (P++[(e,GI j n)]) Ι h f:=by
 obtain⟨z,j,n,rv,hl,d⟩:=I.lstM (l:=e) (xs:=η) av;have hb:∀b u,h b=Z u->b≠e:=λb u q=>aE q ha;have g:∀b,Þ h e (.lst η) b=U->h b=U:=λb q=>by
  by_cases i:b=e;·rw[i];exact ha
  ·rw[ax i]at q;exact q
 have s:∀b u,Þ h e (.lst η) b=Z u->(∀H,u≠.lst H)->h b=Z u:=λb u q hu=>by
  by_cases i:b=e;·rw[i,av]at q;exact absurd (Ub q).symm (hu η)
  ·rw[ax i]at q;exact q
 have a':e∉a.fs:=λhm=>by obtain⟨_,o,r,_⟩:=I.ok.funs.mem hm;have:=I.base.free e o r (I.ok.frf e hm) (by rw[y];simp);rw[av]at this;cases this
 have A:∀p∈a.pn++P,p.1≠e:=λp hp w=>by have:=(I.pin p hp).2.1;rw[w,av]at this;cases this
 refine⟨j,n,rv,z,λo r h0=>?_,A,⟨I.ok,I.os,I.bare,⟨I.base.keep,I.base.slot,λb o q n hx=>g b (I.base.free b o q n hx),I.base.there,λb H q=>s b _ (I.base.tups b H q) (λ_ w=>by cases w),λb o u q=>s b _ (I.base.frzs b o u q) (λ_ w=>by cases w),λb ps q=>?_⟩,I.loc,I.cell,g _ I.free,λx c q=>g _ (I.freeC x c q),λp hp=>?_,λb u q=>?_,I.len⟩⟩;·have:=I.base.free e o r h0 (by rw[y];simp);rw[av]at this;cases this
 ·obtain⟨E,q'⟩:=I.base.tbls b ps q;exact⟨E,s b _ q' (λ_ w=>by cases w)⟩
 · rcases TH.mp hp with k|k;·obtain⟨q1,q2,N⟩:=I.pin p (O_ _ k);exact⟨q1,g _ q2,N⟩
   · rcases TH.mp k with k|k;·obtain⟨q1,q2,N⟩:=I.pin p (o_ _ k);exact⟨q1,g _ q2,N⟩
     ·simp only[M_]at k;subst k;refine⟨d,ha,λw=>?_,a',λv w=>by cases w⟩;obtain⟨m,⟨o,es,ep,r,hd,_⟩,_⟩:=I.loc;have w':e=a.env.locals:=w;rw[<-w',d]at r;cases r;cases hd
 · have hq:Þ h e (.lst η) b=Z u:=by rw[ax (hb b u q)];exact q
   refine(I.hok b u hq).stay (λ_ _ _ w=>w) (λc w=>s c _ w (λ_ w=>by cases w)) (λc H w=>s c _ w (λ_ w=>by cases w)) λc _ _ w=>s c _ w (λ_ w=>by cases w)
theorem Í.retrack(I:Í a (P++[(e,GI θ b)]) Ι h f)(A:Ñ η θ)(hz:η.length<=sizeLine)(h0:∀o,a.s₀.heap.get? e=Z o->a.H₀ e≠U)(n:∀p∈a.pn++P,p.1≠e):h e=U/\Í a P Ι (Þ h e (.lst η)) f:=by
 obtain⟨g,z,nL,nf,nc⟩:=I.pin (e,GI θ b) (o_ _ (o_ _ (by simp)));have up:∀d u,h d=Z u->Þ h e (.lst η) d=Z u:=λd u q=>by rw[ax (aE q z)];exact q
 have lo:∀d,h d=U->d≠e->Þ h e (.lst η) d=U:=λd q i=>by rw[ax i];exact q
 refine⟨z,⟨I.ok,I.os,I.bare,⟨I.base.keep,I.base.slot,λd o q b hx=>lo d (I.base.free d o q b hx) (λw=>h0 o (w▸q) (w▸b)),I.base.there,λd r q=>up d _ (I.base.tups d r q),λd o u q=>up d _ (I.base.frzs d o u q),λd ps q=>?_⟩,I.loc,I.cell,lo _ I.free (Uq nL),λx c q=>lo _ (I.freeC x c q) (λw=>?_),λp s=>?_,λd u q=>?_,I.len⟩⟩;·obtain⟨j,q'⟩:=I.base.tbls d ps q;exact⟨j,up d _ q'⟩
 ·obtain⟨v,o,k,hd⟩:=I.cell x c q;rw[w]at k;have e':f.heap.get? e=Z (GI θ b):=g;rw[e']at k;cases k;cases hd
 ·obtain⟨N,H,E⟩:=I.pin p (by
   rcases TH.mp s with m|m;·exact O_ _ m
   ·exact o_ _ (O_ _ m));exact⟨N,lo _ H (n p s),E⟩
 · by_cases y:d=e;·subst y;rw[av]at q;cases q;exact⟨hz,θ,b,A,g⟩
   ·rw[ax y]at q;exact(I.hok d u q).stay (λ_ _ _ w=>w) (λc w=>up c _ w) (λc r w=>up c _ w) λc _ _ w=>up c _ w
def PR(t:TE):TE:=λe f Q=>∃H a b,f=Þ H a (.lst b)/\H a=U/\t e H λv d=>d a=U->Q v (Þ d a (.lst b))
def PU(t:TT):TT:=λe f Q=>∃H a b,f=Þ H a (.lst b)/\H a=U/\t e H λv d=>d a=U->Q v (Þ d a (.lst b))
def PV(t:TA):TA:=λe f Q=>∃H a b,f=Þ H a (.lst b)/\H a=U/\t e H λv d=>d a=U->Q v (Þ d a (.lst b))
def PX(t:TI):TI:=λe f Q=>∃H a b,f=Þ H a (.lst b)/\H a=U/\t e H λv d=>d a=U->Q v (Þ d a (.lst b))
theorem sY(d:a.ex=[]){t:TE}(h:PE a g t):PE a g (PR t):=by intro f' s f Hf Q I⟨H,b,N,w,o,q⟩;subst w;obtain⟨E,n,i,k,p,m,A⟩:=Í.untrack I o d;refine ã (h _ s f H _ A q) λu P⟨v,H',z,r,j⟩=>?_;obtain⟨e,y⟩:=Í.retrack z i k p m;exact⟨v,_,y,r,j e⟩
theorem GJ(d:a.ex=[]){t:TT}(h:PT a g t):PT a g (PU t):=by intro N s f P Q I⟨H,b,A,r,o,q⟩;subst r;obtain⟨z,n,i,k,p,m,y⟩:=Í.untrack I o d;refine ã (h _ s f H _ y q) λu E⟨H',w,j⟩=>?_;obtain⟨e,v⟩:=Í.retrack w i k p m;exact⟨_,v,j e⟩
theorem GK(d:a.ex=[]){t:TA}(h:PA a w t):PA a w (PV t):=by intro pos f' s f Hf Q I⟨H,b,N,p,m,q⟩;subst p;obtain⟨E,n,g,j,o,k,A⟩:=Í.untrack I m d;refine ã (h pos _ s f H _ A q) λu P⟨v,H',z,r,i⟩=>?_;obtain⟨e,y⟩:=Í.retrack z g j o k;exact⟨v,_,y,r,i e⟩
theorem GL(j:a.ex=[]){r:s_}{t:TI}(h:PI a r g t):PI a r g (PX t):=by
 intro f' s y Hf R I⟨H,d,xs,e1,ha,q⟩;subst e1;obtain⟨e,n,E,P,h0,hp,I'⟩:=Í.untrack I ha j;refine ã (h _ s y H _ I' q) λu s1 f=>ã f λa' s2⟨it,fp,z,J,H',e2,I2,T,A,o,N⟩=>?_;obtain⟨m,I3⟩:=Í.retrack I2 E P h0 hp;refine⟨it,fp,z,J,_,e2,I3,T,A,λb hb=>?_,N m⟩;obtain⟨g0,g1,g2,g3,g4,v⟩:=o b hb;have k:b≠d:=λw=>v (d,GI e n) (o_ _ (o_ _ (by simp))) w.symm;refine⟨by rw[ax k];exact g0,g1,g2,g3,g4,λp i=>v p ?_⟩;rcases TH.mp i with w|w;·exact O_ _ w
 ·exact o_ _ (O_ _ w)
mutual
def ħ:Q->Bool|.non=>L|.bl _=>L|.int _=>L|.str _=>L|.tup ds=>â ds|.lst _=>D|.scr _=>D|.exn _=>D|.obj _ _=>D
def â:List Q->Bool|[]=>L|d::ds=>ħ d&&â ds
end
mutual
theorem Ô.tups{K:d_}{H f:Hp}(k:∀b e,H b=Z (.tup e)->f b=Z (.tup e)):∀(d:Q)(v:V),ħ d=L->Ô K H d v->Ô K f d v|.non,_,_,h=>h|.bl _,_,_,h=>h|.int _,_,_,h=>h|.str _,_,_,h=>h|.tup ds,v,i,h=>by obtain⟨a,j,r,h,q⟩:=h.tupE;exact⟨a,j,r,k _ _ h,S.tups k ds j (by simpa[ħ]using i) q⟩|.lst _,_,i,_=>by simp[ħ]at i|.scr _,_,i,_=>by simp[ħ]at i|.exn _,_,i,_=>by simp[ħ]at i|.obj _ _,_,i,_=>by simp[ħ]at i
theorem S.tups{K:d_}{H f:Hp}(k:∀b e,H b=Z (.tup e)->f b=Z (.tup e)):∀(ds:List Q)(g:List V),â ds=L->S K H ds g->S K f ds g
 |[],_,_,h=>h|d::ds,g,i,h=>by
  obtain⟨v,us,r,h,q⟩:∃v us,g=v::us/\Ô K H d v/\S K H ds us:=h;have m:ħ d=L/\â ds=L:=by simpa[â]using i
  exact⟨v,us,r,Ô.tups k d v m.1 h,S.tups k ds us m.2 q⟩end
inductive Fo where|nx(ρ:Ev)(ds:List Q)|rt(d:Q)
abbrev jY:=Ev->List Q->Option Fo
def Ĕ(X:C)(i:Nat)(a:O)(H:Hp)(o:Option Fo)(b:uE):Prop:=match o with|none=>False|some (.rt d)=>∀v e,Ð H e->Ô X.K e d v->b.rt v e|some (.nx h ds)=>∀f e g,Ð H e->e a=U->f[i]?=Z (Z (.ref a))->Ü X.K e f h->S X.K e ds g->b.nx f (Þ e a (.lst g))
theorem Ĕ.mono{g:uE}(f:Ð h Β):∀{o:Option Fo},Ĕ a b e h o g->Ĕ a b e Β o g|none,d=>d|some (.rt _),d=>λv j i r=>d v j (f.trans i) r|some (.nx _ _),d=>λk j m i=>d k j m (f.trans i)
def tO(X:C)(i:Nat)(f:jY):TS:=λb d h=>∃H a g e ds,h=Þ H a (.lst g)/\H a=U/\d[i]?=Z (Z (.ref a))/\Ü X.K H d e/\S X.K H ds g/\Ĕ X i a H (f e ds) b
structure Ŗ(X:C)(i:Nat)(st:Us)(f:jY):Prop where h:PS X st (tO X i f)
structure ř(X:C)(i:Nat)(st:List Us)(f:jY):Prop where h:Ļ X st (tO X i f)
def wq(o:Option (Rs ε))(k:ε->Option Fo):Option Fo:=match o with|some (.ok a)=>k a|_=>U
noncomputable def Jz:jY:=λa ds=>Z (.nx a ds)
noncomputable def fU(f g:jY):jY:=λd ds=>match f d ds with|some (.nx a b)=>g a b|o=>o
noncomputable def gE(j:Nat)(f:Ò):jY:=λa ds=>wq (f a) λd=>Z (.nx (a.set j (Z d)) ds)
noncomputable def oIf(c:æ)(f g:jY):jY:=λa ds=>wq (c a) λk=>if k then f a ds else g a ds
noncomputable def GM(i:Nat)(c:æ)(f g:jY):jY:=λa ds=>wq (c (a.set i (Z (.lst ds)))) λk=>if k then f a ds else g a ds
noncomputable def yw(i:Nat)(f:Ò):jY:=λa ds=>wq (f (a.set i (Z (.lst ds)))) λd=>Z (.rt d)
noncomputable def B0(f:Ò):jY:=λa ds=>if ds.length<100000 then wq (f a) λd=>Z (.nx a (ds++[d]))else U
theorem yx(g:h e=U)(a:Ð (Þ h e (.lst η)) Β):∃f,Β=Þ f e (.lst η)/\f e=U/\Ð h f:=by
 refine⟨λb=>if b=e then U else Β b,?_,by simp,λb u q=>?_⟩
 · funext b;by_cases d:b=e;·subst d;rw[av];exact a b _ av
   ·rw[ax d];simp[d]
 ·have d:b≠e:=aE q g;simp only[d,if_false];exact a b u (by rw[ax d];exact q)
theorem iS(a:h e=U):Ð h (Þ h e (.lst η)):=aH a _
variable{δ:Ev}{E:List Q}
theorem mo(k:h e=U)(o:Ι[b]?=Z (Z (.ref e)))(f:Ü a.K h Ι δ)(r:S a.K h E η):Ü a.K (Þ h e (.lst η)) Ι (δ.set b (Z (.lst E))):=by
 have m:=f.mono (iS (η:=η) k);refine⟨by rw[Uc];exact m.len,λj d g=>?_⟩;by_cases i:b=j
 · subst i;by_cases n:b<δ.length;·rw[w_ n]at g;cases g;exact⟨.ref e,o,e,η,rfl,av,S.mono (iS k) _ _ r⟩
   ·rw[Uw (by rw[Uc];omega)]at g;cases g
 ·rw[on i]at g;exact m.at' j d g
theorem GN:ř a b [] Jz:=⟨λj s f n d I⟨H,e,g,m,ds,k,i,h,E,r,o⟩=>by subst k;exact sK j s f _ d I (o f H g (.refl H) i h E r)⟩
theorem B4{f g:jY}(N:Ŗ a b Δ f)(A:ř a b Ψ g):ř a b (Δ::Ψ) (fU f g):=⟨λP s u Hf h I⟨H,e,v,q,ds,e1,z,y,E,r,o⟩=>by refine gC N.h A.h P s u Hf h I ⟨H,e,v,q,ds,e1,z,y,E,r,?_⟩;unfold fU at o;match i:f q ds with|none=>rw[i]at o;exact o.elim|some (.rt d)=>rw[i]at o;exact o|some (.nx j p)=>rw[i]at o;exactλa' H' k e' n m E' w=>⟨H',e,k,j,p,rfl,n,m,E',w,Ĕ.mono e' o⟩⟩
theorem GO{f:jY}(d:Ŗ a b Δ f):ř a b [Δ] f:=⟨oQ d.h⟩
theorem Ly(q:a.ex=[])(j:Nat)(n:b≠j){x:Str}{h:Pos}(hN:a.N.Nodup)(hi:a.N[j]?=Z x)(P:Ł a.env.scope x)(he:FE a g y)(hs:Ux g (Z (.Name x h)) m.line a.env=pure D:=by lk)(hf:a.fn x=L\/a.env.scope.names.lookup x=Z .local:=by first|exact .inl rfl|exact .inr rfl|assumption):Ŗ a b (.Assign [.Name x h] g m) (gE j y):=⟨λf' s A Hf f I⟨H,e,z,w,ds,e1,ha,p,E,r,o⟩=>by refine nK hN hi P (sY q he.h) hs hf f' s A Hf f I ⟨H,e,z,e1,ha,w,E,?_⟩;unfold gE at o;match i:y w with|none=>rw[i]at o;exact o.elim|some (.exc _)=>rw[i]at o;exact o.elim|some (.ok d)=>rw[i]at o;exactλv H' k N u=>o _ H' z k u (by rw[on (Uq n)];exact p) ((E.mono k).set N) (S.mono k _ _ r)⟩
variable{Μ:æ}
theorem PY{f e:jY}(v:a.ex=[]){z y:List Us}(N:FT a g Μ)(ha:ř a b z f)(P:ř a b y e):Ŗ a b (.If g z y m) (oIf Μ f e):=⟨λf' s A Hf h I⟨H,d,p,k,ds,e1,w,j,E,r,o⟩=>by refine Bs (GJ v N.h) ha.h P.h f' s A Hf h I ⟨H,d,p,e1,w,k,E,?_⟩;unfold oIf at o;match n:Μ k with|none=>rw[n]at o;exact o.elim|some (.exc _)=>rw[n]at o;exact o.elim|some (.ok L)=>rw[n]at o;exactλu i q=>Ef ⟨u,d,p,k,ds,rfl,q,j,E.mono i,S.mono i _ _ r,Ĕ.mono i o⟩|some (.ok D)=>rw[n]at o;exactλu i q=>Ee ⟨u,d,p,k,ds,rfl,q,j,E.mono i,S.mono i _ _ r,Ĕ.mono i o⟩⟩
theorem Lz{f d:jY}{z:List Us}(N:FT a g Μ)(ha:ř a b Ψ f)(P:ř a b z d):Ŗ a b (.If g Ψ z m) (GM b Μ f d):=⟨λf' s A Hf h I⟨H,e,y,p,ds,e1,k,j,E,r,o⟩=>by subst e1;refine Bs N.h ha.h P.h f' s A _ h I ⟨_,mo k j E r,?_⟩;unfold GM at o;match n:Μ (p.set b (Z (.lst ds)))with|none=>rw[n]at o;exact o.elim|some (.exc _)=>rw[n]at o;exact o.elim|some (.ok L)=>rw[n]at o;intro H2 v;obtain⟨w,u,q,i⟩:=yx k v;exact Ef ⟨w,e,y,p,ds,u,q,j,E.mono i,S.mono i _ _ r,Ĕ.mono i o⟩|some (.ok D)=>rw[n]at o;intro H2 v;obtain⟨w,u,q,i⟩:=yx k v;exact Ee ⟨w,e,y,p,ds,u,q,j,E.mono i,S.mono i _ _ r,Ĕ.mono i o⟩⟩
theorem LA(q:FE a g y):Ŗ a b (.Return (Z g) m) (yw b y):=⟨λu s k P e I⟨H,f,N,n,ds,z,h,j,E,r,o⟩=>by subst z;refine xu q.h u s k _ e I ⟨_,mo h j E r,?_⟩;unfold yw at o;match i:y (n.set b (Z (.lst ds)))with|none=>rw[i]at o;exact o.elim|some (.exc _)=>rw[i]at o;exact o.elim|some (.ok d)=>rw[i]at o;exactλv A w p=>o v A ((iS h).trans w) p⟩
theorem LB(a':a.ex=[]){x:Str}{i h:Pos}(hx:PE a (.Name x i) (xq b))(he:FE a g y)(p:Uy (.Name x i) "append" a.env (eval (.Name x i) a.env)=eval (.Name x i) a.env:=by lk)(w:((TW h (k_ [g] a.env)).all (λx=>!x.1)&&(Vy h (UN [] a.env)).all (λx=>x.1.isSome)&&t_ ([g].length+([]:List VI).length+(if([]:List VI).isEmpty then 0 else 1)<30))=L:=by lk){N:Pos}(n:(N.endLine==h.line)=L:=by lk)(hs:k_ [g] a.env=(D,eval g a.env)::k_ [] a.env:=by lk)(k:(TW h (k_ [] a.env)).any (·.1)=D:=by lk)(P:Ux (.Call (.Attribute (.Name x i) "append" N) [g] [] h) U m.line a.env=pure D:=by lk):Ŗ a b (.Expr (.Call (.Attribute (.Name x i) "append" N) [g] [] h) m) (B0 y):=⟨λf' s σ Hf f I⟨H,e,q,z,ds,e1,c',u,E,r,o⟩=>by
 refine sL (BB Wj WL Y_ qM hx (GK a' (sU he xW hs).h) p w n hs k) P f' s σ Hf f I ?_;unfold B0 at o;split at o
 ·rename_i hl;match j:y z with
  |none=>rw[j]at o;exact o.elim|some (.exc _)=>rw[j]at o;exact o.elim|some (.ok d)=>
  rw[j]at o;refine⟨.ref e,u,.inl ⟨rfl,q,ă.of (by rw[e1];exact av)⟩,H,e,q,e1,c',z,E,?_⟩;show è a H (aP y bZ z) _;rw[ae j au];intro vs H' A rs b';obtain⟨v,rfl,rv⟩:=eP rs;have hz:q.length<sizeLine:=by have:=r.length;have h2:=ce (b:=q.length+1) (by omega);omega
  refine⟨e,q,v,rfl,rfl,av,hz,?_⟩;rw[xm];exact o σ H' (q++[v]) A b' u (E.mono A) ((S.mono A _ _ r).append ⟨v,[],rfl,rv,rfl⟩)
 ·exact o.elim⟩
noncomputable def yy(i:Nat)(g:à)(f:jY):Û:=λe=>c5 (g e) λds=>if ds.length<=100000 then(match f (e.set i U) ds with|some (.nx a b)=>Z (.nx (a.set i (Z (.lst b))))|some (.rt d)=>Z (.rt d)|none=>U)else U
variable{ν:à}{Τ:Pos}
theorem GP{f:jY}(hN:a.N.Nodup)(hi:a.N[b]?=Z d)(hx:Ł a.env.scope d)(hg:FA a w ν)(hr:ř a b Ψ f)(hs:Ux (.List w v) (Z (.Name d Τ)) m.line a.env=pure D:=by lk)(hf:a.fn d=L\/a.env.scope.names.lookup d=Z .local:=by first|exact .inl rfl|exact .inr rfl|assumption):ġ a (.Assign [.Name d Τ] (.List w v) m::Ψ) (yy b ν f):=⟨λf' s σ H h I⟨q,E,o⟩=>by refine gC (nK (b:=b) hN hi hx (xL hg.h) hs hf) hr.h f' s σ H h I ⟨q,E,?_⟩;unfold yy at o;match k:ν q with
 |none=>rw[k]at o;exact o.elim|some (.exc _)=>rw[k]at o;exact o|some (.ok ds)=>
 rw[k]at o;intro vs H1 e1 rs;have i:ø a H (if ds.length<=100000 then(match f (q.set b U) ds with|some (.nx u A)=>Z (.nx (u.set b (Z (.lst A))))|some (.rt e)=>Z (.rt e)|none=>U)else U) h:=o;by_cases P:ds.length<=100000
 · rw[if_pos P]at i;refine⟨by rw[rs.length];exact ce P,λp hp=>?_⟩;have c':b<σ.length:=by rw[I.len];exact(G_.mp hi).1
   refine⟨H1,p,vs,q.set b U,ds,rfl,hp,w_ c',?_,rs,?_⟩
   · have E1:=(E.mono e1).fgt1 b;refine⟨by rw[Uc];exact E1.len,λj e r=>?_⟩;by_cases y:b=j
     · subst y;by_cases b':b<q.length;·rw[w_ b']at r;cases r
       ·rw[Uw (by rw[Uc];omega)]at r;cases r
     ·obtain⟨g,q1,q2⟩:=E1.at' j e r;exact⟨g,by rw[on y];exact q1,q2⟩
   ·match n:f (q.set b U) ds with|none=>rw[n]at i;exact i.elim|some (.rt e)=>rw[n]at i;exactλg H' e' N=>i g H' (e1.trans e') N|some (.nx u A)=>rw[n]at i;exactλa' H' g' e' z d' E' N=>i a' _ ((e1.trans e').trans (iS z)) (mo z d' E' N)
 ·rw[if_neg P]at i;exact i.elim⟩
def nj(j:Nat)(f:List Nat)(a:jY):List Q->Ev->List Q->Option Fo|[],b,e=>Z (.nx (fgt f b) e)|d::ds,b,e=>match a ((fgt f b).set j (Z d)) e with|some (.nx g h)=>nj j f a ds g h|o=>o
def yz(j:Nat)(f:List Nat)(b:à)(a:jY):jY:=λd e=>wq (b d) λds=>if â ds=L then nj j f a ds d e else U
theorem lH:∀{ds:List Q}{n:Nat}{d:Q},â ds=L->ds[n]?=Z d->ħ d=L
 |[],_,_,_,h=>by simp at h|e::ds,0,d,i,h=>by
  have a:ħ e=L/\â ds=L:=by simpa[â]using i
  cases(show Z e=Z d from h);exact a.1|e::ds,n+1,d,i,h=>by
  have a:ħ e=L/\â ds=L:=by simpa[â]using i
  exact lH a.2 (show ds[n]?=Z d from h)
theorem B5(i:ħ j=L)(r:Ô q (Þ h e (.lst η)) j ψ):Ô q h j ψ:=Ô.tups (λb f a=>by
 by_cases d:b=e;·rw[d,av]at a;cases a
 ·rw[ax d]at a;exact a) j ψ i r
theorem LC{fb:jY}(t':a.ex=[])(j:Nat)(js:List Nat)(p':b≠j)(hp:WH (D_ a.prog a.w) a.A a.env a.xe)(hc:a.calm=L)(hi:FI a g u ν)(hg:PG a g (sM j))(hb:ř a b Ψ fb)(hs:∀x,TM u a.env x=pure x:=by intro _;lk):Ŗ a b (.For g u Ψ [] m) (yz j js ν fb):=⟨λf' s σ Hf f I⟨H,e,xs,ρ,ds,e1,ha,q',E,r,o⟩=>by refine qE hp hc (GL t' hi.h) hg hb.h hs f' s σ Hf f I ⟨H,e,xs,e1,ha,ρ,E,?_⟩;unfold yz at o;match hf:ν ρ with
 |none=>rw[hf]at o;exact o.elim|some (.exc _)=>rw[hf]at o;exact o.elim|some (.ok us)=>
 rw[hf]at o;have o0:Ĕ a b e H (if â us=L then nj j js fb us ρ ds else U) f:=o;by_cases c':â us=L
 · rw[if_pos c']at o0;intro J H1 e1 wk u';have o1:=Ĕ.mono e1 o0;refine⟨λn h A k'=>h=us.length-n/\n<=us.length/\∃k i p v,k'=Þ k e (.lst i)/\k e=U/\Ð H1 k/\A[b]?=Z (Z (.ref e))/\Ü a.K k A p/\S a.K k v i/\Ĕ a b e k (nj j js fb (us.drop n) p v) f,⟨us.length,by simp,Ua _,H1,xs,ρ,ds,rfl,u',.refl H1,q',E.mono e1,S.mono e1 _ _ r,by simpa using o1⟩,?_⟩;rintro n h A k'⟨rfl,hn,k,i,p,v,rfl,e',e2,a',E',r',w⟩;have g':Ð H1 (Þ k e (.lst i)):=e2.trans (iS e');by_cases b':n<us.length;·refine .inr ⟨wk.go n _ g' b',λz i'=>∃H2 h' N P,i'=Þ H2 e (.lst h')/\H2 e=U/\Ð H1 H2/\z[b]?=Z (Z (.ref e))/\Ü a.K H2 z N/\S a.K H2 P h'/\Ĕ a b e H2 (nj j js fb (us.drop (n+1)) N P) f,λz i' q=>⟨us.length-(n+1),by omega,rfl,b',q⟩,λx H2 y=>?_⟩;obtain⟨rfl,d,hd,rd⟩:=wk.yld n _ x H2 g' b' y;have m':=B5 (lH c' hd) rd;rw[iQ hd]at w;show tO a b fb _ _ _;refine⟨k,e,i,(fgt js p).set j (Z d),v,rfl,e',by rw[on (Uq p')];exact a',(Ü.fgt js E').set m',r',?_⟩;unfold nj at w;match d':fb ((fgt js p).set j (Z d)) v with|none=>rw[d']at w;exact w|some (.rt r)=>rw[d']at w;exact w|some (.nx N P)=>rw[d']at w;exactλz H3 l' e3 h3 s' E3 r3=>⟨H3,l',N,P,rfl,h3,e2.trans e3,s',E3,r3,Ĕ.mono e3 w⟩
   · have n':n=us.length:=by omega
     subst n';rw[W6]at w;exact .inl ⟨wk.stop _ g',w A k i (.refl k) e' a' (Ü.fgt js E') r'⟩
 ·rw[if_neg c']at o0;exact o0.elim⟩
noncomputable def qX:Q->Bool|.bl _=>L|.int _=>L|_=>D
theorem GQ(K:d_)(d:Q):Wg K (.type (tyD d)) (.type "int")=Z (qX d):=by cases d<;>lk
theorem LD:Vb (b_ "int")=Z (.type "int"):=by lk
noncomputable def OI:Ö|[.int i,.int j]=>Z (.ok (.int (if j<i then j else i)))|_=>U
noncomputable def PZ:Ö|[.int i]=>if i.natAbs.log2<1920 then Z (.ok (.str (toString i)))else U|_=>U
theorem LF(u:a.calm=L)(q:Gl a "min")(p:a.mg "min"=U)(y:FA a (g::w) ν)(s:k_ (g::w) a.env=(D,eval g a.env)::k_ w a.env:=by lk)(e:(TW v (k_ w a.env)).any (·.1)=D:=by lk):FE a (.Call (.Name "min" m) (g::w) [] v) (á OI ν):=eC (jT (xH u) q p PyProof.Rows.boot_min y.h (by decide) (by decide) s e) λz H Q h E o=>⟨h,E,è.bind o λds A f I k d=>by
 unfold OI at d;split at d;·rename_i i j;obtain⟨b,v2,rfl,r,n⟩:=Gk k;cases(show b=.int i from r);cases(show v2=.int j from n);exact⟨i,j,rfl,d _ f (.refl f) rfl⟩
 ·exact d.elim⟩
noncomputable def Ĳ:Q->Q->Option (Rs Q)|.int i,.int j=>Z (.ok (.bl (t_ (i<=j))))|.str x,.str y=>Z (.ok (.bl (!t_ (y.cps.toList<x.cps.toList))))|_,_=>U
def RX:R2:=λx y H Q=>ŝ (λi j=>.bl (t_ (i<=j))) x y H Q\/∃i j,x=.str i/\y=.str j/\Q (.bl (!t_ (j.cps.toList<i.cps.toList))) H
theorem yA:ÿ a (Ug .LtE) (λx y H Q=>∃i j,x=.str i/\y=.str j/\Q (.bl (!t_ (j.cps.toList<i.cps.toList))) H):=by intro g s e H x y v u Q I d b h;obtain⟨i,j,rfl,rfl,q⟩:=h;obtain⟨t,rfl⟩:=d;obtain⟨f,rfl⟩:=b;exact PySem.P.le_str ⟨.bl _,H,I,rfl,q⟩
theorem P6:ÿ a (Ug .LtE) RX:=op_le.or yA
theorem P7:Ġ a RX Ĳ:=by
 intro f e x y H Q d b o;cases f<;>cases e<;>try exact(show False from o).elim
 ·rename_i i j;exact .inl ⟨i,j,d,b,o _ H (.refl H) rfl⟩
 ·rename_i i j;exact .inr ⟨i,j,d,b,o _ H (.refl H) rfl⟩
def P8(K:d_)(S:List Nat)(a:List O)(b:O):Bool:=excIn K b ŧ "ValueError.__new__"&&S.all λc=>excIn K (a.getD c 0) ŧ "ValueError.__new__"&&xiB K (a.getD c 0)&&mroIn K (a.getD c 0) (.ref b)==Z L&&mroIn K (a.getD c 0) (.ref (a.getD c 0))==Z L&&kitOne K (.ref (a.getD c 0)) (.type "ValueError")==Z L&&S.all λd=>kitOne K (.ref (a.getD c 0)) (.ref (a.getD d 0))==Z (c==d)
structure Đ(K:d_)(S:List Nat)(cls:Nat->O)(CJ:O):Prop where at_:∀c∈S,nsIn K B_ (Ħ c)=Z (Z (.ref (cls c)))/\excIn K (cls c) ŧ "ValueError.__new__"=L/\XI K (cls c)/\mroIn K (cls c) (.ref CJ)=Z L/\mroIn K (cls c) (.ref (cls c))=Z L/\kitOne K (.ref (cls c)) (.type "ValueError")=Z L/\∀d∈S,kitOne K (.ref (cls c)) (.ref (cls d))=Z (c==d)exJ:excIn K CJ ŧ "ValueError.__new__"=L
theorem B6{S:List Nat}(f:∀c∈S,nsIn q B_ (Ħ c)=Z (Z (.ref (ο.getD c 0))))(h:P8 q S ο e=L):Đ q S (λc=>ο.getD c 0) e:=by unfold P8 at h;rw[m_]at h;refine⟨λc b=>?_,h.1⟩;have a:=Ul.mp h.2 c b;simp only[m_,beq_iff_eq]at a;exact⟨f c b,a.1.1.1.1.1,PP a.1.1.1.1.2,a.1.1.1.2,a.1.1.2,a.1.2,λd g=>by have i:=Ul.mp a.2 d g;simpa using i⟩
section
variable{K:d_}{S:List Nat}{cls:Nat->O}{CJ:O}(x:Đ K S cls CJ)
include x
theorem Đ.xc(c:Nat)(h:c∈S):XC K c (cls c):=⟨(x.at_ c h).1,(x.at_ c h).2.1⟩
theorem Đ.same{c:Nat}{C:O}(h:c∈S)(q:nsIn K B_ (Ħ c)=Z (Z (.ref C))):C=cls c:=by have z:=(x.at_ c h).1;rw[q]at z;cases z;rfl
end
end FD
variable{E:List FD.Q}{Ι:L2.St}{δ:FD.Ev}{À:FD.Ö}{y:FD.Ò}{Μ:FD.æ}{Ρ:FD.Û}{j:FD.Q}{É:FD.Ò}{ν:FD.à}{μ:FD.Q}{Τ:Pos}
namespace ST
open PySem.SetTable
noncomputable def stp(m i:Nat):Nat:=(i*5+1)%(m+1)
def it(m:Nat):Nat->Nat->Nat|0,i=>i|k+1,i=>it m k (stp m i)
def w9(m:Nat):Bool:=(p_ (m+1)).all λi=>(p_ (m+1)).all λj=>(p_ (m+1)).any λk=>it m k i==j
theorem SS:w9 7=L:=by decide+kernel
theorem P9:w9 31=L:=by decide+kernel
theorem uT(m:Nat):∀(a b i:Nat),it m (a+b) i=it m b (it m a i)|0,b,i=>by rw[Wz];rfl|a+1,b,i=>by rw[aa0];exact uT m a b (stp m i)
def orb(m:Nat):Nat->Nat->List Nat|0,_=>[]|n+1,i=>i::orb m n (stp m i)
theorem EA(m:Nat):∀(n i j:Nat),j∈orb m n i->∃k,k<n/\it m k i=j
 |0,_,_,h=>by simp[orb]at h|n+1,i,j,h=>by
  rcases uk.mp h with rfl|h;·exact⟨0,by omega,rfl⟩
  ·obtain⟨k,b,a⟩:=EA m n _ j h;exact⟨k+1,by omega,a⟩
theorem GR:((p_ 128).all λj=>(orb 127 128 0).contains j)=L:=by decide+kernel
theorem B7:it 127 128 0=0:=by decide+kernel
theorem LG:w9 127=L:=by
 have d:∀j,j<128->∃k,k<128/\it 127 k 0=j:=λj e=>by have:=Ul.mp GR j (TX.mpr e);exact EA 127 128 0 j (by simpa using this)
 unfold w9;refine Ul.mpr λi h=>Ul.mpr λj e=>Wr.mpr ?_;obtain⟨a,o,g⟩:=d i (TX.mp h);obtain⟨b,n,f⟩:=d j (TX.mp e);by_cases m:a<=b;·refine⟨b-a,TX.mpr (by omega),?_⟩;rw[<-g,<-uT,show a+(b-a)=b by omega,f];simp
 ·refine⟨128-a+b,TX.mpr (by omega),?_⟩;rw[<-g,<-uT,show a+(128-a+b)=128+b by omega,uT,B7,f];simp
theorem LH(h:w9 b=L){i j:Nat}(m:i<=b)(g:j<=b):∃k,k<=b/\it b k i=j:=by unfold w9 at h;have f:=Ul.mp h i (TX.mpr (by omega));have d:=Ul.mp f j (TX.mpr (by omega));obtain⟨k,a,e⟩:=Wr.mp d;exact⟨k,by have:=TX.mp a;omega,by simpa using e⟩
noncomputable def lp(m:Nat):Nat->Nat×Nat->Nat×Nat|0,x=>x|r+1,x=>lp m r (leap m x.1 x.2)
theorem yC(m:Nat):∀(a b:Nat)(x:Nat×Nat),lp m (a+b) x=lp m b (lp m a x)|0,b,x=>by rw[Wz];rfl|a+1,b,x=>by rw[aa0];show lp m (a+b) (leap m x.1 x.2)=lp m b (lp m a (leap m x.1 x.2));exact yC m a b _
theorem GS(m:Nat):∀(r:Nat)(x:Nat×Nat),x.1<=m->(lp m r x).1<=m|0,x,h=>h|r+1,x,h=>GS m r _ (by show(x.1*5+1+x.2/32)%(m+1)<=m;exact V3 (YT _ (XN m)))
theorem LI(m:Nat):∀(r:Nat)(x:Nat×Nat),(lp m r x).2=x.2/32^r|0,x=>by simp[lp]|r+1,x=>by show(lp m r (leap m x.1 x.2)).2=_;rw[LI m r];show x.2/32/32^r=_;rw[Nat.div_div_eq_div_mul,Nat.pow_succ,Nat.mul_comm]
theorem yD(m:Nat):∀(r:Nat)(i:Nat),(lp m r (i,0)).1=it m r i
 |0,i=>rfl|r+1,i=>by
  show(lp m r (leap m i 0)).1=it m r (stp m i);have e:leap m i 0=(stp m i,0):=by unfold leap stp;simp
  rw[e];exact yD m r _
theorem yF(c:w9 b=L){i a j:Nat}(f:i<=b)(m:a<2^64)(d:j<=b):∃r,r<=13+b/\(lp b r (i,a)).1=j:=by
 have g:(lp b 13 (i,a)).2=0:=by rw[LI];exact Nat.div_eq_of_lt (by
 show a<32^13;have:(32:Nat)^13=2^65:=by decide
 omega)
 obtain⟨k,n,e⟩:=LH c (GS b 13 (i,a) f) d;refine⟨13+k,by omega,?_⟩;rw[yC];have h:lp b 13 (i,a)=((lp b 13 (i,a)).1,0):=by rw[<-g]
 rw[h,yD];exact e
noncomputable def advN(t:SetTable):Nat->Probe->Probe|0,p=>p|n+1,p=>advN t n (t.advance p)
theorem jZ(t:SetTable):∀(a b:Nat)(p:Probe),advN t (a+b) p=advN t b (advN t a p)|0,b,p=>by rw[Wz];rfl|a+1,b,p=>by rw[aa0];exact jZ t a b _
structure Vp(t:SetTable)(p:Probe):Prop where
 i:p.i<=t.mask
 pt:p.perturb<2^64more:p.more<=9dm:p.dummy=U
theorem qY(m i:Nat):abM m i-i<=9:=by unfold abM;split<;>omega
noncomputable def qZ(t:SetTable)(p:Probe):Probe:={p with j:=(leap t.mask p.i p.perturb).1,more:=abM t.mask (leap t.mask p.i p.perturb).1-(leap t.mask p.i p.perturb).1,i:=(leap t.mask p.i p.perturb).1,perturb:=(leap t.mask p.i p.perturb).2}
theorem uU(t:SetTable)(p:Probe)(h:p.more=0):t.advance p=qZ t p:=by unfold abd qZ;rw[if_neg (by omega)]
theorem yG(t:SetTable)(p:Probe)(h:0<p.more):t.advance p={p with j:=p.j+1,more:=p.more-1}:=by unfold abd;rw[if_pos h]
theorem sZ(t:SetTable):∀(k:Nat)(p:Probe),p.more=k->advN t (k+1) p=qZ t p|0,p,h=>uU t p h|k+1,p,h=>by show advN t (k+1) (t.advance p)=_;rw[yG t p (by omega),sZ t k _ (by show p.more-1=k;omega)];rfl
theorem yH(m i a:Nat)(h:a<2^64):(leap m i a).2<2^64:=Nat.lt_of_le_of_lt (Nat.div_le_self _ _) h
theorem Vp.leap{t:SetTable}{p:Probe}(v:Vp t p):Vp t (qZ t p):=⟨by show(p.i*5+1+p.perturb/32)%(t.mask+1)<=t.mask;exact V3 (YT _ (XN t.mask)),(show(aaA t.mask p.i p.perturb).2<2^64 from yH _ _ _ v.pt),(show abM t.mask (aaA t.mask p.i p.perturb).1-(aaA t.mask p.i p.perturb).1<=9 from qY _ _),v.dm⟩
theorem Vp.adv{t:SetTable}{p:Probe}(v:Vp t p):Vp t (t.advance p):=by
 by_cases h:0<p.more;·rw[yG t p h];exact⟨v.i,v.pt,by show p.more-1<=9;have:=v.more;omega,v.dm⟩
 ·rw[uU t p (by omega)];exact v.leap
theorem Vp.advN{t:SetTable}:∀(n:Nat){p:Probe},Vp t p->Vp t (advN t n p)|0,p,v=>v|n+1,p,v=>Vp.advN n v.adv
theorem uV(t:SetTable):∀(r:Nat)(p:Probe),Vp t p->∃n,n<=10*r/\(advN t n p).i=(lp t.mask r (p.i,p.perturb)).1/\(r≠0->(advN t n p).j=(advN t n p).i)
 |0,p,v=>⟨0,by omega,rfl,λh=>absurd rfl h⟩|r+1,p,v=>by
  obtain⟨n,f,e,d⟩:=uV t r (qZ t p) v.leap;refine⟨p.more+1+n,by have:=v.more;omega,?_,λ_=>?_⟩;·rw[jZ,sZ t p.more p rfl,e];rfl
  · rw[jZ,sZ t p.more p rfl];by_cases a:r=0
    · subst a;have b:n=0:=by omega
      subst b;rfl
    ·exact d a
structure Tb(t:SetTable)(n:Nat):Prop where
 size:t.place.size=n
 dm:t.dummies=#[]cyc:w9 t.mask=L
 room:n<=t.mask
theorem yI(j:Nat):has #[] j=D:=by unfold has;simp
theorem nZ{t:SetTable}(T:Tb t b)(j:Nat):t.slot j=.empty\/∃i,t.slot j=.live i/\t.place[i]?=Z j:=by
 unfold SetTable.slot;dsimp only;split;·rename_i h;exact .inr ⟨_,rfl,by simpa using h⟩
 ·rw[T.dm,yI];exact .inl rfl
theorem yJ:∀(m:Nat)(l:List Nat),l.length<=m->∃j,j<=m/\j∉l
 |0,l,h=>⟨0,pi _,by have:l=[]:=Wo.mp (by omega);simp[this]⟩|m+1,l,h=>by
  by_cases a:(m+1)∈l;·obtain⟨j,e,b⟩:=yJ m (l.erase (m+1)) (by rw[List.length_erase_of_mem a];omega);refine⟨j,by omega,λd=>b ?_⟩;exact(List.mem_erase_of_ne (by omega)).mpr d
  ·exact⟨m+1,pi _,a⟩
theorem B8{t:SetTable}(T:Tb t b):∃j,j<=t.mask/\t.slot j=.empty:=by
 obtain⟨j,d,a⟩:=yJ t.mask t.place.toList (by simp[T.size,T.room]);refine⟨j,d,?_⟩;rcases nZ T j with h|⟨i,h,e⟩;·exact h
 ·exact absurd (V5.mpr (Array.mem_of_getElem? e)) a
theorem Qa{t:SetTable}(T:Tb t b){p:Probe}(v:Vp t p):∃N,N<10*Ų t.mask/\t.slot (advN t N p).j=.empty:=by obtain⟨j,a,d⟩:=B8 T;obtain⟨r,h,e⟩:=yF T.cyc (GS t.mask 1 (p.i,p.perturb) v.i) (by show(leap t.mask p.i p.perturb).2<2^64;exact yH _ _ _ v.pt) a (a:=(lp t.mask 1 (p.i,p.perturb)).2);obtain⟨N,i,g,f⟩:=uV t (1+r) p v;refine⟨N,by unfold Ų;omega,?_⟩;rw[f (by omega),g,yC];rw[show lp t.mask 1 (p.i,p.perturb)=((lp t.mask 1 (p.i,p.perturb)).1,(lp t.mask 1 (p.i,p.perturb)).2)from rfl,e];exact d
theorem first{P:Nat->Prop}[DecidablePred P]:∀(b:Nat),(∃n,n<b/\P n)->∃n,n<b/\P n/\∀k,k<n->¬P k
 |0,⟨n,h,_⟩=>absurd h (Xg _)|b+1,⟨n,h,a⟩=>by
  by_cases q:∃n,n<b/\P n
  ·obtain⟨n,i,g,f⟩:=first b q;exact⟨n,by omega,g,f⟩
  · have d:n=b:=by have:¬n<b:=λz=>q ⟨n,z,a⟩;omega
    subst d;exact⟨n,by omega,a,λk e z=>q ⟨k,e,z⟩⟩
theorem LJ{t:SetTable}(T:Tb t b){p:Probe}(v:Vp t p):∃N,N<10*Ų t.mask/\t.slot (advN t N p).j=.empty/\∀k,k<N->t.slot (advN t k p).j≠.empty:=first (P:=λb=>t.slot (advN t b p).j=.empty) _ (Qa T v)
theorem EB{t:SetTable}{n:Nat}(T:Tb t n)(a:Nat->Int)(h:Int):∀(N b:Nat)(p:Probe),Vp t p->N<b->t.slot (advN t N p).j=.empty->(∀k,k<N->t.slot (advN t k p).j≠.empty)->Zh t a h b p=Z (.empty (advN t N p).j U)\/∃m i,m<N/\t.slot (advN t m p).j=.live i/\t.place[i]?=Z (advN t m p).j/\a i=h/\Zh t a h b p=Z (.candidate (advN t m p).j i (advN t (m+1) p))
 |N,0,p,v,e,_,_=>absurd e (Xg _)|0,b+1,p,v,e,f,_=>by refine .inl ?_;unfold Zh;rw[show t.slot p.j=.empty from f];show Z (Met.empty p.j p.dummy)=_;rw[v.dm];rfl|N+1,b+1,p,v,e,f,j=>by
  rcases nZ T p.j with A|⟨i,g,z⟩;·exact absurd A (j 0 (by omega))
  · by_cases d:a i=h;·refine .inr ⟨0,i,by omega,g,z,d,?_⟩;unfold Zh;rw[g];dsimp only;rw[if_pos (by simpa using d)];rfl
    · have o:Zh t a h (b+1) p=Zh t a h b (t.advance p):=by
       conv=>lhs;unfold Zh
       rw[g];dsimp only;rw[if_neg (by simpa using d)]
      rcases EB T a h N b (t.advance p) v.adv (by omega) f (λk H=>j (k+1) (by omega))with q|⟨m,y,E,w,u,s,r⟩;·exact .inl (by rw[o,q];rfl)
      ·exact .inr ⟨m+1,y,by omega,w,u,s,by rw[o,r];rfl⟩
theorem yK{t:SetTable}(h:Int):Vp t (t.probeStart h):=⟨by show bits h%(t.mask+1)<=t.mask;exact V3 (YT _ (XN t.mask)),by show bits h<2^64;unfold bits;have b:=VZ h (show(2^64:Int)≠0 by decide);have a:=Vo h (show(0:Int)<2^64 by decide);omega,qY _ _,rfl⟩
theorem q8{m:Nat}{a:Array (Option Nat)}:∀(b i d:Nat),i<=m->(∃r,r<b/\(a.getD (lp m r (i,d)).1 (Z 0)).isNone=L)->∃j,X8 m a b i d=Z j/\(a.getD j (Z 0)).isNone=L
 |0,i,d,_,⟨r,h,_⟩=>absurd h (Xg _)|b+1,i,d,n,⟨r,h,e⟩=>by
  unfold X8;split;·rename_i k f;exact⟨i+k,rfl,by simpa using abx f⟩
  ·rename_i f;cases r with|zero=>have g:0∈p_ (abM m i+1-i):=TX.mpr (by unfold abM;split<;>omega);have:=YX.mp f 0 g;exact absurd (show(a.getD (i+0) (Z 0)).isNone=L from e) this|succ r=>exact q8 b _ _ (by show(i*5+1+d/32)%(m+1)<=m;exact V3 (YT _ (XN m))) ⟨r,by omega,e⟩
theorem EC:∀(l:List (Option Nat))(j k:Nat),l[j]?=Z U->((l.set j (Z k)).filterMap id).Perm (k::l.filterMap id)
 |[],j,k,h=>by simp at h|x::l,0,k,h=>by
  have:x=U:=by simpa using h
  subst this;simp|x::l,j+1,k,h=>by have a:=EC l j k (by simpa using h);cases x with|none=>simpa using a|some y=>show List.Perm (y::(l.set j (Z k)).filterMap id) (k::y::l.filterMap id);exact(a.cons y).trans (abT ..)
theorem yL:∀(l:List (Option Nat)),(l.filterMap id).length<l.length->∃j,j<l.length/\l[j]?=Z U|[],h=>by simp at h|none::l,h=>⟨0,by simp,rfl⟩|some y::l,h=>by obtain⟨j,b,a⟩:=yL l (by simpa using h);exact⟨j+1,by simpa using b,by simpa using a⟩
noncomputable def GT(m:Nat)(b:Option (Array (Option Nat)×Nat))(h:Int):Option (Array (Option Nat)×Nat):=do let(a,k)<-b let j<-X8 m a (Ų m) (bits h%(m+1)) (bits h)pure (a.setIfInBounds j (Z k),k+1)
theorem GU(h:Int):bits h<2^64:=by unfold bits;have b:=VZ h (show(2^64:Int)≠0 by decide);have a:=Vo h (show(0:Int)<2^64 by decide);omega
theorem getD_none{a:Array (Option Nat)}(h:(a.getD b (Z 0)).isNone=L):b<a.size/\a.toList[b]?=Z U:=by rw[WR]at h;cases q:a[b]? with|none=>rw[q]at h;simp at h|some x=>
 rw[q]at h;have d:x=U:=by simpa using h
 subst d;refine⟨(Vj.mp q).1,by rw[VT];exact q⟩
theorem yM{m:Nat}(c:w9 m=L):∀(b:List Int)(a:Array (Option Nat))(k:Nat),a.size=m+1->(a.toList.filterMap id).Perm (p_ k)->k+b.length<=m->∃d,b.foldl (GT m) (Z (a,k))=Z (d,k+b.length)/\d.size=m+1/\(d.toList.filterMap id).Perm (p_ (k+b.length))
 |[],a,k,f,g,n=>⟨a,rfl,f,g⟩|h::b,a,k,f,g,n=>by
  have z:k+(b.length+1)<=m:=by simpa using n
  obtain⟨p,y,o⟩:=yL a.toList (by rw[g.length_eq,WQ];simp only[UZ,f];omega);have i:p<=m:=by simp only[UZ,f]at y;omega
  obtain⟨r,E,w⟩:=yF c (i:=bits h%(m+1)) (a:=bits h) (V3 (YT _ (XN m))) (GU h) i;obtain⟨j,f1,R⟩:=q8 (m:=m) (a:=a) (Ų m) (bits h%(m+1)) (bits h) (V3 (YT _ (XN m))) ⟨r,by unfold Ų;omega,by rw[w,WR];rw[VT]at o;rw[o];rfl⟩;obtain⟨A,q⟩:=getD_none R;have e:GT m (Z (a,k)) h=Z (a.setIfInBounds j (Z k),k+1):=by show(X8 m a (Ų m) (bits h%(m+1)) (bits h)).bind (λj=>Z (a.setIfInBounds j (Z k),k+1))=_;rw[f1];rfl
  rw[ZT,e];obtain⟨d,v,u,s⟩:=yM c b (a.setIfInBounds j (Z k)) (k+1) (by rw[Array.size_setIfInBounds];exact f) (by rw[Array.toList_setIfInBounds];refine(EC _ _ _ q).trans ((g.cons k).trans ?_);rw[WE];exact(YU k (p_ k)).symm) (by omega);refine⟨d,?_,u,?_⟩;·rw[v];simp only[TQ];congr 2;omega
  ·simp only[TQ];rw[show k+(b.length+1)=k+1+b.length by omega];exact s
theorem tf(c:w9 b=L)(d:Array Int)(i:d.size<=b):∃f,layClean b d=Z f/\f.size=b+1/\(f.toList.filterMap id).Perm (p_ d.size):=by obtain⟨f,o,n,m⟩:=yM c d.toList (ZW (b+1) U) 0 (by simp) (by simp[List.filterMap_replicate]) (by simpa using i);refine⟨f,?_,n,by simpa using m⟩;unfold layClean;rw[<-Array.foldl_toList];have e:(List.foldl (λg h=>do let(a,k)<-g let j<-X8 b a (Ų b) (bits h%(b+1)) (bits h)pure (a.setIfInBounds j (Z k),k+1)) (Z (ZW (b+1) U,0)) d.toList:Option (Array (Option Nat)×Nat))=d.toList.foldl (GT b) (Z (ZW (b+1) U,0)):=rfl;rw[e,o];rfl
theorem uW:∀(l:List (Option Nat))(a:Nat),((p_ l.length).filterMap λj=>(l.getD j U).map (λx=>(a+j,x))).map (·.2)=l.filterMap id
 |[],a=>rfl|x::l,a=>by
  rw[TQ,XR,W_,YY];have b:=uW l (a+1);have e:(p_ l.length).filterMap ((λj=>((x::l).getD j U).map (λx=>(a+j,x)))∘Nat.succ)=(p_ l.length).filterMap λj=>(l.getD j U).map (λx=>(a+1+j,x)):=by congr 1;funext j;show((x::l).getD (j+1) U).map _=_;simp only[List.getD_cons_succ];rw[show a+(j+1)=a+1+j by omega]
  rw[e];cases x with|none=>simpa using b|some y=>simp only[List.getD_cons_zero,VY,E_];rw[b];rfl
variable{ι:Nat}
theorem GV(c:w9 b=L)(f:Array Int)(h:f.size<=b):∃t a,laid b k ι H Ä f=Z (t,a)/\t.mask=b/\t.moves=ι/\t.led=H/\t.plain=Ä/\Tb t f.size/\a.toList.Perm (p_ f.size):=by
 obtain⟨g,n,m,i⟩:=tf c f h;have e:=uW g.toList 0;have d:((p_ (b+1)).filterMap λj=>(g.getD j U).map (j,·))=((p_ g.toList.length).filterMap λj=>(g.toList.getD j U).map (λx=>(0+j,x))):=by rw[UZ,m];congr 1;funext j;rw[Wz,WR,Vi,VT]
 refine⟨_,_,by unfold laid;rw[n];rfl,rfl,rfl,rfl,rfl,⟨?_,rfl,c,h⟩,?_⟩;·simp only[H_,P_];rw[d];have:=congrArg Yh e;rw[P_]at this;rw[this,i.length_eq,WQ]
 ·rw[aaq,d,e];exact i
theorem j3(a:Array ε)(p:Nat)(x:ε)(h:p<=a.size):(insertAt a p x).size=a.size+1:=by unfold insertAt;simp only[aa7,Array.size_push,Array.size_extract];omega
theorem uX(b:Array Nat)(j:Nat):below b j<=b.size:=by
 unfold below;have:∀(a lo d:Nat),lo<=d->d<=b.size->ab2 b j a lo d<=b.size:=by intro a;induction a with|zero=>intro lo d g f;unfold ab2;omega|succ a e=>
  intro lo d g f;unfold ab2;split
  · rename_i h;dsimp only;split;·exact e _ _ (by omega) f
    ·exact e _ _ (by omega) (by omega)
  ·omega
 exact this _ _ _ (Ua _) (pi _)
theorem LK{t:SetTable}(T:Tb t b)(h:b+1<=t.mask)(j:Nat):Tb (t.put j).1 (b+1)/\(t.put j).2<=b/\(t.put j).1.mask=t.mask/\(t.put j).1.led=t.led/\(t.put j).1.moves=t.moves:=by
 unfold SetTable.put;refine⟨⟨?_,?_,T.cyc,h⟩,?_,rfl,rfl,rfl⟩;·show(insertAt t.place (below t.place j) j).size=b+1;rw[j3 _ _ _ (uX _ _),T.size]
 ·show(if has t.dummies j then eraseAt t.dummies (below t.dummies j)else t.dummies)=#[];rw[T.dm,yI];rfl
 ·show below t.place j<=b;rw[<-T.size];exact uX _ _
abbrev TK(b:n_)(w:x_)(h:TC)(k:List Str)(a:O):Prop:=IsTupleKey (strKind b w) h k a
abbrev Ĩ(a:n_)(w:x_)(k:List Str):Int:=tupleKeyHash (strKind a w) k
theorem q9(h:ItemsAre (strKind s r) A θ):∀v∈θ,∃x t,v=.str x t:=by induction h with|nil=>intro v a;simp at a|@cons g e f θ d _ b=>
 intro v a;rcases uk.mp a with rfl|a;·obtain⟨t,rfl⟩:=aal d;exact⟨_,_,rfl⟩
 ·exact b v a
theorem yN{Q:Bool->ge->Prop}(j:TK s r f.heap A e)(h:Q D f):u_ (D_ s r) N (ofAClassStatement 8 (.ref e)) Q χ f:=by
 have hT:=j.typeIs;obtain⟨o,items,n,k,_,p,m⟩:=j;unfold ofAClassStatement;refine e_ (Xx hT ?_);show u_ _ _ ((if("tuple"=="tuple")=L then pure L else isSubtype (.type "tuple") (.type "tuple"))>>=_) _ _ f;rw[if_pos (by decide)];refine e_ (l_ ?_);simp only[Xe,xy,if_false];refine e_ (Vx k p ?_);refine e_ ?_;show u_ _ _ (V' items _ _) _ _ f;rw[<-Xo];refine WX _ (λrest a d=>a.1=U/\d=f/\∀v∈rest,∃x t,v=Wh x t) _ ?_ ?_ _ _ ⟨rfl,rfl,q9 m⟩;·rintro v rest a d⟨g,rfl,b⟩;obtain⟨x,t,rfl⟩:=b v q_;refine e_ (l_ ?_);simp only[xy,if_false];exact l_ ⟨rfl,rfl,λu i=>b u (r_ _ i)⟩
 ·rintro⟨w,q⟩d⟨g,rfl,_⟩;simp only at g;subst g;exact l_ h
theorem LL(n:TK s r f.heap A e){l:List B}(p:∀v∈l,∃i a,v=.ref a/\TK s r f.heap i a){Q:Bool->ge->Prop}(h:Q D f):u_ (D_ s r) N (searchCouldBeSeen (.ref e) l) Q χ f:=by
 unfold searchCouldBeSeen;refine e_ ?_;refine WX _ (λrest b j=>b.1=U/\j=f/\∀v∈rest,∃i a,v=z_ a/\TK s r f.heap i a) _ ?_ ?_ _ _ ⟨rfl,rfl,p⟩
 · rintro v rest b j⟨k,rfl,g⟩;obtain⟨i,a,rfl,o⟩:=g v q_;have d:∀v∈rest,∃i a,v=z_ a/\TK s r j.heap i a:=λu m=>g u (r_ _ m);dsimp only;split;·exact l_ ⟨rfl,rfl,d⟩
   ·refine e_ (ZX n ?_);simp only[Xe,xy,if_false];refine e_ (ZX o ?_);simp only[Xe,xy,if_false];refine e_ (yN n ?_);simp only[xy,if_false];refine e_ (yN o ?_);simp only[xy,if_false];exact l_ ⟨rfl,rfl,d⟩
 ·rintro⟨w,q⟩j⟨k,rfl,_⟩;simp only at k;subst k;exact l_ h
def ŷ(b:n_)(w:x_)(h:TC)(d:List (List Str))(f:List (Int×B)):Prop:=∀e∈f,∃k a,k∈d/\e.2=.ref a/\TK b w h k a
theorem pq{t:SetTable}(T:Tb t b):t.fits b=L:=by unfold SetTable.fits abY;rw[T.size,T.dm];simp[T.room]
theorem yO{o:Obj}{w:Array (Int×B)}{t:SetTable}{ks:List (List Str)}{Q:SetFound->ge->Prop}(hu:N.units<cLine)(ho:f.heap.get? e=Z o)(hd:o.data=.set w b t)(T:Tb t w.size)(hm:t.mask%2=1)(hE:ŷ s r f.heap ks w.toList)(hx:TK s r f.heap A z)(hk:A∉ks):∀(d k:Nat)(st:Option Probe),(∀p,st=Z p->Vp t p)->d<k->t.slot (advN t d (st.getD (t.probeStart n))).j=.empty->(∀m,m<d->t.slot (advN t m (st.getD (t.probeStart n))).j≠.empty)->d<10*Ų t.mask->(∀j,Q (.free j D) f)->u_ (D_ s r) N (Y8 e (.ref z) n H k st) Q χ f:=by intro d;induction d using Nat.strongRecOn with|_ d ih=>intro k st hv hf he hn hN hQ;cases k with|zero=>exact absurd hf (Xg _)|succ k=>
 have I:=pq T;have v:Vp t (st.getD (t.probeStart n)):=by cases st with|none=>exact yK n|some p=>exact hv p rfl
 unfold Y8;refine e_ (WM ho hd I ?_);dsimp only;have f':t.gaveWay=D:=by unfold SetTable.gaveWay;rw[hm];rfl
 rw[f'];simp only[xy,if_false];unfold SetTable.probe;rcases EB T _ n d _ (st.getD (t.probeStart n)) v hN he hn with q|⟨m,i,n',q1,q2,q3,q5⟩;·rw[q];dsimp only;exact l_ (hQ _)
 · rw[q5];dsimp only;have hi:i<w.size:=by have:=(Vj.mp q2).1;rw[T.size]at this;exact this
   obtain⟨k',a,e',ea,ta⟩:=hE w[i] (V5.mpr (Array.getElem_mem hi));have hg:w[i]?=Z (w[i].1,.ref a):=by rw[Array.getElem?_eq_getElem hi,<-ea]
   have rest:u_ (D_ s r) N (do
    let Z (_,y):=w[i]?|abn "internal:set-entry"
    let u<-WY [y] (eqBool y (.ref z))let(l',_,t')<-setState e if(H&&u)=L then return SetFound.there U
    let Z same:=t'.sameMemory t.moves t.mask|abn "set.changed-during-lookup:is-the-new-block-at-the-old-address"
    let P<-match(if same then t'.slot (advN t m (st.getD (t.probeStart n))).j else .empty)with
     |.live i'=>match l'[i']? with|some (_,y')=>do pure (if<-isSame y' y then Z i' else U)|none=>pure U
     |_=>pure U
    match P with|none=>rule "set.search.anew";Y8 e (.ref z) n H k U|some i'=>if u then return .there (Z i')else Y8 e (.ref z) n H k (Z (advN t (m+1) (st.getD (t.probeStart n))))) Q χ f:=by
    rw[hg];dsimp only;refine e_ (U9 (wpAny_eqBool_tuple hu ta hx ?_));have d':t_ (k'=A)=D:=decide_eq_false λh=>hk (h▸e');rw[d'];refine e_ (WM ho hd I ?_);dsimp only;rw[Bool.and_false];simp only[xy,if_false];have c':t.sameMemory t.moves t.mask=Z L:=by unfold SetTable.sameMemory;simp
    rw[c'];dsimp only;rw[if_pos rfl,q1];dsimp only;rw[hg];dsimp only;have a':isSame (z_ a) (z_ a)=pure L:=by unfold isSame;dsimp only;rw[if_pos (by simp)]
    rw[a'];refine e_ (e_ (l_ (l_ ?_)));rw[if_pos rfl];refine ih (d-(m+1)) (by omega) k (Z (advN t (m+1) (st.getD (t.probeStart n)))) (λp hp=>by cases hp;exact Vp.advN (m+1) v) (by omega) ?_ ?_ (by omega) hQ;·show t.slot (advN t (d-(m+1)) (advN t (m+1) (st.getD (t.probeStart n)))).j=.empty;rw[<-jZ,show m+1+(d-(m+1))=d by omega];exact he
    ·intro x m';show t.slot (advN t x (advN t (m+1) (st.getD (t.probeStart n)))).j≠.empty;rw[<-jZ];exact hn _ (by omega)
   by_cases E:t.led=L;·rw[E];simp only[Xe,xy,if_false];exact rest
   · have b':t.led=D:=by simpa using E
     rw[b'];simp only[XY,if_true];refine e_ (LL hx (λv hv=>?_) ?_)
     · obtain⟨g,h',rfl⟩:=R_.mp hv;have g':g∈w.toList:=by have:=V5.mp h';rw[Array.mem_filter]at this;exact V5.mpr this.1
       obtain⟨k2,a2,_,e2,t2⟩:=hE g g';exact⟨k2,a2,e2,t2⟩
     ·simp only[xy,if_false];exact rest
abbrev ŋ(w:x_):Bool:=w.params.followText "set-order"
def Mk(m n:Nat):Prop:=(m=7/\n<=4)\/(m=31/\n<=18)\/(m=127/\n<=20)
def ĕ(a:n_)(w:x_)(h:TC)(S:O)(d:List (List Str))(e:List B)(n:Nat):Prop:=∃o b f t,h.get? S=Z o/\o.ExactSet/\o.data=.set b f t/\b.size=n/\Tb t n/\Mk t.mask n/\ŷ a w h d b.toList/\(b.toList.map (·.2)).Perm e/\t.led=(!ŋ w)/\((∀k∈d,k≠[])->n≠0->t.plain=D)
theorem tq{Q:Bool->ge->Prop}(m:TK s r f.heap A e)(h:∀b,(A≠[]->b=D)->Q b f):u_ (D_ s r) N (hashByValue 8 (.ref e)) Q χ f:=by
 have hT:=m.typeIs;obtain⟨o,items,n,p,_,q,k⟩:=m;have w:items.toList=[]->A=[]:=λd=>by rw[d]at k;cases k;rfl
 unfold hashByValue;refine e_ (wpAny_specialOf hT F.slot_tuple_hash.lookup ?_);dsimp only;refine e_ (Vx p q ?_);refine e_ ?_;show u_ _ _ (V' items _ _) _ _ f;rw[<-Xo];refine WX _ (λrest a i=>a.1=U/\i=f/\(∀v∈rest,∃x t,v=Wh x t)/\(rest=[]->A=[])) _ ?_ ?_ _ _ ⟨rfl,rfl,q9 k,w⟩;·rintro v rest a i⟨j,rfl,g,_⟩;obtain⟨x,t,rfl⟩:=g v q_;refine e_ (l_ ?_);simp only[XY,if_true];refine l_ ?_;exact l_ (h _ λ_=>rfl)
 ·rintro⟨E,y⟩i⟨j,rfl,_,u⟩;simp only at j;subst j;exact l_ (h _ λz=>absurd (u rfl) z)
theorem TK.keeps{g:TC}{o:Obj}{p q t}(x:TK s r I A e)(i:I.get? z=Z o)(k:o.data=.set p q t)(h:V2 z I g):TK s r g A e:=by
 obtain⟨f,items,n,b,m,a,j⟩:=x;have d:e≠z:=by rintro rfl;obtain rfl:f=o:=Ub (b.symm.trans i);rw[k]at a;exact nomatch a
 exact⟨f,items,n,(h.2 e d).trans b,m,a,j⟩
theorem ŷ.keeps{f:TC}{d:List (List Str)}{l:List (Int×B)}{o:Obj}{q u t}(x:ŷ s r I d l)(h:I.get? e=Z o)(j:o.data=.set q u t)(g:V2 e I f):ŷ s r f d l:=λb i=>by obtain⟨k,a,p,n,m⟩:=x b i;exact⟨k,a,p,n,m.keeps h j g⟩
theorem rf{o:Obj}{h a:Array (Int×B)}{t d:SetTable}(g:I.get? e=Z o)(f:o.data=.set h b t):(I.update e (YN a d)).get? e=Z {o with data:=.set a (b+1) d}:=by have:=WK (YN a d) g (by rw[putSet_of a d f];rfl);rw[putSet_of a d f]at this;exact this
theorem ŷ.insert{h:List (List Str)}{g:Array (Int×B)}(m:ŷ s r I h g.toList)(k:TK s r I A e):ŷ s r I (A::h) (TN g b (n,.ref e)).toList:=λd j=>by
 have f:=(ZB g b (n,z_ e)).mem_iff.mp j;rw[aa6]at f;rcases TH.mp f with q|q;·obtain⟨i,a,u,p,o⟩:=m d q;exact⟨i,a,r_ _ u,p,o⟩
 ·rw[M_]at q;subst q;exact⟨A,e,q_,rfl,k⟩
theorem yQ{t:SetTable}(T:Tb t b):t.fill=b:=by unfold abY;rw[T.size,T.dm];simp
theorem oa(h:b<=20):b<=sizeLine:=by rw[X_];omega
theorem B9(a:Array ε):(p_ a.size).filterMap (λi=>a[i]?)=a.toList:=by
 apply aa3;intro i;have:(p_ a.size).filterMap (λi=>a[i]?)=(p_ a.size).pmap (λi h=>a[i]) (λi h=>TX.mp h):=by
  rw[List.pmap_eq_map_attach,<-List.filterMap_eq_map];conv=>lhs;rw[<-List.attach_map_subtype_val (p_ a.size)]
  rw[YY];congr 1;funext⟨i,b⟩;simp[TX.mp b]
 rw[this];simp[List.getElem?_pmap,Wd];by_cases b:i<a.size;·simp[b]
 ·simp[b]
theorem GW{d:Array Int}{t:SetTable}{a:Array Nat}(e:laid b k ι H Ä d=Z (t,a)):t.led=H/\t.plain=Ä:=by unfold laid at e;cases f:layClean b d with|none=>rw[f]at e;cases e|some o=>rw[f]at e;cases e;exact⟨rfl,rfl⟩
theorem LM{ks:List (List Str)}{Q:Bool->ge->Prop}(hu:N.units<cLine)(hS:ĕ s r f.heap e ks θ b)(hx:TK s r f.heap A z)(hk:A∉ks)(hn:b+1<=20)(h:∀h',V2 e f.heap h'->ĕ s r h' e (A::ks) (.ref z::θ) (b+1)->Q L {f with heap:=h'}):u_ (D_ s r) N (setAddHashed e (.ref z) (Ĩ s r A)) Q χ f:=by
 obtain⟨o,u,ep,t,ho,hex,hd,w,T,hm,hE,m',b',q'⟩:=hS;have k':=pq T;have E:t.fits u.size=L:=by rw[w];exact k'
 have i':t.mask%2=1:=by rcases hm with⟨a,_⟩|⟨a,_⟩|⟨a,_⟩<;>rw[a]
 have f':b+1<=t.mask:=by rcases hm with⟨a,q⟩|⟨a,q⟩|⟨a,q⟩<;>omega
 unfold setAddHashed setAddHashedIn;refine U9 (e_ (WM ho hd E ?_));dsimp only;have o':byScan (z_ z) u=D:=by unfold byScan;rfl
 rw[o'];simp only[xy,if_false];unfold setSearch;obtain⟨g,h1,h2,h3⟩:=LJ T (yK (t:=t) (Ĩ s r A));have r':t.mask<=127:=by rcases hm with⟨a,_⟩|⟨a,_⟩|⟨a,_⟩<;>omega
 refine e_ (yO (ks:=ks) hu ho hd (by rw[w];exact T) i' hE hx hk g 100000 U (λp hp=>by cases hp) (by unfold Ų at h1;omega) h2 h3 h1 λj=>?_);dsimp only;refine e_ (WM ho hd E ?_);dsimp only;obtain⟨P1,P2,P3,P4,P5⟩:=LK T f' j;have a':((TN u (t.put j).2 (Ĩ s r A,z_ z)).toList.map (·.2)).Perm (.ref z::θ):=by refine((ZB u (t.put j).2 (Ĩ s r A,z_ z)).map (·.2)).trans ?_;rw[aa6,UH];exact(m'.append_right _).trans (YU _ _)
 have go:∀I:Bool,((∀x∈A::ks,x≠[])->(if I then(t.put j).1 else{(t.put j).1 with plain:=D}).plain=D)->u_ (D_ s r) N (do
  storeSet e (TN u (t.put j).2 (Ĩ s r A,.ref z)) (if I then(t.put j).1 else{(t.put j).1 with plain:=D})if(!D&&(if I then(t.put j).1 else{(t.put j).1 with plain:=D}).tooFull)=L then setRelay e (Z7 (u.size+1))
  return L) Q χ f:=by
  intro I e';have T2:∃k,(if I then(t.put j).1 else{(t.put j).1 with plain:=D})=k/\Tb k (b+1)/\k.mask=t.mask/\k.led=t.led:=by cases I with|true=>exact⟨_,rfl,P1,P3,rfl⟩|false=>exact⟨_,rfl,⟨P1.size,P1.dm,P1.cyc,P1.room⟩,P3,rfl⟩
  obtain⟨k,e2,T2,M2,L2⟩:=T2;rw[e2]at e'⊢;have m:(TN u (t.put j).2 (Ĩ s r A,z_ z)).size=b+1:=by rw[j3 _ _ _ (by rw[w];exact P2),w]
  refine e_ (wpAny_storeSet_of ho hd ?_ (by rw[m];exact oa hn));have c':=VH f.heap e (YN (TN u (t.put j).2 (Ĩ s r A,z_ z)) k);have hg:=rf (a:=TN u (t.put j).2 (Ĩ s r A,z_ z)) (d:=k) ho hd;have g':ŷ s r (f.heap.update e (YN (TN u (t.put j).2 (Ĩ s r A,z_ z)) k)) (A::ks) (TN u (t.put j).2 (Ĩ s r A,z_ z)).toList:=(hE.insert hx).keeps ho hd c';by_cases hf:k.tooFull=L
  · rw[hf];simp only[XY,Bool.and_self,if_true];have H:k.fill*5>=k.mask*3:=by unfold abc at hf;simpa using hf
    rw[yQ T2,M2]at H;have h5:b=4\/b=18:=by rcases hm with⟨a,q⟩|⟨a,q⟩|⟨a,q⟩<;>rw[a]at H<;>omega
    obtain⟨M,hM,cM,lM,kM⟩:∃M,sizeAbove (Z7 (b+1))-1=M/\w9 M=L/\b+1<=M/\Mk M (b+1):=by
     rcases h5 with rfl|rfl;·exact⟨31,by decide,P9,by decide,.inr (.inl ⟨rfl,by decide⟩)⟩
     ·exact⟨127,by decide,LG,by decide,.inr (.inr ⟨rfl,by decide⟩)⟩
    unfold setRelay;refine e_ (e_ (WM hg rfl (by rw[m];exact pq T2) ?_));dsimp only;rw[w];rw[if_neg (by rw[X_];rcases h5 with a|a<;>rw[a]<;>decide)];have l':k.relaid ((TN u (t.put j).2 (Ĩ s r A,z_ z)).map (·.1)) (Z7 (b+1))=laid M k.finger (k.movedTo M) k.led k.plain ((TN u (t.put j).2 (Ĩ s r A,z_ z)).map (·.1)):=by unfold SetTable.relaid;rw[hM]
    obtain⟨t3,n,r1,r2,r3,r4,r5,r6,r7⟩:=GV (k:=k.finger) (ι:=k.movedTo M) (H:=k.led) (Ä:=k.plain) cM ((TN u (t.put j).2 (Ĩ s r A,z_ z)).map (·.1)) (by rw[XZ,m];omega);have r8:t3.led=k.led/\t3.plain=k.plain:=GW r1;rw[l',r1];rw[XZ,m]at r6 r7;have v:(n.filterMap (λi=>(TN u (t.put j).2 (Ĩ s r A,z_ z))[i]?)).toList.Perm (TN u (t.put j).2 (Ĩ s r A,z_ z)).toList:=by rw[Array.toList_filterMap];refine(r7.filterMap _).trans ?_;rw[<-m,B9]
    have y:(n.filterMap (λi=>(TN u (t.put j).2 (Ĩ s r A,z_ z))[i]?)).size=b+1:=by rw[<-UZ,v.length_eq,UZ,m]
    show u_ (D_ s r) N ((if((n.filterMap (λi=>(TN u (t.put j).2 (Ĩ s r A,z_ z))[i]?)).size !=(TN u (t.put j).2 (Ĩ s r A,z_ z)).size)=L then(abn "internal:set-table-lost-an-element":Sem _)else pure (n.filterMap (λi=>(TN u (t.put j).2 (Ĩ s r A,z_ z))[i]?),t3))>>=λx=>storeSet e x.1 x.2) _ _ _;rw[if_neg (by rw[y,m];simp)];refine e_ (l_ ?_);refine wpAny_storeSet_of hg rfl ?_ (by rw[y];exact oa hn);have P:=VH (f.heap.update e (YN (TN u (t.put j).2 (Ĩ s r A,z_ z)) k)) e (YN (n.filterMap (λi=>(TN u (t.put j).2 (Ĩ s r A,z_ z))[i]?)) t3);refine l_ (h _ (c'.trans P) ⟨_,_,_,t3,rf hg rfl,hex,rfl,y,r6,by rw[r2];exact kM,?_,(v.map (·.2)).trans a',r8.1.trans (L2.trans b'),λd _=>r8.2.trans (e' d)⟩);have p':=g'.keeps hg rfl P;exactλa he=>p' a (v.mem_iff.mp he)
  · have d':k.tooFull=D:=by simpa using hf
    rw[d'];simp only[XY,Bool.and_false,xy,if_false];have H:¬(k.fill*5>=k.mask*3):=by unfold abc at d';simpa using d'
    rw[yQ T2,M2]at H;refine l_ (h _ c' ⟨_,_,_,k,hg,hex,rfl,m,T2,?_,g',a',L2.trans b',λd _=>e' d⟩);rw[M2];rcases hm with⟨a,q⟩|⟨a,q⟩|⟨a,q⟩;·exact .inl ⟨a,by omega⟩
    ·exact .inr (.inl ⟨a,by omega⟩)
    ·exact .inr (.inr ⟨a,hn⟩)
 cases n':(t.put j).1.plain with|true=>simp only[if_true];refine e_ (tq hx λI hb=>?_);refine go I λd=>?_;rw[hb (d A q_)];rfl|false=>simp only[xy,if_false];refine e_ (l_ ?_);exact go L λ_=>n'
theorem TK.moved{d:TC}(x:TK s r I A e)(g:∀o,I.get? e=Z o->d.get? e=Z o):TK s r d A e:=by obtain⟨f,items,n,a,i,b,h⟩:=x;exact⟨f,items,n,g _ a,i,b,h⟩
theorem ĕ.moved{g:TC}{f:List (List Str)}(x:ĕ s r I e f θ b)(v:∀o,I.get? e=Z o->g.get? e=Z o)(p:∀k∈f,∀a,TK s r I k a->TK s r g k a):ĕ s r g e f θ b:=by obtain⟨o,A,E,t,n,hex,u,h,T,i,w,m⟩:=x;exact⟨o,A,E,t,v _ n,hex,u,h,T,i,λd q=>let⟨k,a,j,z,y⟩:=w d q;⟨k,a,j,z,p k j a y⟩,m⟩
theorem Qb{R:aaG->ge->Prop}{E:List O}{G:Array abP->Array abP->Prop}{P:Nat->B->Prop}{St:Nat->ge->Prop}(W:WalksS s r N.in1 e ο E G b P St)(S:O)(e':S∉ο)(hu:N.in1.units<cLine)(q':E=[e])(hI:∀i d,St i d->∃o vs,d.heap.get? e=Z o/\o.data=.fields vs)(n:Nat->O)(m:Nat->List Str)(g':∀i v,P i v->v=.ref (n i))(hn:b<=20)(a':∀i j,i<b->j<b->m i=m j->i=j):∀(k i:Nat)(d:ge),b-i=k->i<=b->St i d->(∀j,j<b->TK s r d.heap (m j) (n j))->ĕ s r d.heap S (((p_ i).map m).reverse) (((p_ i).map λj=>z_ (n j)).reverse) i->(∀u,Moved (S::E) G d u->ĕ s r u.heap S (((p_ b).map m).reverse) (((p_ b).map λj=>z_ (n j)).reverse) b->R (.ok (.ret .none)) u)->WN (D_ s r) N (.builtin "set.update.loop" ⟨[.ref S,.ref e],[]⟩) R d:=by
 have d':S∉E:=λh=>e' (W.sub _ h);have A:∀f∈E,f∈S::E:=λf hb=>r_ _ hb;have z:∀{i:Nat}{d:ge}{k:List Str}{a:O},St i d->TK s r d.heap k a->a∉E:=λ{i d k a}p x q=>by rw[q',M_]at q;subst q;obtain⟨o',items,b,b',hc,c',hi⟩:=x;obtain⟨o,vs,w,hd⟩:=hI _ _ p;rw[w]at b';cases b';rw[hd]at c';cases c'
 intro k;induction k with|zero=>
 intro i d hk hi p hT hS hR;have t':i=b:=by omega
 subst t';refine Ym Zn ?_;rw[Ye Xr _];show u_ _ N.in1 (Yj (.ref e)>>=_) _ _ d;refine e_ (W.done d _ _ p λu q=>?_);show u_ _ N.in1 (ret J_) _ _ u;exact l_ (hR u (q.mono A) (hS.moved (λo w=>q.heap S _ d' w) λk' _ a x=>x.moved λo w=>q.heap a _ (z p x) w))|succ k ih=>
 intro i d hk hi p hT hS hR;have y:i<b:=by omega
 refine Ym Zn ?_;rw[Ye Xr _];show u_ _ N.in1 (Yj (.ref e)>>=_) _ _ d;refine e_ (W.item i d _ _ y p λv u hP i' q=>?_);have hv:=g' i v hP;subst hv;have I:∀j,j<b->TK s r u.heap (m j) (n j):=λj hj=>(hT j hj).moved λo w=>q.heap _ _ (z p (hT j hj)) w;have f':ĕ s r u.heap S (((p_ i).map m).reverse) (((p_ i).map λj=>z_ (n j)).reverse) i:=hS.moved (λo w=>q.heap S _ d' w) λk' _ a x=>x.moved λo w=>q.heap a _ (z p x) w;show u_ _ N.in1 (WY [z_ (n i)] (setAdd S (.ref (n i)))>>=_) _ _ u;refine e_ (U9 ?_);unfold setAdd;refine U9 ?_;refine e_ (wpAny_pyHash_tuple hu (I i y) ?_);have l':m i∉((p_ i).map m).reverse:=λq=>by rw[List.mem_reverse]at q;obtain⟨j,hj,g⟩:=R_.mp q;have x':=TX.mp hj;have:=a' j i (by omega) y g;omega
 refine LM (f:={u with toks:=u.toks+((m i).length+1)}) hu f' (I i y) l' (by omega) λh' H w'=>?_;obtain⟨oS,y',z',tS,r',_,u',_⟩:=f';have v':ĕ s r h' S (((p_ (i+1)).map m).reverse) (((p_ (i+1)).map λj=>z_ (n j)).reverse) (i+1):=by rw[WE,UH,aar,UH,aar];exact w'
 refine l_ ⟨plainId_quiet Xr _,ih (i+1) _ (by omega) y (W.frame _ u _ _ i' (by simp) λf hb o g=>?_) (λj hj=>(I j hj).keeps r' u' H) v' λp' m' n'=>?_⟩;·rw[H.2 f (λh:f=S=>e' (by rw[<-h];exact hb))];exact g
 ·refine hR p' (Moved.trans W.gtrans ((q.mono A).then_heap (by simp) λf o hb g=>?_) m') n';rw[H.2 f (λh:f=S=>hb (by rw[h];exact q_))];exact g
abbrev uY(a:Bool):Obj:={cls:=.type "set",dict:=U,data:=.set #[] 0 (.fresh 0 0 a)}
theorem GX(a:I.get? e=Z (uY (!ŋ r))):ĕ s r I e [] [] 0:=⟨_,#[],0,_,a,⟨rfl,rfl,rfl⟩,rfl,rfl,⟨rfl,rfl,SS,Ua _⟩,.inl ⟨rfl,by omega⟩,(λa b=>by simp at b),.refl _,rfl,λ_ z=>absurd rfl z⟩
theorem GY(a:B){b:B->ge->Prop}(h:b (.ref f.heap.objs.size) {f with heap:=f.heap.push (uY (!ŋ r))}):WN (D_ s r) N (.call (.builtin "set.__new__") ⟨[.type "set",a],[]⟩) (wants b χ) f:=by refine codeAny_of_tree ?_;show u_ _ N.in1 (do checkBuiltinCall "set.__new__" ⟨[.type "set",a],[]⟩;again (.builtin "set.__new__" ⟨[.type "set",a],[]⟩)) _ _ f;refine e_ (abl (F.newCall_set_1 a) (l_ ⟨plainId_quiet F.plain_set_new _,Ym F.entry_set_new ?_⟩));rw[Ye F.plain_set_new _];unfold Wc.«set.__new__»abR;have e:=sub_set_self;obtain⟨j,g,d,i,os⟩:=f;dsimp only;wp_walk;refine wpAny_askSetting (l_ ?_);dsimp only;simp only[newObj];exact e_ (wpAny_alloc (l_ (l_ h)))
theorem LN{g:Array B}{h:Nat->List Str}{m:Nat->O}{R:aaG->ge->Prop}(hh:N.handled=U)(hu:N.units+8<cLine)(hl:f.heap.IsList e g)(hk:∀i,i<g.size->g[i]?=Z (.ref (m i))/\TK s r f.heap (h i) (m i))(hn:g.size<=20)(q:∀i j,i<g.size->j<g.size->h i=h j->i=j)(hR:∀(u:TC)(tk:Nat),ĕ s r u f.heap.objs.size (((p_ g.size).map h).reverse) (((p_ g.size).map λj=>z_ (m j)).reverse) g.size->(∀b o,b<f.heap.objs.size->f.heap.get? b=Z o->u.get? b=Z o)->R (.ok (.ret .none)) {f with heap:=u,toks:=tk}):WN (D_ s r) N (.call (.builtin "set.__init__") ⟨[.ref f.heap.objs.size,.ref e],[]⟩) R {f with heap:=f.heap.push (uY (!ŋ r))}:=by
 have hS:(f.heap.push (uY (!ŋ r))).get? f.heap.objs.size=Z (uY (!ŋ r)):=v_ _ rfl;have hT:abX {f with heap:=f.heap.push (uY (!ŋ r))} (.ref f.heap.objs.size) "set":=⟨_,hS,rfl⟩;refine codeAny_call_builtin Wv.init.plain F.entry_set_init (check_set_init_1 hT ?_);obtain⟨ol,w,E,nl,A⟩:=hl;obtain⟨m',p,l',n⟩:=ol;simp only at E A;subst E;subst A;have H:(f.heap.push (uY (!ŋ r))).get? e=Z {cls:=.type "list",dict:=p,data:=.seq g nl,slots:=n}:=j_ _ w;have s1:=F.sub_list_set;have s2:=F.sub_list_frozenset;have s3:(rl "list"==rl "dict")=D:=by decide
 have z:(f.heap.push (uY (!ŋ r))).IsList e g:=⟨_,H,rfl,nl,rfl⟩;unfold Wc.«set.__init__»noKeywords abw;generalize k':pyIter=PI;wp_walk;subst k';refine Xy z (e_ (wpAny_runValue ?_));have y:e<f.heap.objs.size:=y_ w;have I:e≠(f.heap.push (uY (!ŋ r))).objs.size:=by rw[Ur];exact TY (Y5 y)
 have f':f.heap.objs.size∉[(f.heap.push (uY (!ŋ r))).objs.size,e]:=by rw[Ur];simp only[uk,TD,or_false,not_or];exact⟨TY (Zo _),W3 y⟩
 have up:∀{k:List Str}{a:O},TK s r f.heap k a->TK s r ((f.heap.push (uY (!ŋ r))).push {cls:=.type "list_iterator",data:=.fields #[.ref e,.int 0 0]}) k a:=λx=>x.moved λo d=>j_ _ (j_ _ d);refine Qb ((abK (by simp[hh]) _ e I g).toS) f.heap.objs.size f' (by show N.units+1+1<cLine;omega) rfl (λi s' st=>by obtain⟨⟨o,ho,_,hd⟩,_⟩:=st;exact⟨o,_,ho,hd⟩) m h (λi v hv=>?_) hn q (g.size-0) 0 _ (by omega) (Ua _) ⟨⟨_,v_ _ rfl,rfl,rfl⟩,(z.push _)⟩ (λj hj=>up (hk j hj).2) ?_ ?_;·have hi:i<g.size:=(Vj.mp hv).1;have:=(hk i hi).1;rw[this]at hv;exact(Ub hv).symm
 ·exact GX (j_ _ hS)
 · intro s' P i';obtain⟨u,g',d',a',b'⟩:=s';have eg:g'=f.gens:=P.gens;have ed:d'=f.drawn:=P.drawn;have eo:b'=f.os:=P.os;subst eg;subst ed;subst eo;show u_ _ _ _ _ _ _;refine l_ ?_;show u_ _ _ (ret J_) _ _ _;refine l_ (hR u a' i' λb o hb d=>?_);have e':b≠f.heap.objs.size:=TY hb;have c':b≠(f.heap.push (uY (!ŋ r))).objs.size:=by rw[Ur];exact TY (Y5 hb)
   exact P.heap b o (by simp only[uk,TD,or_false,not_or];exact⟨e',c'⟩) (j_ _ (j_ _ d))
theorem call_set_T{g:Array B}{m:Nat->List Str}{p:Nat->O}(hh:N.handled=U)(hu:N.units+16<cLine)(hl:f.heap.IsList e g)(hk:∀i,i<g.size->g[i]?=Z (.ref (p i))/\TK s r f.heap (m i) (p i))(hn:g.size<=20)(v:∀i j,i<g.size->j<g.size->m i=m j->i=j)(h:∀(n:TC)(y:Nat),ĕ s r n f.heap.objs.size (((p_ g.size).map m).reverse) (((p_ g.size).map λj=>z_ (p j)).reverse) g.size->(∀b o,b<f.heap.objs.size->f.heap.get? b=Z o->n.get? b=Z o)->Ç (.ref f.heap.objs.size) {f with heap:=n,toks:=y}):u_ (D_ s r) N (call (.type "set") [.ref e]) Ç χ f:=by
 obtain⟨c,tl,b'⟩:=Wv.mro;have P:=Wv.made;have a':=Wv.sub;refine aaD (codeAny_of_tree ?_);show u_ _ _ (callAny (.type "set") _) _ _ _;refine l_ ⟨Code.quiet_builtin _ (by decide+kernel),Ym F.entry_type_call ?_⟩;rw[Around.under_plain (weight_type_call_type "set" [.ref e] []) rfl];have h1:=Wv.notType;have h2:=Wv.canCreate;have d':=F.typeCall_set_1 (.ref e);repeat(any_goals(first|assumption|wp_step))
 refine WZ (GY (.ref e) (χ:=χ) (b:=λz u=>z=.ref f.heap.objs.size/\u={f with heap:=f.heap.push (uY (!ŋ r))}) ⟨rfl,rfl⟩) λa u E=>?_;cases a with|error d=>exact E|ok fl=>cases fl with
 |ret z=>
  obtain⟨rfl,rfl⟩:=E;have hT:abX {f with heap:=f.heap.push (uY (!ŋ r))} (.ref f.heap.objs.size) "set":=⟨_,v_ _ rfl,rfl⟩;have c':=Wv.init.lookup;have e':=Wv.init.bind (.ref f.heap.objs.size);repeat(any_goals(first|assumption|wp_step))
  refine WZ (LN (R:=wants (λa q=>a=.none/\∃n y,q={f with heap:=n,toks:=y}/\ĕ s r n f.heap.objs.size (((p_ g.size).map m).reverse) (((p_ g.size).map λj=>z_ (p j)).reverse) g.size/\(∀b o,b<f.heap.objs.size->f.heap.get? b=Z o->n.get? b=Z o)) χ) (by simp[hh]) (by show N.units+1+8<cLine;omega) hl hk hn v λn y q1 q2=>⟨rfl,n,y,rfl,q1,q2⟩) λA q k=>?_;cases A with|error d=>exact k|ok w=>cases w with
  |ret a=>
  obtain⟨rfl,n,y,rfl,I,H⟩:=k;repeat(any_goals(first|assumption|wp_step))
  exact h _ _ I H|_=>exact k.elim
 |_=>exact E.elim
theorem len_T{g:List (List Str)}(k:ĕ s r f.heap e g θ b)(p:b<=20)(h:∀t d,Ç (.int b t) {f with toks:=d}):u_ (D_ s r) N (call (.builtin "len") [.ref e]) Ç χ f:=by obtain⟨o,m,v,t,i,hex,j,a,T,q,u,n⟩:=k;subst a;exact call_len_set i hex j (pq T) (Int.lt_of_le_of_lt (show((m.size:Nat):Int)<=20 by omega) (by decide)) (h _ _)
end ST
variable{ι:Nat}
namespace FD
open L2
noncomputable def c7:List Q->Option (List Str)|[]=>Z []|.str x::r=>(c7 r).map (x::·)|_=>U
def mq:List Q->Option (List (List Str))
 |[]=>Z []|.tup ds::r=>match c7 ds,mq r with|some k,Z a=>Z (k::a)|_,_=>U
 |_=>U
def mr:Ö
 |[.lst ds]=>match mq ds with|some a=>if a.Nodup/\a.length<=20 then Z (.ok (.int a.length))else U|none=>U
 |_=>U
theorem og{X:C}{H:Hp}{d:n_}{w:x_}:∀{ds:List Q}{k:List Str}{b:List V}{a:List B},c7 ds=Z k->S X.K H ds b->Ñ b a->abO (aax d w) k a
 |[],k,b,a,h,r,v=>by cases h;cases(show b=[]from r);cases v;exact .nil|.str x::ds,k,b,a,h,r,v=>by obtain⟨y,us,rfl,g,f⟩:∃v us,b=v::us/\Ô X.K H (.str x) v/\S X.K H ds us:=r;cases(show y=.str x from g);obtain⟨j,i,rfl⟩:=VJ.mp (show(c7 ds).map (x::·)=Z k from h);cases v with|cons e v2=>obtain⟨t,rfl⟩:=e;exact .cons (by show Xc x (.str x t)=L;simp[Xc]) (og i f v2)
 |.non::ds,k,b,a,h,r,v=>by cases h|.bl _::ds,k,b,a,h,r,v=>by cases h|.int _::ds,k,b,a,h,r,v=>by cases h|.tup _::ds,k,b,a,h,r,v=>by cases h|.lst _::ds,k,b,a,h,r,v=>by cases h|.scr _::ds,k,b,a,h,r,v=>by cases h|.exn _::ds,k,b,a,h,r,v=>by cases h|.obj _ _::ds,k,b,a,h,r,v=>by cases h
theorem Qc(I:Í a P Ι h f){j:List Q}{k:List Str}{v:V}{u:B}(g:c7 j=Z k)(r:Ô a.K h (.tup j) v)(q:Ø v u):∃b,u=.ref b/\ST.TK a.prog a.w f.heap k b:=by obtain⟨b,w,rfl,s,p⟩:=r.tupE;cases(show u=z_ b from q);obtain⟨i,m,⟨o,e,c,n,d⟩,y⟩:=I.tuple (ù.of s);exact⟨b,rfl,o,i.toArray,_,e,c,d,by simpa using og g p m⟩
theorem yR{X:C}{z:List (O×Obj)}{g:L2.St}{H:Hp}{s:ge}(I:Í X z g H s):∀{ds:List Q}{e:List (List Str)}{d:List V}{b:List B},mq ds=Z e->S X.K H ds d->Ñ d b->e.length=b.length/\∀i,i<b.length->∃a,b[i]?=Z (.ref a)/\ST.TK X.prog X.w s.heap (e.getD i []) a
 |[],e,d,b,h,r,v=>by cases h;cases(show d=[]from r);cases v;exact⟨rfl,λi f=>absurd f (Xg _)⟩|.tup A::ds,e,d,b,h,r,v=>by
  obtain⟨y,us,rfl,o,n⟩:∃v us,d=v::us/\Ô X.K H (.tup A) v/\S X.K H ds us:=r;unfold mq at h;split at h;·rename_i k b' w u;cases h;cases v with|cons j v2=>obtain⟨a,rfl,m⟩:=Qc I w o j;obtain⟨q,p⟩:=yR I u n v2;refine⟨by simp[q],λi f=>?_⟩;cases i with|zero=>exact⟨a,rfl,m⟩|succ i=>obtain⟨P,N,E⟩:=p i (by simpa using f);exact⟨P,by simpa using N,by simpa using E⟩
  ·cases h|.non::ds,e,d,b,h,r,v=>by cases h|.bl _::ds,e,d,b,h,r,v=>by cases h|.int _::ds,e,d,b,h,r,v=>by cases h|.str _::ds,e,d,b,h,r,v=>by cases h|.lst _::ds,e,d,b,h,r,v=>by cases h|.scr _::ds,e,d,b,h,r,v=>by cases h|.exn _::ds,e,d,b,h,r,v=>by cases h|.obj _ _::ds,e,d,b,h,r,v=>by cases h
theorem wt{a:List ε}(h:a.Nodup){i j:Nat}(d:i<a.length)(b:j<a.length)(e:a.getD i Ë=a.getD j Ë):i=j:=by rw[Vi,Vi,F_ d,F_ b]at e;exact(abk h).mp (by simpa using e)
theorem yS{f:Pos}(hu:a.A.units+64<cLine)(hc:a.calm=L)(hg:Gl a "len")(hm:a.mg "len"=U)(g':Gl a "set")(c':a.mg "set"=U)(ha:FA a [g] ν)(he:k_ [.Call (.Name "set" v) [g] [] f] a.env=(D,eval (.Call (.Name "set" v) [g] [] f) a.env)::k_ [] a.env:=by lk)(b':(TW Τ (k_ [] a.env)).any (·.1)=D:=by lk)(i':k_ [g] a.env=(D,eval g a.env)::k_ [] a.env:=by lk)(A:(TW f (k_ [] a.env)).any (·.1)=D:=by lk):FE a (.Call (.Name "len" m) [.Call (.Name "set" v) [g] [] f] [] Τ) (á mr ν):=⟨λf' s σ H Q I⟨ρ,E,o⟩=>by
 refine Vm (iP I hg hm abF ?_ (by decide) (by decide));refine X3 ?_ he b';rw[he];show u_ _ _ (spliced ((D,eval (.Call (.Name "set" v) [g] [] f) a.env)::TW Τ (k_ [] a.env))) _ _ s;refine Ww ?_;refine Vm (iP I g' c' (ω:=.type "set") (by decide+kernel) ?_ (by decide) (by decide));refine UC (ã (ha.h f f' s σ H _ I ⟨ρ,E,è.bind o λds vs y e1 P k=>(show∃ds,S a.K y ds vs/\ð a y (mr ds) Q from⟨ds,P,k⟩)⟩) λus s1⟨vs,y,N,r1,ds,P,k⟩=>?_) i' A;unfold mr at k;split at k
 · rename_i es;obtain⟨e,rfl,r⟩:=eP P;obtain⟨l,xs,rfl,hl,rx⟩:=r.lstE;obtain⟨u,rfl,ru⟩:=iL r1;cases(show u=z_ l from ru);split at k
   · rename_i ks d';split at k
     · rename_i w;obtain⟨z,p,n,rv,hz,eh⟩:=N.lstM hl;obtain⟨q1,q2⟩:=yR N d' rx rv;have h:p.toArray.size=ks.length:=by simp[q1]
       refine ST.call_set_T (g:=p.toArray) (m:=λi=>ks.getD i []) (p:=λi=>match p[i]? with|some (.ref d)=>d|_=>0) (N.ok.hd hc) (by omega) ⟨_,eh,rfl,n,rfl⟩ (λi hi=>?_) (by rw[h];exact w.2) (λi j hi hj k'=>?_) λh' tk hS e'=>?_;·obtain⟨d,e1,e2⟩:=q2 i (by simpa using hi);simp only[List.getElem?_toArray,e1];exact⟨trivial,e2⟩
       ·exact wt w.1 (by rw[<-h];exact hi) (by rw[<-h];exact hj) k'
       ·refine XJ ?_;refine ST.len_T hS (by rw[h];exact w.2) λt a'=>⟨.int (ks.length:Nat),y,?_,⟨t,by rw[h]⟩,k _ y (.refl y) rfl⟩;exact N.kept (t':=a') λb u q=>e' b u (y_ q) q
     ·exact k.elim
   ·exact k.elim
 ·exact k.elim⟩
def frs{b:Type}(P:b->Bool):Sem b->Bool|.pure a=>P a|.fresh _=>L|.at _ k=>frs P (k ())|.rule _ k=>frs P (k ())|.point _ k=>frs P (k ())|_=>D
theorem oh{i:Array B}(h:f.heap.IsTupleIter e z b)(p:f.heap.IsTuple z i)(o:i[b]?=Z ω)(q:∀g,g.IsTupleIter e z (b+1)->V2 e f.heap g->Ç ω {f with heap:=g}):u_ (D_ s r) N (UO (.ref e)) Ç χ f:=by obtain⟨v,d,n,a⟩:=id h;obtain⟨u,k,_,m,j⟩:=p;unfold UO;refine e_ (UJ (name:=b_ "__next__") h.typeIs VO (U4 VO h.typeIs Yy ?_ (Yo _)));show u_ _ _ (abD (.ref e) 0>>=_) _ _ f;refine e_ (UX d a (x:=.ref z) rfl ?_);show u_ _ _ (if(z_ z==J_)=L then _ else _) _ _ f;rw[if_neg (show¬((z_ z==J_)=L)from A_)];show u_ _ _ (abD (.ref e) 1>>=_) _ _ f;refine e_ (UX d a (x:=.int b 0) rfl ?_);show u_ _ _ (seqItems? (.ref z)>>=_) _ _ f;refine e_ (Vx k j ?_);simp only[XX,o];refine e_ (YE d a (by simp) (l_ ⟨ω,rfl,l_ (q _ ⟨_,WK _ d (Z0 (Xl a _)),(aaU ..).trans n,by rw[Xl a];simp[YG]⟩ (VH ..))⟩))
theorem yT{j:Array B}(k:N.handled=U)(i:f.heap.IsTupleIter e z b)(v:f.heap.IsTuple z j)(u:j[b]?=U)(q:∀h a,Heap.ExtBut e f.heap h->(∃o,h.get? a=Z o/\o.cls=.type "StopIteration")->χ (.ref a) {f with heap:=h}):u_ (D_ s r) N (UO (.ref e)) Ç χ f:=by
 obtain⟨y,g,A,d⟩:=id i;obtain⟨w,p,_,m,n⟩:=v;unfold UO;refine e_ (UJ (name:=b_ "__next__") i.typeIs VO (U4 VO i.typeIs Yy ?_ (Yo _)));show u_ _ _ (abD (.ref e) 0>>=_) _ _ f;refine e_ (UX g d (x:=.ref z) rfl ?_);show u_ _ _ (if(z_ z==J_)=L then _ else _) _ _ f;rw[if_neg (show¬((z_ z==J_)=L)from A_)];show u_ _ _ (abD (.ref e) 1>>=_) _ _ f;refine e_ (UX g d (x:=.int b 0) rfl ?_);show u_ _ _ (seqItems? (.ref z)>>=_) _ _ f;refine e_ (Vx p n ?_);simp only[XX,u];refine e_ (Xh (e_ (YE g d (by simp) ?_)));show u_ _ _ (newExc (.type "StopIteration") []>>=_) _ _ _;refine e_ ?_;simp only[newExc,newTuple];refine e_ (UM ?_ (by size_fits));refine e_ (m:=YH _ _) (abl (a:=J_) (by first|rfl|(simp only[YH];rfl)) ?_);refine UM ?_ (by size_fits);simp only[raiseNew];refine e_ (wpAny_handled ?_);first|rw[show N.in1.handled=U from k]|rw[k]
 exact e_ (l_ (wpAny_throw (q _ _ (((VH ..).extBut.push _).push _) ⟨_,v_ _ rfl,rfl⟩)))
theorem yU{i m k P I:O}{xs ys:Array B}{y a h:B}{Q:Option B->ge->Prop}(d:abJ e z i m k P I)(A:Z_ f.heap e z i .none)(g':XE f.heap z (.ref m) (.ref k))(f':XE f.heap i a h)(j1:f.heap.IsTupleIter m P b)(j2:f.heap.IsTupleIter k I b)(m1:f.heap.IsTuple P xs)(m2:f.heap.IsTuple I ys)(hx:xs[b]?=Z ω)(hy:ys[b]?=Z y)(q:∀n,Z_ n e z i (YG f.heap.objs.size)->XE n i ω y->n.IsTupleIter m P (b+1)->n.IsTupleIter k I (b+1)->XE n f.heap.objs.size ω y->n.objs.size=f.heap.objs.size+1->(∀c o,c≠e->c≠i->c≠m->c≠k->f.heap.get? c=Z o->n.get? c=Z o)->Q (Z (.ref f.heap.objs.size)) {f with heap:=n}):u_ (D_ s r) N (Yj (.ref e)) Q χ f:=by
 have ty:f.TypeIs (.ref e) "zip":=⟨_,A,rfl⟩;unfold Yj;refine e_ (Xb (UJ (name:=b_ "__next__") ty Yn (U4 Yn ty F.entry_zip_next ?_ (F.args_zip_next_1 _))));show u_ _ _ (abD (.ref e) 2>>=_) _ _ f;refine e_ (UX A rfl (x:=.bool D) rfl ?_);show u_ _ _ (abD (.ref e) 3>>=_) _ _ f;refine e_ (UX A rfl (x:=.ref z) rfl ?_);refine e_ (Vx g' rfl ?_);show u_ _ _ (Va (.ref e)>>=_) _ _ f;refine e_ ?_;unfold Va;refine e_ (UX A rfl (x:=.none) rfl (l_ ?_));simp only[if_true];refine e_ (Xh ?_);refine e_ (UX A rfl (x:=.ref i) rfl ?_);refine e_ (Ws A (by simp) λhA zA p=>?_);have d':Z_ hA e z i .ellipsis:=zA;refine e_ ?_;simp only[Zq,ZR,Yq,XV];refine e_ (e_ (aau ?_));show u_ _ _ (UO (.ref m)>>=_) _ _ _;refine e_ (oh (j1.extBut p.extBut d.i1z) (m1.extBut p.extBut d.l1z) hx λhB jB w=>l_ ?_);have tB:XE hB i a h:=w.extBut _ _ d.TOi1 (p.extBut _ _ d.TOz f');refine e_ (Vx tB rfl ?_);refine e_ (Z4 tB λhC tC v=>?_);have e':XE hC i ω h:=tC;refine e_ (abm (l_ ?_));refine e_ (e_ (aau ?_));show u_ _ _ (UO (.ref k)>>=_) _ _ _;refine e_ (oh (((j2.extBut p.extBut d.i2z).extBut w.extBut d.i12.symm).extBut v.extBut d.TOi2.symm) (((m2.extBut p.extBut d.l2z).extBut w.extBut d.l2i1).extBut v.extBut d.l2TO) hy λhD jD H=>l_ ?_);have tD:XE hD i ω h:=H.extBut _ _ d.TOi2 e';refine e_ (Vx tD rfl ?_);refine e_ (Z4 tD λj tF E=>?_);have b':XE j i ω y:=tF;refine e_ (abm (l_ (l_ ?_)));refine e_ (Vx b' rfl ?_);refine e_ (wpAny_newTuple ?_);have n5:j.objs.size=f.heap.objs.size:=by rw[E.1,H.1,v.1,w.1,p.1]
 have z5:Z_ j e z i .ellipsis:=E.extBut _ _ d.TOz.symm (H.extBut _ _ d.i2z.symm (v.extBut _ _ d.TOz.symm (w.extBut _ _ d.i1z.symm d')));have k5:∀c o,c≠e->c≠i->c≠m->c≠k->f.heap.get? c=Z o->j.get? c=Z o:=λc o u c2 c3 c4 g=>E.extBut _ _ c2 (H.extBut _ _ c4 (v.extBut _ _ c2 (w.extBut _ _ c3 (p.extBut _ _ u g))));have p1:j.IsTupleIter m P (b+1):=((jB.extBut v.extBut d.TOi1.symm).extBut H.extBut d.i12).extBut E.extBut d.TOi1.symm;have p2:j.IsTupleIter k I (b+1):=jD.extBut E.extBut d.TOi2.symm;have nz:e<j.objs.size:=y_ z5;show u_ _ _ (W9 (.ref e) (.ref j.objs.size)>>=_) _ _ _;refine e_ ?_;unfold W9;have z6:Z_ (j.push {cls:=.type "tuple",data:=.seq #[ω,y]}) e z i .ellipsis:=j_ _ z5;refine e_ (Ws z6 (by simp) λhG zG sG=>?_);have c':Z_ hG e z i (YG j.objs.size):=zG;refine Ws c' (by simp) λhH zH sH=>?_;have a':Z_ hH e z i (YG j.objs.size):=zH;have up:∀c o,c≠e->j.get? c=Z o->hH.get? c=Z o:=λc o u g=>sH.extBut _ _ u (sG.extBut _ _ u (j_ _ g));have pr:XE hH j.objs.size ω y:=sH.extBut _ _ (W3 nz) (sG.extBut _ _ (W3 nz) (v_ _ rfl));have n8:hH.objs.size=j.objs.size+1:=by rw[sH.1,sG.1,Ur]
 rw[n5]at a' pr n8;refine l_ ⟨_,rfl,l_ ?_⟩;show Q (Z (.ref j.objs.size)) _;rw[n5];exact q hH a' (up _ _ d.TOz b') (p1.at λo g=>up _ o d.i1z g) (p2.at λo g=>up _ o d.i2z g) pr n8 λc o u c2 c3 c4 g=>up c o u (k5 c o u c2 c3 c4 g)
theorem Ca{i k p n l2:O}{A:Array B}{h:B}{Q:Option B->ge->Prop}(hh:N.handled=U)(a:abJ e z i k p n l2)(j:Z_ f.heap e z i .none)(w:XE f.heap z (.ref k) (.ref p))(a':XE f.heap i ω h)(j1:f.heap.IsTupleIter k n b)(m1:f.heap.IsTuple n A)(hx:A[b]?=U)(q:∀P,(∀c o,c≠e->c≠i->c≠k->c≠p->f.heap.get? c=Z o->P.get? c=Z o)->Q U {f with heap:=P}):u_ (D_ s r) N (Yj (.ref e)) Q χ f:=by
 have E:f.TypeIs (.ref e) "zip":=⟨_,j,rfl⟩;unfold Yj;refine e_ (Xb (UJ (name:=b_ "__next__") E Yn (U4 Yn E F.entry_zip_next ?_ (F.args_zip_next_1 _))));show u_ _ _ (abD (.ref e) 2>>=_) _ _ f;refine e_ (UX j rfl (x:=.bool D) rfl ?_);show u_ _ _ (abD (.ref e) 3>>=_) _ _ f;refine e_ (UX j rfl (x:=.ref z) rfl ?_);refine e_ (Vx w rfl ?_);show u_ _ _ (Va (.ref e)>>=_) _ _ f;refine e_ ?_;unfold Va;refine e_ (UX j rfl (x:=.none) rfl (l_ ?_));simp only[if_true];refine e_ (Xh ?_);refine e_ (UX j rfl (x:=.ref i) rfl ?_);refine e_ (Ws j (by simp) λhA zA m=>?_);have v:Z_ hA e z i .ellipsis:=zA;refine e_ ?_;simp only[Zq,ZR,Yq,XV];refine e_ (e_ (aau ?_));show u_ _ _ (UO (.ref k)>>=_) _ _ _;refine e_ (yT hh (j1.extBut m.extBut a.i1z) (m1.extBut m.extBut a.l1z) hx λhB d I he=>?_);obtain⟨oe,u,g2⟩:=he;have y:Z_ hB e z i .ellipsis:=I _ _ a.i1z.symm v;have ne:d≠e:=λg=>by subst g;rw[y]at u;cases u;simp at g2
 refine Ws y (by simp) λhC _ H=>?_;refine e_ (wpAny_isInstance (T:="StopIteration") (b:=L) ⟨oe,H.extBut _ _ ne u,g2⟩ isSubtype_stop (l_ (q hC λc o c1 _ c3 _ g=>H.extBut _ _ c1 (I _ _ c3 (m.extBut _ _ c1 g)))))
abbrev zq1(h:TC)(a:O):TC:=h.push {cls:=.type "tuple_iterator",data:=.fields #[.ref a,.int 0 0]}
abbrev zq2(h:TC)(b a:O):TC:=(zq1 h b).push {cls:=.type "tuple_iterator",data:=.fields #[.ref a,.int 0 0]}
abbrev zq3(h:TC)(a b:O):TC:=(zq2 h a b).push {cls:=.type "tuple",data:=.seq #[.ref h.objs.size,.ref (zq1 h a).objs.size]}
abbrev zq4(h:TC)(b a:O):TC:=(zq3 h b a).push {cls:=.type "tuple",data:=.seq #[.none,.none]}
abbrev zq5(h:TC)(b a:O):TC:=(zq4 h b a).push {cls:=.type "zip",data:=.fields #[.none,.bool D,.bool D,.ref (zq2 h b a).objs.size,.ref (zq3 h b a).objs.size]}
theorem Cb(a b:O)(f e:Array B):Meets (Wc.«zip.__new__» ⟨[.type "zip",.ref a,.ref b],[]⟩) (λ_ R s=>s.heap.IsTuple a f/\s.heap.IsTuple b e/\R (.ok (.ret (.ref (zq4 s.heap a b).objs.size))) {s with heap:=zq5 s.heap a b}):=.of_wp λk w A R s h=>by obtain⟨j,g,d,i,os⟩:=s;obtain⟨q,p,h⟩:=h;have m:=sub_zip;have o:Heap.IsTuple (Shared.heap ⟨j,g,d,i,os⟩) a f:=q;have n:Heap.IsTuple (Shared.heap ⟨j.push {cls:=.type "tuple_iterator",data:=.fields #[.ref a,.int 0 0]},g,d,i,os⟩) b e:=Heap.IsTuple.push p _;wp_walk using Xi o,Xi n;exact⟨_,rfl,h⟩
theorem yV{n m:Array B}(A:f.heap.IsTuple e n)(y:f.heap.IsTuple z m)(q:∀a,Z_ a (f.heap.objs.size+4) (f.heap.objs.size+2) (f.heap.objs.size+3) .none->XE a (f.heap.objs.size+2) (.ref f.heap.objs.size) (.ref (f.heap.objs.size+1))->XE a (f.heap.objs.size+3) .none .none->a.IsTupleIter f.heap.objs.size e 0->a.IsTupleIter (f.heap.objs.size+1) z 0->a.objs.size=f.heap.objs.size+5->(∀c o,f.heap.get? c=Z o->a.get? c=Z o)->Ç (.ref (f.heap.objs.size+4)) {f with heap:=a}):u_ (D_ s r) N (call (.type "zip") [.ref e,.ref z]) Ç χ f:=by
 refine callType_new F.called_zip (by decide) (F.typeCall_zip_2 _ _) (F.newCall_zip_2 _ _) (λk=>F.args_object_init_3 k _ _) F.entry_zip_new (Cb e z n m) ⟨A,y,?_⟩;have i:(zq1 f.heap e).objs.size=f.heap.objs.size+1:=Ur ..;have h:(zq2 f.heap e z).objs.size=f.heap.objs.size+2:=by rw[Ur,i]
 have d:(zq3 f.heap e z).objs.size=f.heap.objs.size+3:=by rw[Ur,h]
 have b:(zq4 f.heap e z).objs.size=f.heap.objs.size+4:=by rw[Ur,d]
 have w:(zq5 f.heap e z).objs.size=f.heap.objs.size+5:=by rw[Ur,b]
 have P:=@j_;have j:(zq5 f.heap e z).get? (zq4 f.heap e z).objs.size=Z _:=v_ _ rfl;have p:(zq5 f.heap e z).get? (zq3 f.heap e z).objs.size=Z _:=j_ _ (v_ _ rfl);have u:(zq5 f.heap e z).get? (zq2 f.heap e z).objs.size=Z _:=j_ _ (j_ _ (v_ _ rfl));have v:(zq5 f.heap e z).get? (zq1 f.heap e).objs.size=Z _:=j_ _ (j_ _ (j_ _ (v_ _ rfl)));have E:(zq5 f.heap e z).get? f.heap.objs.size=Z _:=j_ _ (j_ _ (j_ _ (j_ _ (v_ _ rfl))));show _/\_;rw[h,d,b]at j;rw[i,h]at u;rw[d]at p;rw[i]at v;rw[b];exact⟨⟨_,j,rfl⟩,q _ j u p ⟨_,E,rfl,rfl⟩ ⟨_,v,rfl,rfl⟩ w λc o g=>j_ _ (j_ _ (j_ _ (j_ _ (j_ _ g))))⟩
def Itz(a b:O):It:=⟨λi H=>∃d e x y,H a=Z (.tup d)/\H b=Z (.tup e)/\d[i]?=Z x/\e[i]?=Z y,λi H v f=>∃p x y,v=.ref p/\H p=U/\f=Þ H p (.tup [x,y])/\(∀d,H a=Z (.tup d)->d[i]?=Z x)/\(∀e,H b=Z (.tup e)->e[i]?=Z y),λi H=>∃d e,H a=Z (.tup d)/\H b=Z (.tup e)/\d.length<=i⟩
structure ZSt(z TI TO i1 i2 a b:O)(i:Nat)(h:TC):Prop where
 z:Z_ h z TI TO .none
 ti:XE h TI (.ref i1) (.ref i2)to:∃p q,XE h TO p q
 j1:h.IsTupleIter i1 a i
 j2:h.IsTupleIter i2 b i
structure ZNe(z TI TO i1 i2:O):Prop where
 n1:TI≠z
 n2:TO≠z
 n3:i1≠z
 n4:i2≠z
 n5:TI≠TO
 n6:TI≠i1
 n7:TI≠i2
 n8:TO≠i1
 n9:TO≠i2
 n10:i1≠i2
theorem Qd{d b a c:O}(h:c∈[e,z,d,b,a]):c=e\/c=z\/c=d\/c=b\/c=a:=by simpa using h
theorem Cc{P:n_}{w:x_}{K:d_}{es:List s_}{k:Nat}{r':Pos}(a b z TI TO A j:O)(N:ZNe z TI TO A j):w6 P w K (.Tuple es k r') (Itz a b) [z,TI,TO,A,j] z (λi h=>ZSt z TI TO A j a b i h)where
 mem:=by simp
 obj:=λi h st c hc=>by
  obtain⟨p,q,g3⟩:=st.to;rcases Qd hc with rfl|rfl|rfl|rfl|rfl;·exact⟨_,st.z,λv g=>by cases g⟩
  ·exact⟨_,st.ti,λv g=>by cases g⟩
  ·exact⟨_,g3,λv g=>by cases g⟩
  ·obtain⟨o,e,_,d⟩:=st.j1;exact⟨o,e,λv g=>by rw[d]at g;cases g⟩
  ·obtain⟨o,e,_,d⟩:=st.j2;exact⟨o,e,λv g=>by rw[d]at g;cases g⟩
 keep:=λi h h' st kk=>by obtain⟨p,q,g3⟩:=st.to;exact⟨kk z (by simp) _ st.z,kk TI (by simp) _ st.ti,⟨p,q,kk TO (by simp) _ g3⟩,st.j1.at λo e=>kk A (by simp) o e,st.j2.at λo e=>kk j (by simp) o e⟩
 item:=by
  intro X hP hw hK hc i f' s σ H E I hf st hg;subst hP hw hK;obtain⟨xs,ys,x,y,ha,hb,hx,hy⟩:=hg;obtain⟨i',rv,p,_⟩:=I.tuple (ù.of ha);obtain⟨s',sv,p',_⟩:=I.tuple (ù.of hb);obtain⟨u,hu,ru⟩:=rv.get hx;obtain⟨v,hv,q'⟩:=sv.get hy;obtain⟨q1,q2,g'⟩:=st.to;have F:∀c∈[z,TI,TO,A,j],sE X f' H c:=hf;have fr:∀c∈[z,TI,TO,A,j],H c=U:=λc m=>(hf c m).1;have an:∀c∈[z,TI,TO,A,j],a≠c:=λc m g=>by rw[g,fr c m]at ha;cases ha
  have bn:∀c∈[z,TI,TO,A,j],b≠c:=λc m g=>by rw[g,fr c m]at hb;cases hb
  have f:abJ z TI TO A j a b:=⟨N.n1,N.n2,N.n3,N.n4,N.n5,N.n6,N.n7,N.n8,N.n9,N.n10,an z (by simp),an TO (by simp),an A (by simp),an j (by simp),bn z (by simp),bn TO (by simp),bn A (by simp),bn j (by simp)⟩;refine yU f st.z st.ti g' st.j1 st.j2 (show s.heap.IsTuple a i'.toArray from p) (show s.heap.IsTuple b s'.toArray from p') (ω:=u) (y:=v) (by simpa using hu) (by simpa using hv) λh' a1 a2 a3 a4 a5 a6 kk=>?_;refine⟨_,rfl,wpAny_letOwnedTupleGo_zip a1 λh2 z2 d'=>?_⟩;have hp:H s.heap.objs.size=U:=I.hok.fresh (pi _);have l':z<s.heap.objs.size:=y_ st.z;have k2:∀c o,c∉[z,TO,A,j]->s.heap.get? c=Z o->h2.get? c=Z o:=λc o b' q=>d'.extBut c o (λg=>b' (by simp[g])) (kk c o (λg=>b' (by simp[g])) (λg=>b' (by simp[g])) (λg=>b' (by simp[g])) (λg=>b' (by simp[g])) q);have o':h2.get? s.heap.objs.size=Z {cls:=.type "tuple",data:=.seq #[u,v]}:=d'.extBut _ _ (W3 l') a5;have sub:∀c,c∈[z,TO,A,j]->c∈[z,TI,TO,A,j]:=λc m=>by
   have m':c=z\/c=TO\/c=A\/c=j:=by simpa using m
   rcases m' with rfl|rfl|rfl|rfl<;>simp
  have I1:Í X f' σ (Þ H s.heap.objs.size (.tup [x,y])) {s with heap:=h2}:=by
   have nt:∀c o,H c=Z o->c∉[z,TO,A,j]:=λc o q m=>by rw[fr c (sub c m)]at q;cases q
   refine I.step (g':=s.gens) (d':=s.drawn) (t':=s.toks) (ch:=[z,TO,A,j]) (λc m=>?_) (λc o _ _ a' q _=>k2 c o a' q) (λc o _ _ a' q _=>⟨o.slots,k2 c o a' q⟩) (λc o a' q n=>?_) (λc o a' q=>⟨o,k2 c o a' q⟩) (λc zs q=>by rw[ax (aE q hp)];exact q) (λc o zs q=>by rw[ax (aE q hp)];exact q) (λc ps q=>⟨#[],by rw[ax (aE q hp),q];simp⟩) (λm hm=>?_) (λc o2 q=>?_) I.bare;·obtain⟨f0,f1,R,f3,f4,f5⟩:=hf c (sub c m);exact⟨f3,f1,f4,f5⟩
   ·rw[ax (TY (y_ q))];exact n
   ·obtain⟨o,k',ep,ho,r⟩:=hm;exact⟨o,k',ep,k2 _ o (λm=>(hf _ (sub _ m)).2.1 rfl) ho,r⟩
   · by_cases n':c=s.heap.objs.size;·subst n';rw[av]at q;cases q;exact⟨by show 2<=sizeLine;decide,[u,v],.cons ru (.cons q' .nil),⟨_,o',rfl,_,rfl⟩⟩
     · rw[ax n']at q;refine(I.hok c o2 q).stay (λe v' c' qq=>k2 e v' ?_ qq) (λe qq=>by rw[ax (aE qq hp)];exact qq) λe zs qq=>by rw[ax (aE qq hp)];exact qq
       rcases c' with rfl|c';·exact nt _ _ q
       ·exact nt _ _ c'
  refine⟨.ref s.heap.objs.size,_,I1,rfl,⟨_,x,y,rfl,hp,rfl,λzs e'=>?_,λzs e'=>?_⟩,⟨z2,?_,⟨_,_,d'.extBut _ _ N.n2 a2⟩,a3.at λo q=>d'.extBut _ _ N.n3 q,a4.at λo q=>d'.extBut _ _ N.n4 q⟩,λc m=>?_⟩;·rw[ha]at e';cases e';exact hx
  ·rw[hb]at e';cases e';exact hy
  ·exact d'.extBut _ _ N.n1 (kk _ _ N.n1 N.n5 N.n6 N.n7 st.ti)
  · have lt:c<s.heap.objs.size:=by
     rcases Qd m with rfl|rfl|rfl|rfl|rfl;·exact l'
     ·exact y_ st.ti
     ·exact y_ g'
     ·obtain⟨_,e,_⟩:=st.j1;exact y_ e
     ·obtain⟨_,e,_⟩:=st.j2;exact y_ e
    rw[ax (TY lt)];exact fr c m
 done:=by
  intro X hP hw hK hc i f' s σ H E I hf st hg;subst hP hw hK;obtain⟨xs,ys,ha,hb,hl⟩:=hg;obtain⟨i',rv,p,_⟩:=I.tuple (ù.of ha);obtain⟨q1,q2,g'⟩:=st.to;have fr:∀c∈[z,TI,TO,A,j],H c=U:=λc m=>(hf c m).1;have an:∀c∈[z,TI,TO,A,j],a≠c:=λc m g=>by rw[g,fr c m]at ha;cases ha
  have bn:∀c∈[z,TI,TO,A,j],b≠c:=λc m g=>by rw[g,fr c m]at hb;cases hb
  have f:abJ z TI TO A j a b:=⟨N.n1,N.n2,N.n3,N.n4,N.n5,N.n6,N.n7,N.n8,N.n9,N.n10,an z (by simp),an TO (by simp),an A (by simp),an j (by simp),bn z (by simp),bn TO (by simp),bn A (by simp),bn j (by simp)⟩;have t':=rv.length;refine Ca (I.ok.hd hc) f st.z st.ti g' st.j1 (show s.heap.IsTuple a i'.toArray from p) (by simp;omega) λh' kk=>⟨rfl,?_⟩;have k2:∀c o,c∉[z,TO,A,j]->s.heap.get? c=Z o->h'.get? c=Z o:=λc o b' q=>kk c o (λg=>b' (by simp[g])) (λg=>b' (by simp[g])) (λg=>b' (by simp[g])) (λg=>b' (by simp[g])) q;have sub:∀c,c∈[z,TO,A,j]->c∈[z,TI,TO,A,j]:=λc m=>by
   have m':c=z\/c=TO\/c=A\/c=j:=by simpa using m
   rcases m' with rfl|rfl|rfl|rfl<;>simp
  have nt:∀c o,H c=Z o->c∉[z,TO,A,j]:=λc o q m=>by rw[fr c (sub c m)]at q;cases q
  refine I.step (g':=s.gens) (d':=s.drawn) (t':=s.toks) (ch:=[z,TO,A,j]) (λc m=>?_) (λc o _ _ a' q _=>k2 c o a' q) (λc o _ _ a' q _=>⟨o.slots,k2 c o a' q⟩) (λc o a' q n=>n) (λc o a' q=>⟨o,k2 c o a' q⟩) (λc zs q=>q) (λc o zs q=>q) (λc ps q=>⟨#[],by rw[q];simp⟩) (λm hm=>?_) (λc o2 q=>?_) I.bare;·obtain⟨f0,f1,R,f3,f4,f5⟩:=hf c (sub c m);exact⟨f3,f1,f4,f5⟩
  ·obtain⟨o,k',ep,ho,r⟩:=hm;exact⟨o,k',ep,k2 _ o (λm=>(hf _ (sub _ m)).2.1 rfl) ho,r⟩
  · refine(I.hok c o2 q).stay (λe v' c' qq=>k2 e v' ?_ qq) (λe qq=>qq) λe zs qq=>qq;rcases c' with rfl|c';·exact nt _ _ q
    ·exact nt _ _ c'
 self:=λ_ _ _ _ _ st h=>wpAny_pyIter_zip st.z h
noncomputable def JA:List Q->List Q->List Q|x::b,y::a=>.tup [x,y]::JA b a|_,_=>[]
theorem jI:∀(a b:List Q),a.length=b.length->(JA a b).length=a.length|[],[],_=>rfl|x::a,y::b,h=>by show(JA a b).length+1=a.length+1;rw[jI a b (by simpa using h)]|[],_::_,h=>by simp at h|_::_,[],h=>by simp at h
theorem uZ:∀(d b:List Q)(i:Nat)(x y:Q),d[i]?=Z x->b[i]?=Z y->(JA d b)[i]?=Z (.tup [x,y])|x::d,y::b,0,f,e,h,a=>by simp at h a;subst h a;rfl|x::d,y::b,i+1,f,e,h,a=>uZ d b i f e (by simpa using h) (by simpa using a)|[],_,_,_,_,h,_=>by simp at h|_::_,[],_,_,_,_,a=>by simp at a
theorem LO{b:List V}{f:List Q}(n:h e=Z (.tup η))(m:h z=Z (.tup b))(r:S q h E η)(A:S q h f b)(k:E.length=f.length):ſ q (Itz e z) (JA E f) h where
 go:=λi H a g=>by
  rw[jI E f k]at g;have s:i<η.length:=by rw[r.length];exact g
  have o:i<b.length:=by rw[A.length,<-k];exact g
  exact⟨η,b,η[i],b[i],a _ _ n,a _ _ m,by simp[s],by simp[o]⟩
 stop:=λH a=>⟨η,b,a _ _ n,a _ _ m,by rw[r.length,jI E f k];exact pi _⟩;yld:=λi H v H2 a g y=>by obtain⟨p,x,y,rfl,j,rfl,N,I⟩:=y;obtain⟨d,s,o⟩:=S.get (S.mono a _ _ r) (N η (a _ _ n));obtain⟨P,w,u⟩:=S.get (S.mono a _ _ A) (I b (a _ _ m));exact⟨aH j _,_,uZ E f i d P s w,⟨p,_,rfl,av,⟨x,[y],rfl,Ô.mono (aH j _) _ _ o,y,[],rfl,Ô.mono (aH j _) _ _ u,rfl⟩⟩⟩
def JC:List Q->Option (Rs (List Q))|[.tup b,.tup a]=>if b.length=a.length then Z (.ok (JA b a))else U|_=>U
theorem GZ(hg:Gl a "zip")(hm:a.mg "zip"=U)(ha:FA a [g,u] ν)(hs:k_ [g,u] a.env=[(D,eval g a.env),(D,eval u a.env)]:=by lk)(A:k_ [u] a.env=[(D,eval u a.env)]:=by lk):ŗ a (.Tuple w b m) (.Call (.Name "zip" v) [g,u] [] Τ) (λz=>Ù (ν z) JC):=by
 constructor;intro f' s σ H R I h;obtain⟨z,E,o⟩:=h;have key:è a H (ν z) λvs H'=>∃ds,S a.K H' ds vs/\ī a H' (JC ds) R:=by match hf:ν z,o with|some (.exc c),o=>exact o|some (.ok ds),o=>exactλvs H' e rs=>⟨ds,rs,ī.mono e o⟩
 refine Call_ (iP I hg hm (show Vb "zip"=Z (.type "zip")by decide+kernel) (UC (ã (ha.h Τ f' s σ H _ I ⟨z,E,key⟩) λus p⟨vs,H1,q,r1,ds,rs,r⟩=>?_) (by rw[hs,A]) (by rw[A];rfl)));unfold JC at r;split at r
 · rename_i xs ys;split at r
   · rename_i hl;obtain⟨j,v',rfl,rv,a'⟩:=Gk rs;obtain⟨i,ws,rfl,h1,h2⟩:=rv.tupE;obtain⟨f,k',rfl,N,i'⟩:=a'.tupE;obtain⟨k,u',rfl,ru,b'⟩:=Ñ.two r1;cases ru;cases b';obtain⟨e',rt,pl,hz⟩:=q.tuple (ù.of h1);obtain⟨d',l',c',m'⟩:=q.tuple (ù.of N);refine yV (show p.heap.IsTuple i e'.toArray from pl) (show p.heap.IsTuple f d'.toArray from c') λh' g1 g2 g3 g4 g5 g6 kk=>?_;refine wpAny_pyIter_zip g1 ?_;have I2:Í a f' σ H1 {p with heap:=h'}:=q.kept (t':=p.toks) kk;have y:∀d n:Nat,d≠n->p.heap.objs.size+d≠p.heap.objs.size+n:=λd n g' e=>g' (aap e);have P:∀d:Nat,0≠d->p.heap.objs.size≠p.heap.objs.size+d:=λd hm e=>hm (aap (n:=p.heap.objs.size) e);refine⟨p.heap.objs.size+4,[p.heap.objs.size+4,p.heap.objs.size+2,p.heap.objs.size+3,p.heap.objs.size,p.heap.objs.size+1],_,Itz i f,H1,rfl,I2,Cc i f _ _ _ _ _ ⟨y 2 4 (by decide),y 3 4 (by decide),P 4 (by decide),y 1 4 (by decide),y 2 3 (by decide),(P 2 (by decide)).symm,y 2 1 (by decide),(P 3 (by decide)).symm,y 3 1 (by decide),P 1 (by decide)⟩,⟨g1,g2,⟨_,_,g3⟩,g4,g5⟩,λc hc=>?_,r _ H1 (.refl H1) (LO h1 N h2 i' hl)⟩;rcases Qd hc with rfl|rfl|rfl|rfl|rfl;·exact q.fpOk (Vn _ _) (q.hok.fresh (Vn _ _))
     ·exact q.fpOk (Vn _ _) (q.hok.fresh (Vn _ _))
     ·exact q.fpOk (Vn _ _) (q.hok.fresh (Vn _ _))
     ·exact q.fpOk (pi _) (q.hok.fresh (pi _))
     ·exact q.fpOk (Vn _ _) (q.hok.fresh (Vn _ _))
   ·exact r.elim
 ·exact r.elim
def ju(b:Q->Ev->Option Ev)(f:List Nat)(a:Û):List Q->Ev->Option Fl|[],e=>Z (.nx (fgt f e))|d::ds,e=>match b d (fgt f e)with|none=>U|some g=>match a g with|some (.nx h)=>ju b f a ds h|o=>o
def wu(b:Q->Ev->Option Ev)(f:List Nat)(d:à)(a:Û):Û:=λe=>c5 (d e) λds=>ju b f a ds e
noncomputable def tgG(X:C)(b:Q->Ev->Option Ev):TG:=λv i H a=>∃d h f,Ô X.K H d v/\Ü X.K H i h/\b d h=Z f/\∀e g,Ð H g->Ü X.K g e f->a e g
theorem FG.pg{b:Q->Ev->Option Ev}(h:FG a g b):PG a g (tgG a b):=λp s m H v u f I r⟨d,n,j,o,E,e,q⟩=>ã (h.h p s m H v u d n j I r o E e) λ_ A⟨i,k,y,w,z⟩=>⟨i,k,y,q i k w z⟩
theorem G0{b:Q->Ev->Option Ev}(s:List Nat)(hp:WH (D_ a.prog a.w) a.A a.env a.xe)(hc:a.calm=L)(hi:ŗ a g u ν)(hg:FG a g b)(hb:ġ a Ψ Ρ)(hs:∀x,TM u a.env x=pure x:=by intro _;lk):FS a (.For g u Ψ [] m) (wu b s ν Ρ):=by refine sQ (qE hp hc hi.h hg.pg hb.h hs) λe σ H P E o=>⟨P,E,?_⟩;unfold wu at o;match hf:ν P,o with
 |none,o=>exact o|some (.exc c),o=>exact o|some (.ok ds),o=>
 intro J H1 e1 wk;have o1:ø a H1 (ju b s Ρ ds P) e:=ø.mono e1 o;refine⟨λn f v k=>f=ds.length-n/\n<=ds.length/\Ð H1 k/\∃j,Ü a.K k v j/\ø a k (ju b s Ρ (ds.drop n) j) e,⟨ds.length,by simp,Ua _,.refl H1,P,E.mono e1,by simpa using o1⟩,?_⟩;rintro n f v k⟨rfl,hn,e2,j,E',q⟩;by_cases z:n<ds.length;·refine .inr ⟨wk.go n k e2 z,λN I=>Ð H1 I/\∃h,Ü a.K I N h/\ø a I (ju b s Ρ (ds.drop (n+1)) h) e,λN I⟨e3,h,E2,i⟩=>⟨ds.length-(n+1),by omega,rfl,z,e3,h,E2,i⟩,λx I y=>?_⟩;obtain⟨e4,d,hd,rd⟩:=wk.yld n k x I e2 z y;rw[iQ hd]at q;unfold ju at q;match A:b d (fgt s j)with
   |none=>rw[A]at q;exact q.elim|some w=>rw[A]at q;refine⟨d,fgt s j,w,rd,(Ü.fgt s E').mono e4,A,λc' H3 e5 E3=>?_⟩;show tS a Ρ _ _ _;refine⟨w,E3,?_⟩;have i:=ø.mono (e4.trans e5) q;dsimp only at i;match p:Ρ w with|none=>rw[p]at i;exact i|some (.exc c)=>rw[p]at i;exact i|some (.rt r)=>rw[p]at i;exact i|some (.nx h)=>rw[p]at i;exactλb' H4 e6 E4=>⟨((e2.trans e4).trans e5).trans e6,h,E4,ø.mono e6 i⟩
 · have a':n=ds.length:=by omega
   subst a';rw[W6]at q;exact .inl ⟨wk.stop k e2,q v k (.refl k) (Ü.fgt s E')⟩
def JD:Ö|[.str x]=>Z (.ok (.str x))|a=>PZ a
theorem yW:nh a (.type "str") (λb H Q=>(∃i,b=[.int i]/\i.natAbs.log2<1920/\Q (.str (toString i)) H)\/∃x,b=[.str x]/\Q (.str x) H):=by
 intro f s e H b us Q I r h;rcases h with⟨i,rfl,d,q⟩|⟨x,rfl,q⟩;·obtain⟨u,rfl,t,rfl⟩:=iL r;exact PySem.P.str_of_int d ⟨.str _,H,I.tok _,⟨_,rfl⟩,q⟩
 ·obtain⟨u,rfl,t,rfl⟩:=iL r;exact PySem.P.str_of_str ⟨.str _,H,I,⟨_,rfl⟩,q⟩
theorem Ha(p:Gl a "str")(n:a.mg "str"=U)(s:FA a (g::w) ν)(q:k_ (g::w) a.env=(D,eval g a.env)::k_ w a.env:=by lk)(f:(TW v (k_ w a.env)).any (·.1)=D:=by lk):FE a (.Call (.Name "str" m) (g::w) [] v) (á JD ν):=eC (lX yW p n (by decide+kernel) s.h (by decide) (by decide) q f) λu H Q j E o=>⟨j,E,è.bind o λds y e z h d=>by
 unfold JD at d;split at d;·rename_i x;obtain⟨b,rfl,r⟩:=eP h;cases(show b=.str x from r);exact .inr ⟨x,rfl,d _ e (.refl e) rfl⟩
 · unfold PZ at d;split at d
   · rename_i i _;split at d;·rename_i k;obtain⟨b,rfl,r⟩:=eP h;cases(show b=.int i from r);exact .inl ⟨i,rfl,k,d _ e (.refl e) rfl⟩
     ·exact d.elim
   ·exact d.elim⟩
noncomputable def u0(b e:Ò):jY:=λa ds=>wq (e a) λd=>wq (b a) λk=>match k with|.int k=>if 0<=k/\k<ds.length then Z (.nx a (ds.set k.toNat d))else U|_=>U
theorem S.set{K:d_}{H:Hp}{d:Q}{v:V}(i:Ô K H d v):∀{ds:List Q}{b:List V}(j:Nat),S K H ds b->S K H (ds.set j d) (b.set j v)|[],b,j,r=>by cases(show b=[]from r);exact r|g::ds,b,0,r=>by obtain⟨h,e,rfl,k,f⟩:∃v a,b=v::a/\Ô K H g v/\S K H ds a:=r;exact⟨v,e,rfl,i,f⟩|g::ds,b,j+1,r=>by obtain⟨h,e,rfl,k,f⟩:∃v a,b=v::a/\Ô K H g v/\S K H ds a:=r;exact⟨h,e.set j v,rfl,k,S.set i j f⟩
theorem Cd(A:a.ex=[]){x:Str}{i:Pos}(hx:PE a (.Name x i) (xq b))(hi:FE a u É)(he:FE a g y)(hs:aav [.Subscript (.Name x i) u v] g m.line a.env=pure D:=by lk)(hw:aaw [.Subscript (.Name x i) u v] g a.env=pure U:=by lk)(h1:(TZ [.Subscript (.Name x i) u v] a.env).map (·.2)=[Wf (.Subscript (.Name x i) u v) a.env]:=by lk)(ha:∀e,Wf (.Subscript (.Name x i) u v) a.env e=(do let N<-WY [e] (eval (.Name x i) a.env);let iv<-WY [e,N] (eval u a.env);Zu v;WY [e,N,iv] (setItem N iv e);release [e,N,iv] []):=by intro _;lk):Ŗ a b (.Assign [.Subscript (.Name x i) u v] g m) (u0 É y):=⟨λf' s σ Hf h I⟨H,f,q,p,ds,e1,c',z,E,r,o⟩=>by refine D8 (sY A he.h) (J0 hx (sY A hi.h) BA ha) hs hw h1 f' s σ Hf h I ⟨H,f,q,e1,c',p,E,?_⟩;unfold u0 at o;match n:y p with
 |none=>rw[n]at o;exact o.elim|some (.exc _)=>rw[n]at o;exact o.elim|some (.ok d)=>rw[n]at o;match j:É p with
 |none=>dsimp only[wq]at o;rw[j]at o;exact o.elim|some (.exc _)=>dsimp only[wq]at o;rw[j]at o;exact o.elim|some (.ok k)=>
 dsimp only[wq]at o;rw[j]at o;dsimp only at o;intro e H' e' rd b';refine⟨.ref f,z,H',f,q,rfl,b',p,E.mono e',?_⟩;show ð a H' (É p) _;rw[j];intro w H2 P rk a';cases k<;>try exact(show False from o).elim
 rename_i k;dsimp only at o;split at o
 · rename_i hk;cases(show w=.int k from rk);have hl:=r.length;have hj:L' q.length k=Z k.toNat:=by unfold L';rw[if_pos hk.1,if_pos (by omega)]
   refine⟨f,q,k,k.toNat,rfl,rfl,av,hj,?_⟩;rw[xm];exact o σ H2 (q.set k.toNat e) (e'.trans P) a' z (E.mono (e'.trans P)) (S.set (Ô.mono P _ _ rd) k.toNat (S.mono (e'.trans P) _ _ r))
 ·exact o.elim⟩
noncomputable def OJ:Ö|[.str x]=>if x.length<=640 then(match abC x with|some n=>Z (.ok (.int n))|none=>U)else U|_=>U
theorem yX:nh a (.type "int") (λb H Q=>∃x i,b=[.str x]/\x.length<=640/\abC x=Z i/\Q (.int i) H):=by intro g s f H b us Q I r h;obtain⟨x,i,rfl,e,d,q⟩:=h;obtain⟨u,rfl,t,rfl⟩:=iL r;exact PySem.W.KIN.call_text d e ⟨.int _,H,I.tok _,⟨_,rfl⟩,q⟩
theorem Ce(q:Gl a "int")(k:a.mg "int"=U)(u:FA a (g::w) ν)(s:k_ (g::w) a.env=(D,eval g a.env)::k_ w a.env:=by lk)(e:(TW v (k_ w a.env)).any (·.1)=D:=by lk):FE a (.Call (.Name "int" m) (g::w) [] v) (á OJ ν):=eC (lX yX q k (by decide+kernel) u.h (by decide) (by decide) s e) λy H Q h E o=>⟨h,E,è.bind o λds z f A i d=>by
 unfold OJ at d;split at d
 · rename_i x;split at d
   · rename_i p;split at d;·rename_i n j;obtain⟨b,rfl,r⟩:=eP i;cases(show b=.str x from r);exact⟨x,n,rfl,p,j,d _ f (.refl f) rfl⟩
     ·exact d.elim
   ·exact d.elim
 ·exact d.elim⟩
end FD
namespace ST
open PySem.SetTable
noncomputable def tm(m:Nat):SetTable:={mask:=m,place:=#[],dummies:=#[],finger:=0,led:=L,moves:=0,plain:=L}
def pos(m:Nat)(h:Int)(n:Nat):Nat:=(advN (tm m) n ((tm m).probeStart h)).j
end ST
namespace FD
open L2
def tC(X:C)(i:Nat)(j:Ò):TS:=λa e H=>∃f,Ü X.K H e f/\match j f with|none=>False|some (.exc c)=>XW X c H|some (.ok d)=>∃g,d=.lst g/\∀b p h,Ð H b->b p=U->S X.K b g h->a.nx (e.set i (Z (.ref p))) (Þ b p (.lst h))
theorem yY{m:List (Str×Nat)}{a:Q->Ev->Option Ev}{f:Option æ}(i:Ev)(d:Q)(h:c6 b m ν a f y i=Z (.ok d)):∃e,d=.lst e:=by
 rcases PD h with⟨c,k,g⟩|⟨ds,e,k,g,o,n,j⟩;·cases g
 ·cases j;exact⟨e,rfl⟩
def ww{a:Type}(b:a->a->Bool)(x:a):List a->List a|[]=>[x]|y::l=>if b x y then x::y::l else y::ww b x l
def gF{a:Type}(b:a->a->Bool):List a->List a|[]=>[]|x::l=>ww b x (gF b l)
theorem j4{a:Type}(b:a->a->Bool)(x:a):∀l:List a,(ww b x l).Perm (x::l)
 |[]=>.refl _|y::l=>by
  unfold ww;split;·exact .refl _
  ·exact((j4 b x l).cons y).trans (abT ..)
theorem cG{a:Type}(b:a->a->Bool):∀l:List a,(gF b l).Perm l|[]=>.refl _|x::l=>(j4 b x _).trans ((cG b l).cons x)
noncomputable def rg:List Q->Option (List Int)|[]=>Z []|.int i::r=>(rg r).map (i::·)|_=>U
theorem j5(h:b<64):b<=sizeLine:=by
 have:sizeLine=16777216:=by decide
 omega
def Hb:Ö|[.lst a]=>(match jX a with|some bs=>Z (.ok (.bl (bs.any id)))|none=>U)|_=>U
theorem yZ:nh a (.builtin "any") (λy H Q=>∃d p bs ds,y=[.ref d]/\H d=Z (.lst p)/\S a.K H ds p/\jX ds=Z bs/\a.calm=L/\Q (.bl (bs.any id)) H):=by
 intro f' s σ H y us Q I r h;obtain⟨d,p,bs,ds,rfl,h1,h2,h3,hc,q⟩:=h;obtain⟨u,rfl,ru⟩:=iL r;cases ru;obtain⟨z,a',n,P,hl,e⟩:=I.lstM h1;have eb:=o9 h2 P h3;subst eb;have A:s.heap.IsList d (bs.map S_).toArray:=⟨_,e,rfl,_,rfl⟩;have w:d<s.heap.objs.size:=y_ e;refine call_any_walk (Xy A ?_);refine⟨s.heap.objs.size,[s.heap.objs.size,d],[s.heap.objs.size],(bs.map S_).toArray.size,_,_,λi=>(bs[i]?).getD L,rfl,abK (A:=a.A.in1) (I.ok.hd hc) _ d (TY w) (bs.map S_).toArray,⟨⟨_,v_ _ rfl,rfl,rfl⟩,A.push _⟩,λi v N Q' E' hP hQ=>?_,λh' E hk=>?_⟩
 · have f:(bs.map S_)[i]?=Z v:=by simpa using hP
   rw[L_]at f;cases j:bs[i]? with|none=>rw[j]at f;cases f|some b=>rw[j]at f;cases f;have k:Q' ((bs[i]?).getD L) N:=hQ;rw[j]at k;exact Vh k
 · have e2:((p_ (bs.map S_).toArray.size).any λi=>(bs[i]?).getD L)=bs.any id:=by
    rw[H_,P_];rw[Vc];simp only[Wr,TX,id];constructor;·rintro⟨i,g,m⟩;simp only[F_ g,abh]at m;exact⟨_,W4 g,m⟩
    ·rintro⟨b,j,m⟩;obtain⟨i,g,rfl⟩:=aae.mp j;exact⟨i,g,by simpa[g]using m⟩
   rw[e2];exact⟨.bl (bs.any id),H,I.kept (t':=E) λb o q=>hk b o (by simp;exact TY (y_ q)) (j_ _ q),rfl,q⟩
theorem LP(u:a.calm=L)(q:Gl a "any")(p:a.mg "any"=U)(z:FA a (g::w) ν)(s:k_ (g::w) a.env=(D,eval g a.env)::k_ w a.env:=by lk)(f:(TW v (k_ w a.env)).any (·.1)=D:=by lk):FE a (.Call (.Name "any" m) (g::w) [] v) (á Hb ν):=eC (jT yZ q p (by decide+kernel) z.h (by decide) (by decide) s f) λN H Q i E o=>⟨i,E,è.bind o λds P h e1 n e=>by
 unfold Hb at e;split at e
 · rename_i j;split at e;·rename_i bs y;obtain⟨d,rfl,r⟩:=eP n;obtain⟨b,k,rfl,I,A⟩:=r.lstE;exact⟨b,k,bs,j,rfl,I,A,y,u,e _ h (.refl h) rfl⟩
   ·exact e.elim
 ·exact e.elim⟩
theorem ED{a:Option æ}{b:Ò}{e:Ev}:∀ds:List Q,yb a b e ds=kH (gN 0) a b e ds|[]=>rfl|d::ds=>by unfold yb kH;rw[ED ds];rfl
theorem Hc(f:List (Str×Nat))(a:à)(b:Option æ)(e:Ò):dq f a b e=c6 1 f a (gN 0) b e:=by funext d;show Ù (a d) _=Ù (a d) _;congr 1;funext ds;rw[ED];rfl
theorem Hd(h:PS a Δ (tC a b y))(r:∀f d,y f=Z (.ok d)->∃i,d=.lst i):FS a Δ (cy b y):=⟨λu s m H e I⟨f,E,o⟩=>by refine h u s m H e I ⟨f,E,?_⟩;unfold cy at o;match g:y f with|none=>rw[g]at o;exact o.elim|some (.exc c)=>rw[g]at o;exact o|some (.ok d)=>rw[g]at o;obtain⟨i,rfl⟩:=r f d g;exact⟨i,rfl,λv p n k j q=>o _ _ (k.trans (aH j _)) ((E.mono (k.trans (aH j _))).set ⟨p,n,rfl,av,S.mono (aH j _) _ _ q⟩)⟩⟩
end FD
namespace ST
open PySem.SetTable
end ST
namespace FD
open L2
end FD
namespace TS
def ğ{a:Type}(M:WO)(A:C_)(E:B->ge->Prop)(J:ge->Prop)(m:StateT ε Sem a)(Q:a->ε->Prop)(b:ε):Prop:=∀s,J s->u_ M A (m.run b) (λr d=>J d/\Q r.1 r.2) E s
variable{Ì:ge->Prop}
theorem cB{b:Type}{a:b}{Q:b->ε->Prop}(h:Q a Ë):ğ Æ N χ Ì (pure a:StateT ε Sem b) Q Ë:=λs d=>by rw[abt];exact l_ ⟨d,h⟩
theorem bC{g d:Type}{m:StateT ε Sem g}{f:g->StateT ε Sem d}{Q:d->ε->Prop}(h:ğ Æ N χ Ì m (λa b=>ğ Æ N χ Ì (f a) Q b) Ë):ğ Æ N χ Ì (m>>=f) Q Ë:=λs k=>by rw[StateT.run_bind];exact e_ (Uj (h s k) (λr j i=>i.2 j i.1) λ_ _ e=>e)
theorem rh{d:Type}{m:StateT ε Sem d}{Q g:d->ε->Prop}(h:ğ Æ N χ Ì m Q Ë)(j:∀a b,Q a b->g a b):ğ Æ N χ Ì m g Ë:=λs i=>Uj (h s i) (λr _ f=>⟨f.1,j _ _ f.2⟩) λ_ _ e=>e
theorem wx{Q:ε->ε->Prop}(h:Q Ë Ë):ğ Æ N χ Ì (get:StateT ε Sem ε) Q Ë:=λs a=>by rw[StateT.run_get];exact l_ ⟨a,h⟩
theorem lI{f:ε->ε}{Q:PUnit->ε->Prop}(h:Q ⟨⟩ (f Ë)):ğ Æ N χ Ì (modify f:StateT ε Sem PUnit) Q Ë:=λs a=>by rw[StateT.run_modify];exact l_ ⟨a,h⟩
theorem za{b:Type}{m:Sem b}{Q:b->ε->Prop}(h:∀s,Ì s->u_ Æ N m (λa d=>Ì d/\Q a Ë) χ s):ğ Æ N χ Ì (liftM m:StateT ε Sem b) Q Ë:=λs f=>by show u_ Æ N ((StateT.lift m:StateT ε Sem b).run Ë) _ χ s;rw[StateT.run_lift];exact e_ (Uj (h s f) (λa d g=>l_ g) λ_ _ e=>e)
theorem LQ{M:WO}{A:C_}{E:B->ge->Prop}{J:ge->Prop}{o k:Type}(f:Nat->k->StateT o Sem (ForInStep k))(I:Nat->k->o->Prop)(Q:k->o->Prop)(b:Nat)(g:∀i c st,i<b->I i c st->ğ M A E J (f i c) (λr d=>match r with|.done j=>Q j d|.yield j=>I (i+1) j d) st)(m:∀c st,I b c st->Q c st):∀(n a:Nat)(c:k)(st:o),a+n=b->I a c st->ğ M A E J (V' (List.range' a n 1) c f) Q st
 |0,a,c,st,e,h=>by
  rw[List.range'_zero,XV];have:a=b:=by omega
  subst this;exact cB (m c st h)|n+1,a,c,st,e,h=>by rw[List.range'_succ,Yq];refine bC (rh (g a c st (by omega) h) λr d p=>?_);cases r with|done j=>exact cB p|yield j=>exact LQ f I Q b g m n (a+1) j d (by omega) p
theorem kL{d:Type}{f:Nat->d->StateT ε Sem (ForInStep d)}(I:Nat->d->ε->Prop){Q:d->ε->Prop}(o:b<=k)(g:∀i c a,i<k->I i c a->ğ Æ N χ Ì (f i c) (λr e=>match r with|.done j=>Q j e|.yield j=>I (i+1) j e) a)(n:∀c a,I k c a->Q c a){c:d}{a:ε}(h:I b c a):ğ Æ N χ Ì (V' [b:k] c f) Q a:=by
 rw[Std.Legacy.Range.forIn_eq_forIn_range'];have m:([b:k]:aa8).size=k-b:=by simp[Std.Legacy.Range.size]
 show ğ Æ N χ Ì (V' (List.range' b ([b:k]:aa8).size 1) c f) Q a;rw[m];exact LQ f I Q k g n (k-b) b c a (by omega) h
structure Od(blt:Nat->Nat->Bool):Prop where
 ir:∀a,blt a a=D
 tr:∀a b c,blt a b=L->blt b c=L->blt a c=L
 nt:∀a b c,blt a c=L->blt a b=L\/blt b c=L
def ĵ(d:Nat->Nat->Bool)(a b:Nat):Prop:=d a b=L\/(d b a=D/\a<b)
variable{Ζ:Nat->Nat->Bool}
theorem Od.le(O:Od Ζ){a b c:Nat}(e:Ζ b a=D)(d:Ζ c b=D):Ζ c a=D:=by cases h:Ζ c a with|false=>rfl|true=>
 rcases O.nt _ b _ h with q|q;·rw[q]at d;cases d
 ·rw[q]at e;cases e
theorem Od.lt_le(O:Od Ζ){a b c:Nat}(e:Ζ a b=L)(d:Ζ c b=D):Ζ a c=L:=by
 rcases O.nt _ c _ e with q|q;·exact q
 ·rw[q]at d;cases d
theorem Od.le_lt(O:Od Ζ){a b c:Nat}(d:Ζ b a=D)(e:Ζ b c=L):Ζ a c=L:=by
 rcases O.nt _ a _ e with q|q;·rw[q]at d;cases d
 ·exact q
theorem Od.as(O:Od Ζ){a b:Nat}(h:Ζ a b=L):Ζ b a=D:=by cases d:Ζ b a with|false=>rfl|true=>have:=O.tr _ _ _ h d;rw[O.ir]at this;cases this
theorem ĵ.tr(O:Od Ζ){a b c:Nat}(e:ĵ Ζ a b)(d:ĵ Ζ b c):ĵ Ζ a c:=by
 rcases e with e|⟨e,f⟩
 · rcases d with d|⟨d,i2⟩;·exact .inl (O.tr _ _ _ e d)
   ·exact .inl (O.lt_le e d)
 · rcases d with d|⟨d,i2⟩;·exact .inl (O.le_lt e d)
   ·exact .inr ⟨O.le e d,by omega⟩
theorem ĵ.of_le(h:Ζ k b=D)(i:b<k):ĵ Ζ b k:=.inr ⟨h,i⟩
structure SB(a₀:Array Yg)(kd:Wm)(p:Nat->Nat)(st:VP):Prop where
 sz:(Yt st).size=a₀.size
 at':∀k,k<a₀.size->(Yt st)[k]?=a₀[p k]?lt:∀k,k<a₀.size->p k<a₀.size
 inj:∀a b,a<a₀.size->b<a₀.size->p a=p b->a=b
 kind:kindOf st=kd
 failed:aaZ st=U
 pend:Zm st=#[]
noncomputable def Ģ(p:Nat->Nat)(i j k:Nat):Nat:=if i<=k/\k<j then p (i+j-1-k)else p k
noncomputable def Œ(p:Nat->Nat)(a b k:Nat):Nat:=if k=b then p a else if b<k/\k<=a then p (k-1)else p k
variable{Ν:Nat->Nat}
theorem SB.mirror{d:Array Yg}{h:Wm}{f:VP}(B:SB d h Ν f){i j:Nat}(o:j<=d.size):SB d h (Ģ Ν i j) (setArr f (mirror (Yt f) i j ((j-i)/2)))where
 sz:=(mirror_size _ _ _ _).trans B.sz;at':=λk g=>by
  show(PyProof.Rows.mirror (Yt f) i j ((j-i)/2))[k]?=_;rw[getElem?_mirror_all (by rw[B.sz];exact o)];unfold Ģ;split;·exact B.at' _ (by omega)
  ·exact B.at' _ g
 lt:=λk g=>by
  unfold Ģ;split;·exact B.lt _ (by omega)
  ·exact B.lt _ g
 inj:=λa b n m e=>by
  unfold Ģ at e;split at e<;>split at e;·have:=B.inj _ _ (by omega) (by omega) e;omega
  ·have:=B.inj _ _ (by omega) m e;omega
  ·have:=B.inj _ _ n (by omega) e;omega
  ·exact B.inj _ _ n m e
 kind:=B.kind;failed:=B.failed;pend:=B.pend
theorem SB.bubble{g:Array Yg}{m:Wm}{h:VP}(B:SB g m Ν h){d f:Nat}(i:d<g.size)(n:f<=d):SB g m (Œ Ν d f) (setArr h (bubble (Yt h) d (d-f)))where
 sz:=(bubble_size _ _ _).trans B.sz;at':=λk j=>by
  show(PyProof.Rows.bubble (Yt h) d (d-f))[k]?=_;rw[getElem?_bubble (by rw[B.sz];exact i) _ (by omega),show d-(d-f)=f by omega];unfold Œ;split;·exact B.at' _ i
  · split;·exact B.at' _ (by omega)
    ·exact B.at' _ j
 lt:=λk j=>by
  unfold Œ;split;·exact B.lt _ i
  · split;·exact B.lt _ (by omega)
    ·exact B.lt _ j
 inj:=λa b p o e=>by
  unfold Œ at e;repeat' split at e
  all_goals first|omega|(have:=B.inj _ _ (by omega) (by omega) e;omega)
 kind:=B.kind;failed:=B.failed;pend:=B.pend
def Cm(M:WO)(A:C_)(J:ge->Prop)(a:Array Yg)(f:Wm)(d:Nat->Nat->Bool):Prop:=∀(i j:Nat)(x y:Yg)(s:ge)(g:B->ge->Prop),a[i]?=Z x->a[j]?=Z y->J s->u_ M A (keyLt' f x.1 y.1) (λb e=>J e/\b=d i j) g s
theorem LR{f:Array Yg}{m:Wm}{g:VP}{Q:Option Bool->VP->Prop}(C:Cm Æ N Ì f m Ζ)(a:SB f m Ν g)(j:b<f.size)(i:k<f.size)(h:Q (Z (Ζ (Ν b) (Ν k))) g):ğ Æ N χ Ì (ltAt' b k) Q g:=by
 have r:(Yt g)[b]?=Z (f[Ν b]'(a.lt b j)):=by rw[a.at' b j];simp[a.lt b j]
 have q:(Yt g)[k]?=Z (f[Ν k]'(a.lt k i)):=by rw[a.at' k i];simp[a.lt k i]
 rw[ltAt'_eq];refine bC (wx ?_);show ğ Æ N χ Ì (do let x<-elem' (Yt g) b;let y<-elem' (Yt g) k;lt' x y) Q g;rw[elem'_eq,elem'_eq,r,q];refine bC (cB (bC (cB ?_)));rw[lt'_eq];refine bC (wx ?_);rw[a.kind];refine bC (za λs n=>Xb (Uj (C (Ν b) (Ν k) _ _ s _ (by simp[a.lt b j]) (by simp[a.lt k i]) n) (λd u p=>?_) λ_ _ e=>e));obtain⟨o,rfl⟩:=p;exact⟨o,cB h⟩
theorem Cf{a:VP}{Q:Unit->VP->Prop}(h:Q () (setArr a (mirror (Yt a) b k ((k-b)/2)))):ğ Æ N χ Ì (reverseSlice' b k) Q a:=by rw[reverseSlice'_eq];exact lI h
structure Up(blt:Nat->Nat->Bool)(p:Nat->Nat)(n N:Nat):Prop where
 so:∀a b,a<b->b<n->ĵ blt (p a) (p b)lo:∀a,a<n->p a<n
 re:∀a,n<=a->a<N->p a=a
theorem Up.next(O:Od Ζ){n N:Nat}(d:Up Ζ Ν n N)(q:1<=n)(m:n<N)(h:Ζ (Ν n) (Ν (n-1))=D):Up Ζ Ν (n+1) N where
 so:=λa b k p=>by
  by_cases g:b<n;·exact d.so a b k g
  · have i:b=n:=by omega
    subst i;have e:ĵ Ζ (Ν (b-1)) (Ν b):=.of_le h (by rw[d.re b (pi _) m];exact d.lo _ (by omega));by_cases f:a=b-1;·subst f;exact e
    ·exact(d.so a (b-1) (by omega) (by omega)).tr O e
 lo:=λa f=>by
  by_cases j:a<n;·have:=d.lo a j;omega
  · have:a=n:=by omega
    subst this;rw[d.re a (pi _) m];omega
 re:=λa f o=>d.re a (by omega) o
theorem LS{e:Array Yg}{o:Wm}{i:VP}{Q:AscSt->VP->Prop}(O:Od Ζ)(C:Cm Æ N Ì e o Ζ)(d:SB e o Ν i)(s:1<=b)(m:b<=k)(r:k<=e.size)(a:Up Ζ Ν b e.size)(h:∀n,b<=n->n<=k->Up Ζ Ν n e.size->(n=k\/Ζ (Ν n) (Ν (n-1))=L)->Q (U,n) i):ğ Æ N χ Ì (ascLoop b k) Q i:=by
 unfold ascLoop;refine kL (I:=λx c f=>f=i/\c=(U,x)/\b<=x/\Up Ζ Ν x e.size) m ?_ ?_ ⟨rfl,rfl,pi _,a⟩;·rintro x c f q⟨rfl,rfl,g,j⟩;dsimp only;refine bC (LR C d (by omega) (by omega) ?_);cases p:Ζ (Ν x) (Ν (x-1))with|true=>simp only[if_true];exact cB (h x g (by omega) j (.inr p))|false=>simp only[xy,if_false];exact cB ⟨rfl,rfl,by omega,j.next O (by omega) (by omega) p⟩
 ·rintro c f⟨rfl,rfl,g,j⟩;exact h k g (pi _) j (.inl rfl)
structure Dn(blt:Nat->Nat->Bool)(p:Nat->Nat)(n N:Nat):Prop where
 so:∀a b,a<b->b<n->ĵ blt (p b) (p a)lo:∀a,a<n->p a<n
 re:∀a,n<=a->a<N->p a=a
structure Dq(blt:Nat->Nat->Bool)(p:Nat->Nat)(c n N:Nat):Prop where
 cn:c<n
 d1:∀a b,a<b->b<c->ĵ blt (p b) (p a)d2:∀a b,a<c->c<=b->b<n->blt (p b) (p a)=L
 d3:∀a b,c<=a->a<b->b<n->blt (p a) (p b)=D/\blt (p b) (p a)=D/\p a<p b
 lo:∀a,a<n->p a<n
 re:∀a,n<=a->a<N->p a=a
theorem Dq.turn(d:Dq Ζ Ν b k ι):Dn Ζ (Ģ Ν b k) k ι where
 so:=λa e i j=>by
  unfold Ģ;by_cases g:b<=e
  · rw[if_pos ⟨g,j⟩];by_cases h:b<=a;·rw[if_pos ⟨h,by omega⟩];have:=d.d3 (b+k-1-e) (b+k-1-a) (by omega) (by omega) (by omega);exact .inr ⟨this.2.1,this.2.2⟩
    ·rw[if_neg (by omega)];exact .inl (d.d2 a _ (by omega) (by omega) (by omega))
  ·rw[if_neg (by omega),if_neg (by omega)];exact d.d1 a e i (by omega)
 lo:=λa f=>by
  unfold Ģ;split;·exact d.lo _ (by omega)
  ·exact d.lo _ f
 re:=λa f m=>by unfold Ģ;rw[if_neg (by omega)];exact d.re a f m
theorem Dq.one(d:Dq Ζ Ν (b-1) b k):Dn Ζ Ν b k where
 so:=λa e g h=>by
  by_cases f:e<b-1;·exact d.d1 a e g f
  ·exact .inl (d.d2 a e (by omega) (by omega) h)
 lo:=d.lo;re:=d.re
theorem Dn.turn(d:Dn Ζ Ν b k):Up Ζ (Ģ Ν 0 b) b k where
 so:=λa e i g=>by unfold Ģ;rw[if_pos ⟨Ua _,by omega⟩,if_pos ⟨Ua _,g⟩];exact d.so _ _ (by omega) (by omega)
 lo:=λa f=>by unfold Ģ;rw[if_pos ⟨Ua _,f⟩];exact d.lo _ (by omega)
 re:=λa f h=>by unfold Ģ;rw[if_neg (by omega)];exact d.re a f h
theorem Dn.next(O:Od Ζ){n N:Nat}(d:Dn Ζ Ν n N)(p:1<=n)(i:n<N)(h:Ζ (Ν n) (Ν (n-1))=L):Dq Ζ Ν n (n+1) N where
 cn:=by omega
 d1:=d.so;d2:=λa b f j m=>by
  have:b=n:=by omega
  subst this;by_cases e:a=b-1;·subst e;exact h
  · rcases d.so a (b-1) (by omega) (by omega)with q|⟨q,_⟩;·exact O.tr _ _ _ h q
    ·exact O.lt_le h q
 d3:=λa b f o j=>by omega
 lo:=λa f=>by
  by_cases g:a<n;·have:=d.lo a g;omega
  · have:a=n:=by omega
    subst this;rw[d.re a (pi _) i];omega
 re:=λa f k=>d.re a (by omega) k
theorem Dq.next(O:Od Ζ){c n N:Nat}(d:Dq Ζ Ν c n N)(m:n<N)(p:Ζ (Ν n) (Ν (n-1))=D)(i:Ζ (Ν (n-1)) (Ν n)=D):Dq Ζ Ν c (n+1) N where
 cn:=by have:=d.cn;omega
 d1:=d.d1;d2:=λa b f o u=>by
  by_cases g:b<n;·exact d.d2 a b f o g
  · have:b=n:=by omega
    subst this;exact O.le_lt i (d.d2 a (b-1) f (by have:=d.cn;omega) (by omega))
 d3:=λa b f k o=>by
  by_cases g:b<n;·exact d.d3 a b f k g
  · have:b=n:=by omega
    subst this;have h:Ν a<Ν b:=by have:=d.lo a (by omega);rw[d.re b (pi _) m];exact this
    by_cases e:a=b-1;·subst e;exact⟨i,p,h⟩
    ·obtain⟨r,q,_⟩:=d.d3 a (b-1) f (by omega) (by omega);exact⟨O.le i r,O.le q p,h⟩
 lo:=λa f=>by
  by_cases j:a<n;·have:=d.lo a j;omega
  · have:a=n:=by omega
    subst this;rw[d.re a (pi _) m];omega
 re:=λa f s=>d.re a (by omega) s
theorem zb{f:Array Yg}{i:Wm}{o:VP}{Q:Option Nat->VP->Prop}(O:Od Ζ)(C:Cm Æ N Ì f i Ζ)(e:SB f i Ν o)(s:1<=b)(j:b<=k)(r:k<=f.size)(d:Dn Ζ Ν b f.size)(h:∀m p g,SB f i p g->1<=m->m<=k->Up Ζ p m f.size->Q (Z m) g):ğ Æ N χ Ì (tail3 b k) Q o:=by unfold tail3;refine bC (Cf ?_);have q:=e.mirror (i:=0) (j:=b) (by omega);exact bC (LS O C q s j r d.turn λm u n a _=>cB (h m _ _ q (by omega) n a))
theorem LU{g:Array Yg}{r:Wm}{w:VP}{Q:DescSt->VP->Prop}(O:Od Ζ)(C:Cm Æ N Ì g r Ζ)(d:SB g r Ν w)(h1:2<=b)(v:b<=k)(P:k<=g.size)(a:Dq Ζ Ν (b-1) b g.size)(h:∀m f i j,SB g r i j->b<=m->m<=k->f+1<=m->Dq Ζ i (m-(f+1)) m g.size->Q (U,m,f) j):ğ Æ N χ Ì (descLoop b k) Q w:=by
 unfold descLoop;refine kL (I:=λx c j=>∃f i,c=(U,x,f)/\SB g r i j/\b<=x/\f+1<=x/\Dq Ζ i (x-(f+1)) x g.size) v ?_ ?_ ⟨0,Ν,rfl,d,pi _,by omega,a⟩;·rintro x c j I⟨f,i,rfl,o,q,u,n⟩;dsimp only;refine bC (LR C o (by omega) (by omega) ?_);cases s:Ζ (i x) (i (x-1))with
 |true=>
 simp only[if_true];by_cases p:f>0
 · rw[if_pos p];refine bC (Cf (cB ?_));have H:=o.mirror (i:=x-(f+1)) (j:=x) (by omega);refine⟨0,_,rfl,H,by omega,by omega,?_⟩;have E:=n.turn;have hc:=n.cn;refine E.next O (by omega) (by omega) ?_;have A:Ģ i (x-(f+1)) x x=i x:=by unfold Ģ;rw[if_neg (by omega)]
   have z:Ģ i (x-(f+1)) x (x-1)=i (x-(f+1)):=by unfold Ģ;rw[if_pos (by omega)];congr 1;omega
   rw[A,z];by_cases e:x-(f+1)=x-1;·rw[e];exact s
   ·exact O.lt_le s (n.d3 (x-(f+1)) (x-1) (pi _) (by omega) (by omega)).1
 · rw[if_neg p];have e:f=0:=by omega
   subst e;exact cB ⟨0,i,rfl,o,by omega,by omega,n.one.next O (by omega) (by omega) s⟩|false=>simp only[xy,if_false];refine bC (LR C o (by omega) (by omega) ?_);cases y:Ζ (i (x-1)) (i x)with|true=>simp only[if_true];exact cB (h x f i j o q (by omega) u n)|false=>simp only[xy,if_false];refine cB ⟨f+1,i,rfl,o,by omega,by omega,?_⟩;have:=n.next O (by omega) s y;rwa[show x+1-(f+1+1)=x-(f+1)by omega]
 ·rintro c j⟨f,i,rfl,o,q,u,n⟩;exact h k f i j o q (pi _) u n
theorem oj{f:Array Yg}{p:Wm}{u:VP}{Q:Option Nat->VP->Prop}(O:Od Ζ)(C:Cm Æ N Ì f p Ζ)(d:SB f p Ν u)(E:1<=b)(r:b+1<=k)(q:k<=f.size)(a:Dq Ζ Ν b (b+1) f.size)(h:∀m o i,SB f p o i->1<=m->m<=k->Up Ζ o m f.size->Q (Z m) i):ğ Æ N χ Ì (descPart b k) Q u:=by
 unfold descPart;refine bC (za λs y=>Xh ⟨y,?_⟩);refine bC (LU O C d (by omega) r q a λm j o i w z n A v=>?_);dsimp only;by_cases g:j>0;·rw[if_pos g];exact bC (Cf (zb O C (w.mirror (by omega)) (by omega) n q v.turn h))
 · rw[if_neg g];have e:j=0:=by omega
   subst e;exact zb O C w (by omega) n q v.one h
theorem He{j:Array Yg}{I:Wm}{H:VP}{Q:Option Nat->VP->Prop}(O:Od Ζ)(C:Cm Æ N Ì j I Ζ)(g:SB j I Ν H)(h1:1<=b)(P:b<=j.size)(r:∀k,k<j.size->Ν k=k)(h:∀m p' u,SB j I p' u->1<=m->m<=b->Up Ζ p' m j.size->Q (Z m) u):ğ Æ N χ Ì (countRun' 0 b) Q H:=by
 rw[countRun0_eq];refine bC (LS O C g (pi 1) h1 P ⟨λa d A s=>by omega,λa o=>by rw[r a (by omega)];exact o,λa _ hN=>r a hN⟩ λn w v f c'=>?_);dsimp only;by_cases p:n=b;·rw[if_pos (by simpa using p)];exact cB (h n Ν H g w v f)
 · rw[if_neg (by simpa using p)];have y:Ζ (Ν n) (Ν (n-1))=L:=c'.resolve_left p;by_cases z:n>1;·rw[if_pos z];refine bC (LR C g (by omega) (by omega) ?_);cases hr:Ζ (Ν 0) (Ν (n-1))with|true=>simp only[if_true];exact cB (h n Ν H g w v f)|false=>
     simp only[xy,if_false];have B':=g.mirror (i:=0) (j:=n) (by omega);have b':∀a,a<n->Ζ (Ν a) (Ν 0)=D:=λa o=>by
      by_cases e:a=0;·subst e;exact O.ir _
      · rcases f.so 0 a (by omega) o with q|q;·exact O.as q
        ·exact q.1
     have a':∀a,a<n->Ζ (Ν (n-1)) (Ν a)=D:=λa o=>by
      by_cases e:a=n-1;·subst e;exact O.ir _
      · rcases f.so a (n-1) (by omega) (by omega)with q|q;·exact O.as q
        ·exact q.1
     have eq:∀a d,a<n->d<n->Ζ (Ν a) (Ν d)=D:=λa d o s=>O.le (a' d s) (O.le hr (b' a o));have i:Dq Ζ (Ģ Ν 0 n) n (n+1) j.size:=by
      have Dm:Dn Ζ (Ģ Ν 0 n) n j.size:=⟨λa d A s=>by unfold Ģ;rw[if_pos ⟨Ua _,s⟩,if_pos ⟨Ua _,by omega⟩];refine .of_le (eq _ _ (by omega) (by omega)) ?_;rw[r _ (by omega),r _ (by omega)];omega,λa o=>by unfold Ģ;rw[if_pos ⟨Ua _,o⟩,r _ (by omega)];omega,λa o hN=>by unfold Ģ;rw[if_neg (by omega),r _ hN]⟩;refine Dm.next O (by omega) (by omega) ?_;have e1:Ģ Ν 0 n n=Ν n:=by unfold Ģ;rw[if_neg (by omega)]
      have e2:Ģ Ν 0 n (n-1)=Ν 0:=by unfold Ģ;rw[if_pos (by omega)];congr 1;omega
      rw[e1,e2];exact O.lt_le y (eq 0 (n-1) (by omega) (by omega))
     exact bC (Cf (oj O C B' (by omega) (by omega) P i h))
   · rw[if_neg z];have E:n=1:=by omega
     subst E;refine oj O C g (by omega) (by omega) P ?_ h;have Dm:Dn Ζ Ν 1 j.size:=⟨λa d A s=>by omega,f.lo,f.re⟩;exact Dm.next O (by omega) (by omega) y
theorem Qe{m:Array Yg}{A:Wm}{st:VP}{Q:Bool->VP->Prop}(O:Od Ζ)(C:Cm Æ N Ì m A Ζ)(j:SB m A Ν st)(i':1<=k)(a':k<=b)(hn:b<=m.size)(g:Up Ζ Ν k m.size)(h:∀n p,SB m A n p->Up Ζ n b m.size->Q L p):ğ Æ N χ Ì (binarySort' 0 b k) Q st:=by
 rw[binarySort'_eq];simp only[Wz];rw[show max k 1=k by omega];refine bC (rh (kL (I:=λd c p=>∃n,c=(U,())/\k<=d/\SB m A n p/\Up Ζ n d m.size) (Q:=λc p=>∃n,c=(U,())/\SB m A n p/\Up Ζ n b m.size) a' ?_ ?_ ⟨Ν,rfl,pi _,j,g⟩) ?_)
 · rintro d c p hk⟨n,rfl,h',z,u⟩;have E:n d=d:=u.re d (pi _) (by omega);refine bC (rh (kL (I:=λx c s=>s=p/\∃l r,c=(U,l,r)/\l<=r/\r<=d/\r-l<=d-x/\(∀i,i<l->Ζ (n d) (n i)=D)/\(∀i,r<=i->i<d->Ζ (n d) (n i)=L)) (Q:=λc s=>s=p/\∃l r,c=(U,l,r)/\l<=d/\(∀i,i<l->Ζ (n d) (n i)=D)/\(∀i,l<=i->i<d->Ζ (n d) (n i)=L)) (Ua d) ?_ ?_ ⟨rfl,0,d,rfl,by omega,by omega,by omega,λi hi=>by omega,λi h1 h2=>by omega⟩) ?_)
   · rintro x c s hx⟨rfl,l,r,rfl,b',y,hm,v,w⟩;dsimp only;by_cases H:l>=r
     · rw[if_pos H];have:l=r:=by omega
       subst this;exact cB ⟨rfl,l,l,rfl,y,v,w⟩
     ·rw[if_neg H];refine bC (LR C z (by omega) (by omega) ?_);cases o:Ζ (n d) (n ((l+r)/2))with
       |true=>
        simp only[if_true];refine cB ⟨rfl,l,(l+r)/2,rfl,by omega,by omega,by omega,v,λi i1 i2=>?_⟩;by_cases e:i=(l+r)/2;·subst e;exact o
        · rcases u.so ((l+r)/2) i (by omega) i2 with q|q;·exact O.tr _ _ _ o q
          ·exact O.lt_le o q.1|false=>
        simp only[xy,if_false];refine cB ⟨rfl,(l+r)/2+1,r,rfl,by omega,by omega,by omega,λi i1=>?_,w⟩;by_cases e:i=(l+r)/2;·subst e;exact o
        · rcases u.so i ((l+r)/2) (by omega) (by omega)with q|q;·exact O.le (O.as q) o
          ·exact O.le q.1 o
   · rintro c s⟨rfl,l,r,rfl,b',y,hm,v,w⟩;have:l=r:=by omega
     subst this;exact⟨rfl,l,l,rfl,y,v,w⟩
   · rintro c s⟨rfl,l,r,rfl,c',v,w⟩;show ğ Æ N χ Ì (do moveDown' d l;pure (WF (U,()))) _ _;rw[moveDown'_eq];refine bC (lI (cB ⟨Œ n d l,rfl,by omega,z.bubble (by omega) c',?_⟩));refine⟨λa f I hb=>?_,λa ha=>?_,λa ha hN=>?_⟩
     · have c1:Œ n d l l=n d:=by unfold Œ;rw[if_pos rfl]
       have c2:∀x,l<x->x<=d->Œ n d l x=n (x-1):=λx h1 h2=>by unfold Œ;rw[if_neg (by omega),if_pos ⟨h1,h2⟩]
       have P:∀x,x<l->Œ n d l x=n x:=λx h1=>by unfold Œ;rw[if_neg (by omega),if_neg (by omega)]
       by_cases d':f=l;·subst d';rw[c1,P a I];exact .of_le (v a (by omega)) (by rw[E];exact u.lo a (by omega))
       · by_cases e':l<f
         · rw[c2 f e' (by omega)];by_cases f':a=l;·subst f';rw[c1];exact .inl (w (f-1) (by omega) (by omega))
           · by_cases g':l<a;·rw[c2 a g' (by omega)];exact u.so (a-1) (f-1) (by omega) (by omega)
             ·rw[P a (by omega)];exact u.so a (f-1) (by omega) (by omega)
         ·rw[P a (by omega),P f (by omega)];exact u.so a f I (by omega)
     · unfold Œ;split;·rw[E];omega
       · split;·have:=u.lo (a-1) (by omega);omega
         ·have:=u.lo a (by omega);omega
     ·unfold Œ;rw[if_neg (by omega),if_neg (by omega)];exact u.re a (by omega) hN
 ·rintro c p⟨n,rfl,_,z,u⟩;exact⟨n,rfl,z,u⟩
 ·rintro c p⟨n,rfl,z,u⟩;exact cB (h n p z u)
structure Qf(a₀:Array Yg)(blt:Nat->Nat->Bool)(p:Nat->Nat)(xs:Array Yg):Prop where
 sz:xs.size=a₀.size
 at':∀k,k<a₀.size->xs[k]?=a₀[p k]?lt:∀k,k<a₀.size->p k<a₀.size
 inj:∀a b,a<a₀.size->b<a₀.size->p a=p b->a=b
 so:∀a b,a<b->b<a₀.size->ĵ blt (p a) (p b)
def Dne(a:Array Yg)(d:Nat->Nat->Bool)(b:VP):Prop:=∃p,Qf a d p (Yt b)/\aaZ b=U/\Zm b=#[(0,a.size,0)]
theorem SB.done{b:Array Yg}{e:Wm}{d:VP}(B:SB b e Ν d)(a:Up Ζ Ν b.size b.size):Dne b Ζ (setPending d ((Zm d).push (0,b.size,0))):=⟨Ν,⟨B.sz,B.at',B.lt,B.inj,a.so⟩,B.failed,by show(Zm d).push _=_;rw[B.pend];rfl⟩
theorem LV{d:Array Yg}{j:Wm}{y:VP}{Q:Unit->VP->Prop}(O:Od Ζ)(C:Cm Æ N Ì d j Ζ)(b:SB d j Ν y)(hp:∀k,k<d.size->Ν k=k)(h2:2<=d.size)(w:d.size<64)(h:∀H e,Qf d Ζ H (Yt e)->aaZ e=U->Q () e):ğ Æ N χ Ì sortRuns' Q y:=by
 rw[sortRuns'_eq];refine bC (wx ?_);dsimp only;have r:minRun' d.size d.size 0=d.size:=by
  obtain⟨f,hf⟩:∃f,d.size=f+1:=⟨d.size-1,by omega⟩;have:minRun' (f+1) d.size 0=d.size:=by rw[minRun'_succ,if_pos w];rfl
  rwa[<-hf]at this
 simp only[b.sz,r];refine bC (rh (kL (I:=λx c e=>(x=0/\c=(U,0)/\SB d j Ν e)\/(1<=x/\c=(U,d.size)/\Dne d Ζ e)) (Q:=λc e=>c=(U,d.size)/\Dne d Ζ e) (Ua _) ?_ ?_ (.inl ⟨rfl,rfl,b⟩)) ?_)
 · rintro x c e I(⟨rfl,rfl,B'⟩|⟨a',rfl,a⟩)
   · dsimp only;rw[if_neg (by omega)];simp only[Nat.sub_zero,Nat.min_self,Wz];refine bC (He O C B' (by omega) (pi _) hp λm p2 q o v u z=>?_);dsimp only;by_cases i:m<d.size
     · rw[if_pos i];refine bC (za λs P=>Xh ⟨P,?_⟩);refine bC (Qe O C o v u (pi _) z λp3 p A U3=>?_);simp only[Xe,xy,if_false];refine bC (wx ?_);have n:(Zm p).back?=U:=by rw[A.pend];rfl
       rw[n];dsimp only;exact bC (lI (cB (.inr ⟨by omega,rfl,A.done U3⟩)))
     · rw[if_neg i];have hm:m=d.size:=by omega
       subst hm;refine bC (wx ?_);have n:(Zm q).back?=U:=by rw[o.pend];rfl
       rw[n];dsimp only;exact bC (lI (cB (.inr ⟨by omega,rfl,o.done z⟩)))
   ·dsimp only;rw[if_pos (pi _)];exact cB ⟨rfl,a⟩
 · rintro c e(⟨I,_,_⟩|⟨_,hc,a⟩);·omega
   ·exact⟨hc,a⟩
 · rintro c e⟨rfl,E,D1,D2,D3⟩;dsimp only;refine bC (rh (kL (I:=λ_ c g=>g=e/\c=(U,())) (Q:=λc g=>g=e/\c=(U,())) (Ua _) ?_ (λ_ _ hh=>hh) ⟨rfl,rfl⟩) ?_);·rintro x c g _⟨rfl,rfl⟩;refine bC (wx ?_);rw[if_pos (by rw[D3];exact pi 1)];exact cB ⟨rfl,rfl⟩
   ·rintro c g⟨rfl,rfl⟩;exact cB (h E _ D1 D2)
def JT(s:ge)(H:TC):ge->Prop:=λb=>∃a,s.toks<=a/\b={s with heap:=H,toks:=a}
open L2
theorem wy(b:Bool)(x y:B):keyLt' (tuples' b) x y=(do
 let d<-XM x;let a<-XM y
 for((p,q),i)in(d.toList.zip a.toList).zipIdx do if !(<-eqBool p q)then return<-oneLt' (b&&i==0) p q
 return t_ (d.size<a.size)):=rfl
theorem wz(v:B):firstOfTuple' v=(do
 if(<-abB v)!=.type "tuple"then return U
 return(<-XM v)[0]?):=rfl
def om(h:TC)(A:C_)(z:Bool)(p q:B)(e l:Bool):Prop:=∀(a:n_)(w:x_)(E:B->ge->Prop)(s:ge),s.heap=h->(∀Q:Bool->ge->Prop,Q e s->u_ (D_ a w) A (eqBool p q) Q E s)/\(∀(b:Bool)(Q:Bool->ge->Prop),(b=L->z=L)->Q l s->u_ (D_ a w) A (oneLt' b p q) Q E s)
theorem rj(x:Bool){M:WO}{A:C_}{E:B->ge->Prop}{s:ge}{Q:Bool->ge->Prop}(h:Q x s):u_ M A (truthOfDropped (.bool x)) Q E s:=Vh h
theorem u3(e:TC)(A:C_)(z:Bool)(a b:Str)(t u:Tok):om e A z (.str a t) (.str b u) (t_ (a=b)) (t_ (a.cps.toList<b.cps.toList)):=λd w E s _=>⟨λQ h=>wpAny_eqBool_str h,λf Q _ h=>by cases f with|true=>exact oneLt_str h|false=>rw[aaj];simp only[xy,if_false];exact e_ (aao (rj _ h):u_ (D_ d w) A (Ug .Lt (.str a t) (.str b u)) _ E s)⟩
theorem u4(e:TC)(A:C_)(z:Bool)(a b:Int)(t u:Tok):om e A z (.int a t) (.int b u) (a==b) (t_ (a<b)):=λd w E s _=>⟨λQ h=>wpAny_eqBool_int h,λf Q _ h=>by cases f with|true=>exact oneLt_int h|false=>rw[aaj];simp only[xy,if_false];exact e_ (PyProof.Rows.lt_int (rj _ h):u_ (D_ d w) A (Ug .Lt (.int a t) (.int b u)) _ E s)⟩
theorem Hh(e:TC)(A:C_)(z:Bool)(a b:Bool):om e A z (.bool a) (.bool b) (a==b) (t_ (b2i a<b2i b)):=λd w E s _=>⟨λQ h=>Z8 a b d w E Q h,λf Q _ h=>by cases f with|true=>rw[aaj];simp only[if_true];refine e_ (wpAny_cRoomFor_byValue rfl ?_);refine e_ (wpAny_callSpecialIfBound?_slot (aaY s a) F.slot_bool_lt (call_gives F.slot_bool_lt (aaY s a) F.entry_int_lt (F.args_int_lt_2 _ _) (gives_int_lt_bools a b) ?_));exact rj _ h|false=>rw[aaj];simp only[xy,if_false];exact e_ (PyProof.Rows.lt_bool (rj _ h):u_ (D_ d w) A (Ug .Lt (.bool a) (.bool b)) _ E s)⟩
noncomputable def dw:List (Bool×Bool)->Option Bool|[]=>U|(L,_)::r=>dw r|(D,l)::_=>Z l
theorem gf(k l:Bool)(a:List (Bool×Bool)):(dw ((k,l)::a)).getD D=if k=L then(dw a).getD D else l:=by cases k<;>rfl
inductive rm(h:TC)(A:C_):Bool->List (B×B)->List (Bool×Bool)->Prop|nil{z:Bool}:rm h A z [] []|cons{z:Bool}{p q:B}{e l:Bool}{ps:List (B×B)}{rs:List (Bool×Bool)}:om h A z p q e l->rm h A D ps rs->rm h A z ((p,q)::ps) ((e,l)::rs)
theorem zc{a:n_}{w:x_}{A:C_}{E:B->ge->Prop}{s:ge}(b:Bool){R:Option Bool×Unit->ge->Prop}:∀{z:Bool}{l:List (B×B)}{d:List (Bool×Bool)}(k:Nat),rm s.heap A z l d->(k=0->z=L)->R (dw d,()) s->u_ (D_ a w) A (V' (l.zipIdx k) ((U,()):Option Bool×Unit) λx __s=>match x with|((p,q),i)=>do
 let __do_lift<-eqBool p q if(!__do_lift)=L then do
 let __do_lift<-oneLt' (b&&i==0) p q
 pure (ForInStep.done (Z __do_lift,()))else pure (WF (U,()))) R E s
 |_,_,_,k,.nil,_,h=>by rw[ZR,XV];exact l_ h|_,_,_,k,.cons (p:=p) (q:=q) (e:=e) (l:=l) i r,g,h=>by rw[Zq,Yq];refine e_ ?_;dsimp only;refine e_ ((i a w E s rfl).1 _ ?_);cases e with|true=>simp only[Xe,xy,if_false];exact l_ (zc b (k+1) r (λz=>absurd z (Nat.succ_ne_zero k)) h)|false=>simp only[XY,if_true];exact e_ ((i a w E s rfl).2 _ _ (λf=>g (by simp at f;exact f.2)) (l_ (l_ h)))
theorem zd(b:Bool){a c:O}{g e:Array B}{i:List (Bool×Bool)}{Q:Bool->ge->Prop}(n:f.heap.IsTuple a g)(m:f.heap.IsTuple c e)(k:rm f.heap N L (g.toList.zip e.toList) i)(h:Q ((dw i).getD (t_ (g.size<e.size))) f):u_ (D_ s r) N (keyLt' (tuples' b) (.ref a) (.ref c)) Q χ f:=by rw[wy];obtain⟨w,p,_,z,u⟩:=n;obtain⟨v,o,_,y,q⟩:=m;refine e_ (Yz p u (e_ (Yz o q ?_)));refine e_ (zc b 0 k (λ_=>rfl) ?_);dsimp only;cases j:dw i with|none=>rw[j]at h;exact l_ h|some d=>rw[j]at h;exact l_ h
inductive mv(h:TC):List B->List B->Prop|nil:mv h [] []|cons{a:O}{xs:Array B}{f:B}{vs fs:List B}:h.IsTuple a xs->xs[0]?=Z f->mv h vs fs->mv h (.ref a::vs) (f::fs)
theorem rn{a:n_}{w:x_}{A:C_}{E:B->ge->Prop}{s:ge}{R:List (Option B)->ge->Prop}:∀{b:List B}{fs:List B},mv s.heap b fs->R (fs.map Z) s->u_ (D_ a w) A (b.mapM firstOfTuple') R E s|_,_,.nil,h=>by rw[List.mapM_nil];exact l_ h|_,_,.cons f e r,h=>by rw[List.mapM_cons,wz];obtain⟨o,g,c,n,d⟩:=f;refine e_ (e_ (Xx (T:="tuple") ⟨o,g,c⟩ ?_));rw[if_neg (by decide)];refine e_ (Yz g d (l_ ?_));rw[e];refine e_ (rn r ?_);exact l_ h
def LW(p q:B)(e l:Bool):Prop:=∀(a:n_)(w:x_)(A:C_)(E:B->ge->Prop)(s:ge),(∀Q:Bool->ge->Prop,Q e s->u_ (D_ a w) A (eqBool p q) Q E s)/\(∀Q:B->ge->Prop,Q (.bool l) s->u_ (D_ a w) A (richCompare .Lt p q) Q E s)
inductive oo:List (B×B)->List (Bool×Bool)->Prop|nil:oo [] []|cons{p q:B}{e l:Bool}{ps:List (B×B)}{rs:List (Bool×Bool)}:LW p q e l->oo ps rs->oo ((p,q)::ps) ((e,l)::rs)
section
open PySem.SeqAt
open PySem.AutoSeq1(wpAny_loadPart')
open PySem.MeetsSeq PySem.MeetsSeq2 PySem.MeetsSeq3
theorem ze(l b:O)(j f:Array B)(n n2:Nat)(dd N:Option O)(sl H:Array (Option B))(v:List (Bool×Bool))(hi:oo (j.toList.zip f.toList) v)(hz:j.size=f.size):Meets (Wc.«tuple.__lt__» ⟨[.ref l,.ref b],[]⟩) (λ_ a s=>s.heap.get? l=Z {cls:=.type "tuple",dict:=dd,data:=.seq j n,slots:=sl}/\s.heap.get? b=Z {cls:=.type "tuple",dict:=N,data:=.seq f n2,slots:=H}/\a (.ok (.ret (.bool ((dw v).getD D)))) s):=.of_wp λm w A a s h=>by
 obtain⟨z,g,d,u,os⟩:=s;obtain⟨hl,hb,h⟩:=h;have R:=Zb;wp_walk using Yi hl,Yi hb,WX _ (λrest b p=>b.1=U/\p=⟨z,g,d,u,os⟩/\∃k,oo rest k/\a (.ok (.ret (.bool ((dw k).getD D)))) ⟨z,g,d,u,os⟩) _;case turn=>rintro⟨y,x⟩rest b p⟨o,rfl,k,E,q⟩;cases E with|cons i r=>rename_i e lw P;rw[gf]at q;refine e_ ((i m w _ _ _).1 _ ?_);cases e with|true=>wp_walk;exact⟨rfl,rfl,_,r,by simpa using q⟩|false=>have I:=λQ h=>(i m w A.in1 (λe p=>a (.error e) p) ⟨z,g,d,u,os⟩).2 Q h;wp_walk using I;exact⟨_,rfl,by simpa using q⟩
 case fin=>rintro⟨b1,b2⟩p⟨o,rfl,k,E,q⟩;simp only at o;subst o;cases E;wp_walk;exact⟨_,rfl,by simpa[X0,hz,dw]using q⟩
 case h=>exact⟨rfl,rfl,v,hi,h⟩
end
noncomputable def m5:List Str->List Str->Bool|x::b,y::a=>if x=y then m5 b a else t_ (x.cps.toList<y.cps.toList)|_,_=>D
theorem oq:∀{f g:List Str}{d b:List B},f.length=g.length->Ñ (f.map V.str) d->Ñ (g.map V.str) b->∃e,oo (d.zip b) e/\(dw e).getD D=m5 f g
 |[],[],d,b,_,v,n=>by cases v;exact⟨[],.nil,rfl⟩|k::f,j::g,d,b,r,v,n=>by cases v with|cons p v2=>cases n with|cons m i=>obtain⟨e,q,i2⟩:=oq (by simpa using r) v2 i;obtain⟨t,rfl⟩:=p;obtain⟨o,rfl⟩:=m;refine⟨(t_ (k=j),t_ (k.cps.toList<j.cps.toList))::e,.cons (λa w A E s=>⟨(u3 s.heap A D k j t o a w E s rfl).1,λQ h=>(aao h:u_ (D_ a w) A (Ug .Lt (.str k t) (.str j o)) Q E s)⟩) q,?_⟩;rw[gf,i2];simp[m5]
 |[],_::_,_,_,h,_,_=>by simp at h|_::_,[],_,_,h,_,_=>by simp at h
theorem tt{a:n_}{w:x_}:∀{d:List Str}{b:List B},Ñ (d.map V.str) b->abO (aax a w) d b|[],b,v=>by cases v;exact .nil|k::d,b,v=>by cases v with|cons e v2=>obtain⟨t,rfl⟩:=e;exact .cons (by show Xc k (.str k t)=L;simp[Xc]) (tt v2)
theorem Cg{j:List Str}{i:List B}(hu:N.units+8<cLine)(h1:I.IsTuple e θ.toArray)(h2:I.IsTuple z i.toArray)(hl:A.length=j.length)(m:Ñ (A.map V.str) θ)(k:Ñ (j.map V.str) i):om I N D (.ref e) (.ref z) (t_ (A=j)) (m5 A j):=λg w E s hs=>by subst hs;obtain⟨⟨a',dd,y,P⟩,o,v,n,u⟩:=id h1;obtain⟨⟨H,q,data2,p⟩,a,f,n2,d⟩:=id h2;simp only at v u f d;subst v u f d;refine⟨λQ h=>PySem.wpAny_eqBool_tuple (knd:=aax g w) (by omega) ⟨_,_,_,o,rfl,rfl,by simpa using tt m⟩ ⟨_,_,_,a,rfl,rfl,by simpa using tt k⟩ h,λb Q hb h=>?_⟩;cases b with|true=>exact absurd (hb rfl) (by decide)|false=>
 rw[aaj];simp only[xy,if_false];obtain⟨r,i1,i2⟩:=oq hl m k;rw[<-i2]at h;have hz:θ.toArray.size=i.toArray.size:=by have e1:=m.length;have e2:=k.length;simp at e1 e2⊢;omega
 refine e_ ?_;exact Zv (op:=.Lt) ⟨_,o,rfl⟩ ⟨_,a,rfl⟩ PySem.F.slot_tuple_lt PySem.F.entry_tuple_lt (PySem.F.args_tuple_lt_2 _ _) (ze e z θ.toArray i.toArray n n2 dd q P p r i1 hz) ⟨o,a,show S_ ((dw r).getD D)≠Z6/\_ from⟨(λx=>nomatch x),rj _ h⟩⟩ (by omega)
open FD
def ę:Q->Nat|.str _=>1|.int _=>2|.bl _=>3|.tup ds=>(match c7 ds with|some a=>4+a.length|none=>0)|_=>0
def Ĵ:Q->Q->Bool|.str a,.str b=>t_ (a=b)|.int a,.int b=>a==b|.bl a,.bl b=>a==b|.tup a,.tup b=>(match c7 a,c7 b with|some x,Z y=>t_ (x=y)|_,_=>D)|_,_=>D
def Ĥ:Q->Q->Bool|.str a,.str b=>t_ (a.cps.toList<b.cps.toList)|.int a,.int b=>t_ (a<b)|.bl a,.bl b=>t_ (b2i a<b2i b)|.tup a,.tup b=>(match c7 a,c7 b with|some x,Z y=>m5 x y|_,_=>D)|_,_=>D
def ē:List Q->List Q->Bool|x::b,y::a=>if Ĵ x y then ē b a else Ĥ x y|_,_=>D
def ć(a:List Q):List Nat:=a.map ę
noncomputable def kN(a:List Nat):Bool:=a.all λk=>k !=0
theorem jp:∀{ds:List Q}{a:List Str},c7 ds=Z a->ds=a.map Q.str|[],a,h=>by cases h;rfl|.str x::r,a,h=>by obtain⟨d,b,rfl⟩:=VJ.mp (show(c7 r).map (x::·)=Z a from h);rw[jp b];rfl|.non::_,_,h=>by cases h|.bl _::_,_,h=>by cases h|.int _::_,_,h=>by cases h|.tup _::_,_,h=>by cases h|.lst _::_,_,h=>by cases h|.scr _::_,_,h=>by cases h|.exn _::_,_,h=>by cases h|.obj _ _::_,_,h=>by cases h
theorem jz(h:ę (.tup E)≠0):∃a,c7 E=Z a/\ę (.tup E)=4+a.length:=by
 simp only[ę]at h⊢;split at h;·rename_i a e;exact⟨a,e,rfl⟩
 ·exact absurd rfl h
theorem ot(h:Ĵ j μ=L):j=μ:=by
 cases j<;>cases μ<;>simp only[Ĵ,xy,decide_eq_true_eq,beq_iff_eq]at h<;>try(rw[h];done)
 split at h;·rename_i b a;rw[jp b,jp a,of_decide_eq_true h]
 ·cases h
theorem u5(h:ę j≠0):Ĵ j j=L:=by
 cases j<;>try(simp[ę]at h;done)
 all_goals try(simp[Ĵ];done)
 obtain⟨a,e,_⟩:=jz h;simp[Ĵ,e]
theorem zg:∀a:List Str,m5 a a=D|[]=>rfl|x::a=>by rw[m5,if_pos rfl];exact zg a
theorem EE:∀{h g f:List Str},m5 h g=L->m5 g f=L->m5 h f=L
 |x::h,y::g,z::f,a,b=>by
  unfold m5 at a b⊢;by_cases i:x=y
  · subst i;rw[if_pos rfl]at a;by_cases d:x=z;·rw[if_pos d]at b⊢;exact EE a b
    ·rw[if_neg d]at b⊢;exact b
  · rw[if_neg i]at a;by_cases d:y=z;·subst d;rw[if_neg i];exact a
    ·rw[if_neg d]at b;have:=List.lt_trans (of_decide_eq_true a) (of_decide_eq_true b);rw[if_neg λe=>by subst e;exact List.lt_irrefl _ this];exact decide_eq_true this|[],_,_,a,_=>by simp[m5]at a|_::_,[],_,a,_=>by simp[m5]at a|_::_,_::_,[],_,b=>by simp[m5]at b
theorem zh(a b:Str)(h:¬a.cps.toList<b.cps.toList)(d:¬b.cps.toList<a.cps.toList):a=b:=by have e:a.cps.toList=b.cps.toList:=List.le_antisymm (List.not_lt.mp d) (List.not_lt.mp h);obtain⟨⟨a⟩⟩:=a;obtain⟨⟨b⟩⟩:=b;simp at e;rw[e]
theorem tu:∀{xs ys:List Str},xs.length=ys.length->m5 xs ys=D->m5 ys xs=D->xs=ys
 |[],[],_,_,_=>rfl|x::xs,y::ys,d,b,a=>by
  unfold m5 at b a;by_cases e:x=y;·subst e;rw[if_pos rfl]at b a;rw[tu (by simpa using d) b a]
  ·rw[if_neg e]at b;rw[if_neg (Uq e)]at a;exact absurd (zh _ _ (of_decide_eq_false b) (of_decide_eq_false a)) e|[],_::_,h,_,_=>by simp at h|_::_,[],h,_,_=>by simp at h
theorem u8(x:Q):Ĥ x x=D:=by cases x with
 |str a=>simp only[Ĥ,decide_eq_false_iff_not];exact List.lt_irrefl _|int a=>simp[Ĥ]|bl a=>cases a<;>rfl|tup ds=>
 simp only[Ĥ];split;·rename_i x y d b;rw[d]at b;cases b;exact zg x
 ·rfl|_=>rfl
variable{Γ:Q}
theorem u9(b:Ĥ j μ=L)(a:Ĥ μ Γ=L):Ĥ j Γ=L:=by
 cases j<;>cases μ<;>simp only[Ĥ,xy,decide_eq_true_eq]at b<;>cases Γ<;>simp only[Ĥ,xy,decide_eq_true_eq]at a⊢;·omega
 ·omega
 ·exact List.lt_trans b a
 · split at b
   · rename_i m k g f;split at a;·rename_i i h d e;rw[f]at d;cases d;rw[g,e];exact EE b a
     ·cases a
   ·cases b
theorem zi(d:ę j=ę μ)(h:ę j≠0)(g:Ĥ j μ=D)(f:Ĥ μ j=D):j=μ:=by cases j with
 |str a=>cases μ with|str b=>simp only[Ĥ,decide_eq_false_iff_not]at g f;rw[zh _ _ g f]|tup b=>obtain⟨_,_,e⟩:=jz (show ę (.tup b)≠0 by rw[<-d];exact h);simp only[ę]at d e;rw[e]at d;omega|_=>simp[ę]at d
 |int a=>cases μ with|int b=>simp[Ĥ]at g f;rw[show a=b by omega]|tup b=>obtain⟨_,_,e⟩:=jz (show ę (.tup b)≠0 by rw[<-d];exact h);simp only[ę]at d e;rw[e]at d;omega|_=>simp[ę]at d
 |bl a=>cases μ with|bl b=>cases a<;>cases b<;>simp[Ĥ,b2i]at g f⊢|tup b=>obtain⟨_,_,e⟩:=jz (show ę (.tup b)≠0 by rw[<-d];exact h);simp only[ę]at d e;rw[e]at d;omega|_=>simp[ę]at d
 |tup a=>obtain⟨n,m,k⟩:=jz h;cases μ with|tup b=>obtain⟨o,i,p⟩:=jz (show ę (.tup b)≠0 by rw[<-d];exact h);simp only[Ĥ,m,i]at g f;rw[jp m,jp i,tu (by omega) g f]|_=>simp only[ę]at d k;rw[k]at d;omega
 |_=>exact absurd rfl h
theorem EF:∀a:List Q,ē a a=D
 |[]=>rfl|x::a=>by
  unfold ē;split;·exact EF a
  ·exact u8 x
theorem zj:∀{i h g:List Q},ē i h=L->ē h g=L->ē i g=L
 |x::i,y::h,z::g,a,b=>by
  unfold ē at a b⊢;by_cases f:Ĵ x y=L
  · have:=ot f;subst this;rw[if_pos f]at a;by_cases d:Ĵ x z=L;·rw[if_pos d]at b⊢;exact zj a b
    ·rw[if_neg d]at b⊢;exact b
  · rw[if_neg f]at a;by_cases d:Ĵ y z=L;·have:=ot d;subst this;rw[if_neg f];exact a
    ·rw[if_neg d]at b;have:=u9 a b;rw[if_neg λe=>by have:=ot e;subst this;have:=u9 a b;rw[u8]at this;cases this];exact this|[],_,_,a,_=>by simp[ē]at a|_::_,[],_,a,_=>by simp[ē]at a|_::_,_::_,[],_,b=>by simp[ē]at b
theorem EG:∀{e d i:List Q},ć e=ć d->ć d=ć i->kN (ć e)=L->ē e i=L->ē e d=L\/ē d i=L
 |x::e,y::d,z::i,a,f,k,h=>by
  simp only[ć,E_,ZU]at a f;simp only[ć,kN,E_,Vu,m_,bne_iff_ne,ne_eq]at k;have j:=k.1;unfold ē at h⊢;by_cases g:Ĵ x y=L
  · have:=ot g;subst this;rw[if_pos g];by_cases b:Ĵ x z=L;·rw[if_pos b]at h⊢;exact EG a.2 f.2 (by simpa[kN,ć]using k.2) h
    ·rw[if_neg b]at h⊢;exact .inr h
  · rw[if_neg g];by_cases b:Ĵ y z=L;·have:=ot b;subst this;rw[if_neg g]at h;exact .inl h
    ·rw[if_neg b];cases p:Ĥ x y with|true=>exact .inl rfl|false=>cases o:Ĥ y z with|true=>exact .inr rfl|false=>
    exfalso;have s:Ĥ y x=L:=by cases q:Ĥ y x with|true=>rfl|false=>have:=zi a.1 j p q;subst this;exact absurd (u5 j) g
    have r:Ĥ z y=L:=by cases q:Ĥ z y with|true=>rfl|false=>have:=zi f.1 (by rw[<-a.1];exact j) o q;subst this;exact absurd (u5 (by rw[<-a.1];exact j)) b
    have m:=u9 r s;by_cases n:Ĵ x z=L;·have:=ot n;subst this;rw[u8]at m;cases m
    ·rw[if_neg n]at h;have:=u9 h m;rw[u8]at this;cases this
 |[],_,_,_,_,_,h=>by simp[ē]at h|_::_,[],_,a,_,_,_=>by simp[ć]at a|_::_,_::_,[],_,f,_,_=>by simp[ć]at f
theorem zk{R:Nat->Nat->Prop}(h:∀a b,R a b->R b a->False):∀{l m:List Nat},l.Perm m->l.Pairwise R->m.Pairwise R->l=m
 |[],m,d,_,_=>d.nil_eq|x::l,[],d,_,_=>by simpa using d.length_eq|x::l,y::m,d,g,f=>by
  rw[Uz]at g f;have e:x=y:=by
   rcases uk.mp (d.mem_iff.mp (q_ (a:=x)))with e|j;·exact e
   · rcases uk.mp (d.mem_iff.mpr (q_ (a:=y)))with e|i;·exact e.symm
     ·exact(h _ _ (g.1 y i) (f.1 x j)).elim
  subst e;rw[zk h d.cons_inv g.2 f.2]
variable{Ζ:Nat->Nat->Bool}
theorem ĵ.as(O:Od Ζ){a b:Nat}(h:ĵ Ζ a b)(d:ĵ Ζ b a):False:=by
 have:=h.tr O d;rcases this with q|q;·rw[O.ir]at q;cases q
 ·omega
theorem zl{a:Nat->Nat->Bool}(O:Od a)(x:Nat):∀l:List Nat,(∀y∈l,x<y)->l.Pairwise (ĵ a)->(ww (λi j=>!a j i) x l).Pairwise (ĵ a)
 |[],_,_=>by simp[ww]|y::l,f,h=>by
  unfold ww;rw[Uz]at h;split
  · rename_i e;have d:ĵ a x y:=.of_le (by simpa using e) (f y q_);rw[Uz,Uz];refine⟨λz b=>?_,h⟩;rcases uk.mp b with rfl|b;·exact d
    ·exact d.tr O (h.1 z b)
  · rename_i e;rw[Uz];refine⟨λz b=>?_,zl O x l (λz b=>f z (r_ _ b)) h.2⟩;rcases uk.mp ((j4 _ x l).mem_iff.mp b)with rfl|b;·exact .inl (by simpa using e)
    ·exact h.1 z b
theorem vb{a:Nat->Nat->Bool}(O:Od a):∀l:List Nat,l.Pairwise (·<·)->(gF (λi j=>!a j i) l).Pairwise (ĵ a)|[],_=>.nil|x::l,h=>by rw[Uz]at h;exact zl O x _ (λy b=>h.1 y ((cG _ l).mem_iff.mp b)) (vb O l h.2)
theorem zm{a d:Type}{g:a->a->Bool}{b:d->d->Bool}(f:a->d)(x:a):∀l:List a,(∀y∈l,g x y=b (f x) (f y))->(ww g x l).map f=ww b (f x) (l.map f)
 |[],_=>rfl|y::l,h=>by
  have e:=h y q_;simp only[ww,E_];rw[<-e];split;·rfl
  ·rw[E_,zm f x l λz i=>h z (r_ _ i)]
theorem sort_map{e g:Type}{i:e->e->Bool}{d:g->g->Bool}(f:e->g):∀l:List e,(∀x∈l,∀y∈l,i x y=d (f x) (f y))->(gF i l).map f=gF d (l.map f)|[],_=>rfl|x::l,h=>by simp only[gF,E_];rw[zm (b:=d) f x _ λy j=>h x q_ y (r_ _ ((cG _ l).mem_iff.mp j)),sort_map f l λa m b k=>h a (r_ _ m) b (r_ _ k)]
theorem mw:∀(l m:List Nat),l.Nodup->(∀x∈l,x∈m)->m.length<=l.length->l.Perm m
 |[],m,_,_,h=>by have:m=[]:=Wo.mp (by simpa using h);subst this;exact .refl _|x::l,m,a,d,h=>by
  rw[UV]at a;obtain⟨f,e,rfl⟩:=List.append_of_mem (d x q_);refine((mw l (f++e) a.2 (λy b=>?_) (by simp at h⊢;omega)).cons x).trans List.perm_middle.symm;have:=d y (r_ _ b);simp only[TH,uk]at this⊢;rcases this with q|rfl|q;·exact .inl q
  ·exact(a.1 b).elim
  ·exact .inr q
variable{Ν:Nat->Nat}
theorem tz(g:∀k,k<b->Ν k<b)(f:∀a d,a<b->d<b->Ν a=Ν d->a=d):((p_ b).map Ν).Perm (p_ b):=by
 have i:((p_ b).map Ν).Nodup:=by rw[List.nodup_iff_pairwise_ne,XS];refine(List.nodup_range (n:=b)).imp_of_mem λ{a d}o n h e=>h (f a d (by simpa using o) (by simpa using n) e)
 have sub:∀x∈(p_ b).map Ν,x∈p_ b:=λx j=>by obtain⟨k,m,rfl⟩:=R_.mp j;simpa using g k (by simpa using m)
 exact mw _ _ i sub (by simp)
theorem rq(O:Od Ζ){n:Nat}{p:Nat->Nat}(e:∀k,k<n->p k<n)(d:∀a b,a<n->b<n->p a=p b->a=b)(g:∀a b,a<b->b<n->ĵ Ζ (p a) (p b)):(p_ n).map p=gF (λi j=>!Ζ j i) (p_ n):=by refine zk (λa b h o=>h.as O o) ((tz e d).trans (cG _ _).symm) ?_ (vb O _ ZI);rw[XS];exact(ZI (n:=n)).imp_of_mem λ{a b}q m f=>g a b f (by simpa using m)
theorem ve{a:n_}{w:x_}{A:C_}{E:B->ge->Prop}{s:ge}{R:List B->ge->Prop}:∀{fs:List B},(∀f∈fs,∃T,∀e:ge,e.TypeIs f T)->(∀b,R b s)->u_ (D_ a w) A (fs.mapM abB) R E s|[],_,h=>by rw[List.mapM_nil];exact l_ (h _)|f::fs,d,h=>by obtain⟨T,hT⟩:=d f q_;rw[List.mapM_cons];refine e_ (Xx (hT s) ?_);exact e_ (ve (λg i=>d g (r_ _ i)) λb=>l_ (h _))
theorem Qg{d:List B}(j:mv f.heap θ d)(i:∀a∈d,∃T,∀g:ge,g.TypeIs a T){R:Wm->ge->Prop}(h:∀b,R (tuples' b) f):u_ (D_ s r) N (keyKind' θ.toArray) R χ f:=by
 rw[keyKind'_eq,aa1];refine e_ ?_;rw[<-bind_pure_comp];refine e_ (rn j (l_ ?_));rw[if_pos (by simp)];refine e_ (Xh ?_);have e:(d.map Z).toArray.filterMap id=d.toArray:=by simp
 rw[e,oneTypeOnly'_eq,aa1];refine e_ (e_ ?_);rw[<-bind_pure_comp];refine e_ (ve i λk=>l_ ?_);split;·exact l_ (l_ (h _))
 ·exact l_ (l_ (h _))
end TS
variable{Ì:ge->Prop}{Ζ:Nat->Nat->Bool}{Ν:Nat->Nat}{Γ:FD.Q}
namespace FD
open L2 TS
def Hi:List Q->Bool|[]=>D|d::_=>t_ (ę d<4)
def j6(a:List (List Q)):Bool:=t_ (a.length<64)&&a.all λr=>t_ (ć r=ć (a.headD []))&&Hi r&&kN (ć r)
theorem rA:∀{ds:List Q}{b:List Str}{us:List V},c7 ds=Z b->S q h ds us->us=b.map V.str:=by intro ds b us a r;have:=jp a;subst this;clear a;induction b generalizing us with|nil=>exact(show us=[]from r)|cons k b g=>obtain⟨v,d,rfl,f,e⟩:∃v d,us=v::d/\Ô q h (.str k) v/\S q h (b.map Q.str) d:=r;cases(show v=.str k from f);rw[g e];rfl
theorem vf{X:C}{f':List (O×Obj)}{σ:L2.St}{H:Hp}{s:ge}{N:TC}{A:C_}(I:Í X f' σ H s)(hu:A.units+8<cLine)(up:∀b o,s.heap.get? b=Z o->N.get? b=Z o):∀{z:Bool}{j d:List Q}{us i:List V}{m f:List B},(z=L->Hi j=L)->ć j=ć d->kN (ć j)=L->S X.K H j us->S X.K H d i->Ñ us m->Ñ i f->∃E,rm N A z (m.zip f) E/\(dw E).getD D=ē j d
 |z,[],[],us,i,m,f,_,_,_,r,r',v,v'=>by cases(show us=[]from r);cases v;exact⟨[],.nil,rfl⟩|z,x::j,y::d,us,i,m,f,hz,s,P,r,r',v,v'=>by obtain⟨u,g,rfl,r1,r2⟩:∃v g,us=v::g/\Ô X.K H x v/\S X.K H j g:=r;obtain⟨u',i',rfl,w,b'⟩:∃v g,i=v::g/\Ô X.K H y v/\S X.K H d g:=r';simp only[ć,E_,ZU]at s;simp only[ć,kN,E_,Vu,m_,bne_iff_ne,ne_eq]at P;cases v with|cons v1 v2=>cases v' with|cons k a'=>
  obtain⟨E,i1,i2⟩:=vf I hu up (z:=D) (λz=>by cases z) s.2 (by simpa[kN,ć]using P.2) r2 b' v2 a';rename_i b1 l1 b2 l2;have one:∀(p q:B)(e l:Bool),om N A z p q e l->(if e=L then ē j d else l)=ē (x::j) (y::d)->∃E,rm N A z ((p,q)::l1.zip l2) E/\(dw E).getD D=ē (x::j) (y::d):=λp q e l h zz=>⟨(e,l)::E,.cons h i1,by rw[gf,i2];exact zz⟩;have kt:∀ds n,ę (.tup ds)=n->n≠0->n<4->False:=λds n e h0 h4=>by obtain⟨_,_,e'⟩:=jz (E:=ds) (by omega);omega
  cases x with
  |str a=>cases y with|str b=>cases(show u=.str a from r1);cases(show u'=.str b from w);obtain⟨t,rfl⟩:=v1;obtain⟨t',rfl⟩:=k;exact one _ _ _ _ (u3 N A z a b t t') rfl|tup b=>exact(kt b 1 s.1.symm (by decide) (by decide)).elim|_=>exact absurd s.1 (by simp[ę])
  |int a=>cases y with|int b=>cases(show u=.int a from r1);cases(show u'=.int b from w);obtain⟨t,rfl⟩:=v1;obtain⟨t',rfl⟩:=k;exact one _ _ _ _ (u4 N A z a b t t') rfl|tup b=>exact(kt b 2 s.1.symm (by decide) (by decide)).elim|_=>exact absurd s.1 (by simp[ę])
  |bl a=>cases y with|bl b=>cases(show u=.bl a from r1);cases(show u'=.bl b from w);cases v1;cases k;exact one _ _ _ _ (Hh N A z a b) rfl|tup b=>exact(kt b 3 s.1.symm (by decide) (by decide)).elim|_=>exact absurd s.1 (by simp[ę])
  |tup ds=>obtain⟨ks,e1,e2⟩:=jz P.1;cases y with|tup g'=>
  obtain⟨js,e3,e4⟩:=jz (E:=g') (by rw[<-s.1];exact P.1);obtain⟨a,xs,rfl,ha,rx⟩:=r1.tupE;obtain⟨c,ys,rfl,hc,ry⟩:=w.tupE;cases v1;cases k;obtain⟨l',q1,q2,_⟩:=I.tuple (ù.of ha);obtain⟨k',p1,p2,_⟩:=I.tuple (ù.of hc);have zf:z=D:=by cases z with|false=>rfl|true=>have:=hz rfl;simp only[Hi,decide_eq_true_eq]at this;omega
  subst zf;obtain⟨o1,g1,d'⟩:=q2;obtain⟨o2,g2,c'⟩:=p2;rw[rA e1 rx]at q1;rw[rA e3 ry]at p1;refine one _ _ _ _ (Cg hu ⟨o1,up _ _ g1,d'⟩ ⟨o2,up _ _ g2,c'⟩ (by have:=s.1;omega) q1 p1) ?_;simp only[ē,Ĵ,Ĥ,e1,e3]|_=>have:=s.1;simp only[ę]at this e2;rw[e2]at this;omega
  |_=>exact absurd rfl P.1
 |_,[],_::_,_,_,_,_,_,s,_,_,_,_,_=>by simp[ć]at s|_,_::_,[],_,_,_,_,_,s,_,_,_,_,_=>by simp[ć]at s
theorem Ci(d:ę j≠0)(g:ę j<4)(r:Ô q h j ψ)(b:Ø ψ ω):∃T,∀f:ge,f.TypeIs ω T:=by cases j with|str a=>cases(show ψ=.str a from r);obtain⟨t,rfl⟩:=b;exact⟨"str",λs=>Xj s _ _⟩|int a=>cases(show ψ=.int a from r);obtain⟨t,rfl⟩:=b;exact⟨"int",λs=>typeIs_int s _ _⟩|bl a=>cases(show ψ=.bl a from r);cases b;exact⟨"bool",λs=>aaY s _⟩|tup ds=>obtain⟨_,_,e⟩:=jz d;omega|_=>exact absurd rfl d
theorem rB{X:C}{f':List (O×Obj)}{n:L2.St}{H:Hp}{s:ge}(I:Í X f' n H s):∀{b:List (List Q)}{g:List V}{d:List B},(∀r∈b,Hi r=L/\kN (ć r)=L)->S X.K H (b.map Q.tup) g->Ñ g d->∃fs,mv s.heap d fs/\∀f∈fs,∃T,∀w:ge,w.TypeIs f T
 |[],g,d,_,r,v=>by cases(show g=[]from r);cases v;exact⟨[],.nil,by simp⟩|i::b,g,d,h,r,v=>by obtain⟨u,e,rfl,E,A⟩:∃v e,g=v::e/\Ô X.K H (.tup i) v/\S X.K H (b.map Q.tup) e:=r;obtain⟨a,o,rfl,ha,y⟩:=E.tupE;cases v with|cons q v2=>cases q;obtain⟨fs,f1,R⟩:=rB I (λr hr=>h r (r_ _ hr)) A v2;obtain⟨a',z,P,hz⟩:=I.tuple (ù.of ha);obtain⟨m,k⟩:=h i q_;cases i with|nil=>cases m|cons x i=>obtain⟨u,us,rfl,N,q2⟩:∃v us,o=v::us/\Ô X.K H x v/\S X.K H i us:=y;cases z with|cons p w2=>
 rename_i t ts;refine⟨t::fs,.cons P (by simp) f1,λf j=>?_⟩;rcases uk.mp j with rfl|j;·simp only[ć,kN,E_,Vu,m_,bne_iff_ne,ne_eq]at k;exact Ci k.1 (of_decide_eq_true m) N p
 ·exact R f j
theorem zn{X:C}{f':List (O×Obj)}{n:L2.St}{H:Hp}{s:ge}(I:Í X f' n H s):∀{b:List (List Q)}{f:List V}{e:List B}(i:Nat)(x:B),S X.K H (b.map Q.tup) f->Ñ f e->e[i]?=Z x->∃a us d j,b[i]?=Z j/\f[i]?=Z (.ref a)/\x=.ref a/\S X.K H j us/\Ñ us d/\H a=Z (.tup us)/\s.heap.IsTuple a d.toArray|[],f,e,i,x,r,v,h=>by cases(show f=[]from r);cases v;simp at h|j::b,f,e,i,x,r,v,h=>by obtain⟨u,g,rfl,A,z⟩:∃v g,f=v::g/\Ô X.K H (.tup j) v/\S X.K H (b.map Q.tup) g:=r;obtain⟨a,o,rfl,m,w⟩:=A.tupE;cases v with|cons p v2=>cases p;cases i with|zero=>simp at h;subst h;obtain⟨d,y,P,hz⟩:=I.tuple (ù.of m);exact⟨a,o,d,j,rfl,rfl,rfl,w,y,m,P⟩|succ i=>obtain⟨a',us,d,k,N,E,q⟩:=zn I i x z v2 (by simpa using h);exact⟨a',us,d,k,by simpa using N,by simpa using E,q⟩
theorem gG{H:Hp}{K:d_}:∀{ds:List Q}{b:List V},S K H ds b->ds.length=b.length|[],b,r=>by cases(show b=[]from r);rfl|d::ds,b,r=>by obtain⟨u,a,rfl,f,e⟩:∃v a,b=v::a/\Ô K H d v/\S K H ds a:=r;simp[gG e]
theorem wA(b:E.length=η.length)(a:∀(i:Nat)(d:Q)(v:V),E[i]?=Z d->η[i]?=Z v->Ô q h d v):S q h E η:=by induction E generalizing η with
 |nil=>cases η with|nil=>exact rfl|cons _ _=>simp at b
 |cons d E e=>cases η with|nil=>simp at b|cons w η=>exact⟨w,η,rfl,a 0 d w rfl rfl,e (by simpa using b) λi j v g f=>a (i+1) j v (by simpa using g) (by simpa using f)⟩
theorem reps_at{H:Hp}{K:d_}:∀{ds:List Q}{b:List V},S K H ds b->∀(i:Nat)(d:Q)(v:V),ds[i]?=Z d->b[i]?=Z v->Ô K H d v|[],_,_,i,d,v,h,_=>by simp at h|j::ds,b,r,i,d,v,h,e=>by obtain⟨u,a,rfl,g,f⟩:∃v a,b=v::a/\Ô K H j v/\S K H ds a:=r;cases i with|zero=>simp at h e;subst h;subst e;exact g|succ i=>exact reps_at f i d v (by simpa using h) (by simpa using e)
theorem wB(a:η.length=θ.length)(h:∀(i:Nat)(v:V)(u:B),η[i]?=Z v->θ[i]?=Z u->Ø v u):Ñ η θ:=by induction η generalizing θ with
 |nil=>cases θ with|nil=>exact .nil|cons _ _=>simp at a
 |cons d ds b=>cases θ with|nil=>simp at a|cons w η=>exact .cons (h 0 d w rfl rfl) (b (by simpa using a) λi g v f e=>h (i+1) g v (by simpa using f) (by simpa using e))
noncomputable def il(a:List (List Q))(i:Nat):List Q:=a.getD i (a.headD [])
theorem mx{a:List (List Q)}(h:∀r∈a,ć r=ć (a.headD [])/\Hi r=L/\kN (ć r)=L)(i:Nat):ć (il a i)=ć (a.headD [])/\kN (ć (il a i))=L:=by unfold il;cases a with|nil=>exact⟨rfl,rfl⟩|cons r a=>
 by_cases b:i<(r::a).length
 · have e:(r::a).getD i ((r::a).headD [])=(r::a)[i]:=by unfold WI;rw[F_ b];rfl
   rw[e];have:=h _ (W4 b);exact⟨this.1,this.2.2⟩
 · have e:(r::a).getD i ((r::a).headD [])=r:=by unfold WI;rw[Uw (by omega)];rfl
   rw[e];exact⟨rfl,(h r q_).2.2⟩
theorem Hj{d:List (List Q)}(h:∀r∈d,ć r=ć (d.headD [])/\Hi r=L/\kN (ć r)=L):Od λi j=>ē (il d i) (il d j)where ir:=λa=>EF _;tr:=λa b c e f=>zj e f;nt:=λa b c e=>EG ((mx h a).1.trans (mx h b).1.symm) ((mx h b).1.trans (mx h c).1.symm) (mx h a).2 e
theorem tE{a:List (List Q)}(h:a[b]?=Z E):il a b=E:=by unfold il WI;rw[h];rfl
open PySem.W
noncomputable def Cj(m i N:Nat)(f:Û)(g:Ò):Û:=λa=>match f a with|some (.rt d)=>Z (.rt d)|some (.exc c)=>if c<m then(match g ((N_ N U).set i (Z (.exn c)))with|some (.ok d)=>Z (.rt d)|_=>U)else U|_=>U
theorem LX(G:ì a.prog a.w a.K a.mg a.base į b e Ã A (Ņ a.K À A.length))(s:Ý b N)(o:N.frames=a.A.frames)(w:î a.K Ã A [])(I:Í a P Ι h f){v:V}{u:B}{d n:Q}(q:Ø v u)(r:Ô a.K h d v)(p:A.length=1)(y:À [d]=Z (.ok n)):u_ (D_ a.prog a.w) N (call (.ref e) [u]) (EP a P Ι λm j=>Ð h j/\Ô a.K j n m) χ f:=by have i:=I.env0;refine aaD (WZ (G.run N a.stack f h ⟨[u],[]⟩ [u] [v] (λm j=>Ð h j/\Ô a.K j n m) E0 s ⟨o.trans i.frames,i.mod,i.bs,i.bsz,i.funs,i.frf,i.hok,i.bare⟩ (by simpa using w f [u] I.kIn (by simp[p])) (.cons q .nil) ⟨[d],⟨v,[],rfl,r,rfl⟩,p.symm,by rw[y];exactλv j g r=>⟨g,r⟩⟩) λr E k=>?_);cases r with|error g=>exact k.elim|ok z=>cases z with|ret u=>exact I.after k|next=>exact Uf k|brk=>exact Uf k|cont=>exact Uf k
end FD
namespace TS
open FD
theorem EH{a:Array B}{g:VP}{P:abf->ge->Prop}(m:f.heap.get? z=Z (Vd "list" a k))(o:f.heap.get? e=Z (Vd "list" #[] b))(i:z≠e)(j:a.size<=sizeLine)(p:(Yt g).size<=sizeLine)(n:aaZ g=U)(h:P (.done (.ret .none)) {f with heap:=(f.heap.update z (Uo λ_=>#[])).update e (Uo λ_=>(Yt g).map (·.2))}):u_ (D_ s r) N (ksk_tail e D b (.ref z) g) P χ f:=by
 unfold ksk_tail;refine e_ (Zc m rfl ?_ j (Ua _));refine e_ (abm ?_);have d:(f.heap.update z (Uo λ_=>#[])).get? e=Z (Vd "list" #[] b):=by rw[VG _ _ _ _ i.symm];exact o
 refine e_ (seqEpoch_at (s:={f with heap:=f.heap.update z (Uo λ_=>#[])}) d rfl ?_);refine e_ (Zc (s:={f with heap:=f.heap.update z (Uo λ_=>#[])}) d rfl ?_ (Ua _) (by simp only[xy,if_false,XZ];omega));rw[n];simp only[bne_self_eq_false,xy,if_false];exact l_ h
theorem Qh{q fs:List B}{P:abf->ge->Prop}(u:f.heap.get? z=Z (Vd "list" θ.toArray k))(ha:f.heap.get? e=Z (Vd "list" #[] b))(b':z≠e)(d':θ.length=q.length)(I:q.length<64)(m:Od Ζ)(hF:mv f.heap θ fs)(hf:∀o∈fs,∃T,∀s':ge,s'.TypeIs o T)(hC:∀(A':C_)(i j:Nat)(x y:B),A'.units<=N.units+8->θ[i]?=Z x->θ[j]?=Z y->∃e k xs ys rs,x=.ref e/\y=.ref k/\f.heap.IsTuple e xs/\f.heap.IsTuple k ys/\rm f.heap A' L (xs.toList.zip ys.toList) rs/\(dw rs).getD (t_ (xs.size<ys.size))=Ζ i j)(h:∀(p:Nat->Nat)(H:Array B)(A:Nat),H.size=q.length->(∀a,a<q.length->H[a]?=q[p a]?)->(p_ q.length).map p=gF (λi j=>!Ζ j i) (p_ q.length)->(∀a,a<q.length->p a<q.length)->P (.done (.ret .none)) {f with heap:=(f.heap.update z (Uo λ_=>#[])).update e (Uo λ_=>H),toks:=A}):u_ (D_ s r) N (ksk_end e D q.toArray b (.ref z) θ.toArray) P χ f:=by
 unfold ksk_end;simp only[xy,if_false];have hz:θ.toArray.size<=sizeLine:=j5 (by simp;omega);have w:(θ.toArray.zip q.toArray).size=q.length:=by simp[d']
 have E:∀a,a<q.length->(θ.toArray.zip q.toArray)[a]?=Z (θ.getD a .none,q.getD a .none):=λa u=>by
  have:a<θ.length:=by omega
  have e':a<(θ.zip q).length:=by simp;omega
  have d:(θ.zip q)[a]?=Z (θ[a],q[a]):=by rw[F_ e',abj]
  simp[u,this,WI,d]
 have a':q.toArray.size=q.length:=by simp
 by_cases h2:q.toArray.size<2
 ·rw[if_pos h2,if_pos h2];refine e_ (l_ ?_);rw[abt];refine e_ (l_ ?_);dsimp only;refine EH (g:=SortSt.mk' general' (θ.toArray.zip q.toArray) #[] 7 U) u ha b' hz (j5 (by rw[w];exact I)) rfl ?_;have:=h id ((θ.toArray.zip q.toArray).map (·.2)) f.toks (by rw[XZ,w]) (λa u=>by rw[aaJ,E a u];simp[u,WI]) (rq m (λa u=>u) (λ_ _ _ _ d=>d) (λx y k' hy=>by rw[a']at h2;omega)) (λa u=>u);exact this
 · rw[if_neg h2,if_neg h2];rw[a']at h2;refine e_ (Qg hF hf λn=>?_);refine e_ (Uj (LV (Ì:=JT f f.heap) (χ:=χ) (Q:=λ_ v=>∃p',Qf (θ.toArray.zip q.toArray) Ζ p' (Yt v)/\aaZ v=U) (Ν:=id) m (λi j x y s1 E' ex ey J1=>?_) (y:=SortSt.mk' (tuples' n) (θ.toArray.zip q.toArray) #[] 7 U) ⟨rfl,λ_ _=>rfl,λ_ h=>h,λ_ _ _ _ d=>d,rfl,rfl,rfl⟩ (λ_ _=>rfl) (by rw[w];omega) (by rw[w];exact I) (λp' v a1 a2=>⟨p',a1,a2⟩) f ⟨f.toks,pi _,rfl⟩) ?_ λ_ _ d=>d)
   · obtain⟨A,f',rfl⟩:=J1;have c':∀(a:Nat)(g:Yg),(θ.toArray.zip q.toArray)[a]?=Z g->θ[a]?=Z g.1:=λa g hz=>by
      have u:a<q.length:=by have:=(Vj.mp hz).1;rwa[w]at this
      rw[E a u]at hz;cases hz;have:a<θ.length:=by omega
      simp[this,WI]
     obtain⟨a1,c1,xs,ys,rs,i',h',t1,t2,it,eb⟩:=hC N i j x.1 y.1 (by omega) (c' i x ex) (c' j y ey);rw[i',h'];exact zd (f:={f with heap:=f.heap,toks:=A}) n t1 t2 it ⟨⟨A,f',rfl⟩,eb⟩
   ·rintro⟨⟨⟩,v⟩s'⟨⟨A,_,rfl⟩,p',F,g'⟩;dsimp only;have Fl:=F.lt;have Fi:=F.inj;have Fs:=F.so;rw[w]at Fl Fi Fs;refine EH (f:={f with heap:=f.heap,toks:=A}) u ha b' hz (by rw[F.sz,w];exact j5 I) g' ?_;refine h p' ((Yt v).map (·.2)) A (by rw[XZ,F.sz,w]) (λa u=>?_) (rq m Fl Fi Fs) Fl;rw[aaJ,F.at' a (by rw[w];exact u),E _ (Fl a u)];simp[Fl a u,WI]
end TS
namespace FD
open L2 TS
theorem rD:∀{ds:List Q}(n:Nat),â ds=L->â (ds.take n)=L|[],n,_=>by simp[â]|d::ds,0,_=>by simp[â]|d::ds,n+1,h=>by simp only[â,m_]at h;simp only[List.take_succ_cons,â,m_];exact⟨h.1,rD n h.2⟩
theorem LY{kS:O}{H:List (List Q)}{v:abf->ge->Prop}(G:ì a.prog a.w a.K a.mg a.base į b e Ã A (Ņ a.K À A.length))(hr:Ý b N)(S':N.frames=a.A.frames)(hb:î a.K Ã A [])(h1:A.length=1)(I:Í a (P++[(z,Vd "list" #[] k)]) Ι h f)(hk:h kS=Z (.lst []))(m':kS≠z)(rv:Ñ η θ)(p':S a.K h E η)(im:â E=L)(C':∀(i:Nat)(d:Q),E[i]?=Z d->∃es,H[i]?=Z es/\À [d]=Z (.ok (.tup es)))(a3:H.length=E.length)(Q':j6 H=L)(q':â (H.map Q.tup)=L)(a0:∀H',H' z=U->sE a P H' z)(w:∀(s':ge)(H':Hp)(p:Nat->Nat)(b':Array B)(c:Nat),Í a P Ι H' s'->H' z=U->(∀g u,g≠kS->h g=Z u->H' g=Z u)->s'.heap.get? z=Z (Vd "list" b' c)->b'.size=θ.length->(∀b,b<θ.length->b'[b]?=θ[p b]?)->(p_ θ.length).map p=gF (λi j=>!(λi j=>ē (il H i) (il H j)) j i) (p_ θ.length)->(∀b,b<θ.length->p b<θ.length)->v (.done (.ret .none)) s'):u_ (D_ a.prog a.w) N (ksk_rest z (.ref e) D θ.toArray k (.ref kS)) v χ f:=by
 have c':=Q';simp only[j6,m_,decide_eq_true_eq,Ul]at c';have hR:∀r∈H,ć r=ć (H.headD [])/\Hi r=L/\kN (ć r)=L:=λr hr=>⟨(c'.2 r hr).1.1,(c'.2 r hr).1.2,(c'.2 r hr).2⟩;have a7:E.length=θ.length:=by have g1:=gG p';have g2:=rv.length;omega
 have U':θ.length<64:=by omega
 unfold ksk_rest;refine e_ (Xh ?_);first|rw[List.forIn_toArray]|(rw[<-Xo];simp only[aaq])|rw[<-Xo]
 refine e_ (ksk_fold (λi s'=>∃H' zs,Í a (P++[(z,Vd "list" #[] k)]) Ι H' s'/\H' kS=Z (.lst zs)/\(∀g u,g≠kS->h g=Z u->H' g=Z u)/\S a.K H' ((H.map Q.tup).take i) zs) θ 0 f ⟨h,[],I,hk,λ_ _ _ s=>s,rfl⟩ ?step ?done);case step=>
  rintro j x s' hx⟨H',zs,I',h',sm,rz⟩;simp only[Wz]at rz⊢;have hj:j<θ.length:=(G_.mp hx).1;have o':E[j]?=Z (E[j]'(by omega)):=F_ (by omega);obtain⟨es,er,eF⟩:=C' j _ o';have t':η[j]?=Z (η[j]'(by have:=rv.length;omega)):=F_ (by have:=rv.length;omega);have a8:j<η.length:=by have:=rv.length;omega
  have a4:j<E.length:=by omega
  obtain⟨u,eu,ru⟩:=rv.get t';rw[hx]at eu;cases eu;have z':∀g ys,h g=Z (.tup ys)->H' g=Z (.tup ys):=λg ys q=>sm g _ (λm=>by rw[m,hk]at q;cases q) q;have rd:Ô a.K H' E[j] η[j]:=Ô.tups z' _ _ (lH im o') (reps_at p' j _ _ o' t');refine e_ (Xb (Uj (LX G hr S' hb I' ru rd h1 eF (χ:=λ_ _=>False)) (λu' s2 he=>?_) λ_ _ m=>m.elim));obtain⟨v',H2,I2,D',k',E'⟩:=he;dsimp only;have n':H2 kS=Z (.lst zs):=k' _ _ h';obtain⟨m,d',n,a',R',ek⟩:=I2.lstM n';have J':zs.length<=62:=by have:=gG rz;simp at this;omega
  have w':d'.length<=62:=by have:=a'.length;omega
  refine e_ (Zc ek rfl ?_ (by simp;exact j5 (by omega)) (by simp;omega));have i':∀g ys,H2 g=Z (.tup ys)->(Þ H2 kS (.lst (zs++[v']))) g=Z (.tup ys):=λg ys q=>by rw[ax (λm=>by rw[m,n']at q;cases q)];exact q
  obtain⟨n2,e'⟩:∃n2,(s2.heap.update kS (Uo (·.push u'))).get? kS=Z (Vd "list" (d'.toArray.push u') n2):=⟨_,Yp (c:="list") ek (·.push u')⟩;refine l_ ⟨rfl,Þ H2 kS (.lst (zs++[v'])),zs++[v'],?_,av,λg u hb q=>?_,?_⟩
  · refine I2.write (t':=s2.toks) (x:=kS) (e:=kS) (o:=.lst (zs++[v'])) (by rw[n'];trivial) (.inl rfl) (λg u hb q=>?_) ⟨_,e'⟩ ?_;·rw[VG _ _ _ _ hb];exact q
    ·refine⟨by simp;exact j5 (by omega),d'++[u'],n2,a'.append (.cons D' .nil),?_⟩;simpa[Vd]using e'
  ·rw[ax hb];exact k' _ _ (sm g u hb q)
  · have B':(H.map Q.tup).take (j+1)=(H.map Q.tup).take j++[.tup es]:=by rw[List.take_add_one,L_,er];rfl
    rw[B'];have g1:S a.K (Þ H2 kS (.lst (zs++[v']))) ((H.map Q.tup).take j) zs:=S.tups i' _ _ (rD j q') (S.mono k' _ _ rz);have F':ħ (.tup es)=L:=lH q' (n:=j) (by rw[L_,er];rfl);exact g1.append ⟨v',[],rfl,Ô.tups i' _ _ F' E',rfl⟩
 case done=>
  rintro s'⟨H',zs,I',h',sm,rz⟩;have g':S a.K H' (H.map Q.tup) zs:=by rw[XQ (by simp;omega)]at rz;exact rz
  obtain⟨m,d',n,a',R',ek⟩:=I'.lstM h';have J':zs.length=θ.length:=by have:=gG g';simp at this;omega
  have w':d'.length=θ.length:=by have:=a'.length;omega
  refine e_ (Yz ek rfl ?_);obtain⟨fs,f1,R⟩:=rB I' (λr O'=>(hR r O').2) g' a';have l':=I'.pin (z,Vd "list" #[] k) (by simp);refine Qh (Ζ:=λi j=>ē (il H i) (il H j)) (k:=n) ek l'.1 m' w' U' (Hj hR) f1 R (λA2 i j x y hA ex ey=>?_) λp b' tk o1 o2 o3 o4=>?_
  · obtain⟨a1,a6,t1,y',q1,q2,q3,q4,q5,q6,q7⟩:=zn I' i x g' a' ex;obtain⟨a2,a5,t2,x',p1,p2,p3,p4,p5,p6,p7⟩:=zn I' j y g' a' ey;have m1:=hR y' (TV q1);have m2:=hR x' (TV p1);obtain⟨rs,i1,i2⟩:=vf (A:=A2) (z:=L) I' (by have:=hr.un;omega) (λ_ _ s=>s) (λ_=>m1.2.1) (m1.1.trans m2.1.symm) m1.2.2 q4 p4 q5 p5;refine⟨a1,a2,t1.toArray,t2.toArray,rs,q3,p3,q7,p7,by simpa using i1,?_⟩;have N':t1.toArray.size=t2.toArray.size:=by
     have k1:=q5.length;have k2:=p5.length;have k3:=gG q4;have k4:=gG p4;have k5:(ć y').length=(ć x').length:=by rw[m1.1,m2.1]
     simp[ć]at k5;simp;omega
    rw[N',decide_eq_false (U1 _),i2,tE q1,tE p1]
  · obtain⟨n2,e'⟩:∃n2,(s'.heap.update kS (Uo λ_=>#[])).get? kS=Z (Vd "list" #[] n2):=⟨_,Yp (c:="list") ek (λ_=>(#[]:Array B))⟩;have W:=I'.write (t':=tk) (h':=s'.heap.update kS (Uo λ_=>#[])) (x:=kS) (e:=kS) (o:=.lst []) (by rw[h'];trivial) (.inl rfl) (λg u hb q=>by rw[VG _ _ _ _ hb];exact q) ⟨_,e'⟩ ⟨Ua _,[],n2,.nil,by simpa[Vd]using e'⟩;have W2:=W.unpinned;have r':Þ H' kS (.lst []) z=U:=by rw[ax m'.symm];exact l'.2.1
    have T':(s'.heap.update kS (Uo λ_=>#[])).get? z=Z (Vd "list" #[] k):=by rw[VG _ _ _ _ m'.symm];exact l'.1
    obtain⟨g0,g1,g2,g3⟩:=a0 _ r';have T:=W2.turned (t':=tk) (h':=(s'.heap.update kS (Uo λ_=>#[])).update z (Uo λ_=>b')) (it:=z) (λg o hb q=>by rw[VG _ _ _ _ hb];exact q) g0 g1 g3.1 g3.2.1 g3.2.2;exact w _ _ p b' _ T r' (λg u hb q=>by rw[ax hb];exact sm g u hb q) (Yp T' λ_=>b') o1 o2 o3 o4
noncomputable def jJ(F:Ö):List Q->Option (List (List Q))|[]=>Z []|d::r=>match F [d],jJ F r with|some (.ok (.tup b)),Z a=>Z (b::a)|_,_=>U
def my(d:List (List Q))(e:List Q):List Q:=(gF (λa b=>!ē b.1 a.1) (d.zip e)).map Prod.snd
def vg(F:Ö)(b:List Q):Option (Rs Q):=match jJ F b with|some a=>if j6 a=L/\â b=L/\â (a.map Q.tup)=L then Z (.ok (.lst (my a b)))else U|none=>U
theorem ou{F:Ö}:∀{ds:List Q}{a:List (List Q)},jJ F ds=Z a->a.length=ds.length/\∀(i:Nat)(d:Q),ds[i]?=Z d->∃b,a[i]?=Z b/\F [d]=Z (.ok (.tup b))
 |[],a,h=>by cases h;exact⟨rfl,λi d e=>by simp at e⟩|d::ds,a,h=>by
  unfold jJ at h;split at h;·rename_i b n g f;cases h;obtain⟨k,j⟩:=ou f;refine⟨by simp[k],λi m e=>?_⟩;cases i with|zero=>simp at e;subst e;exact⟨b,rfl,g⟩|succ i=>exact j i m (by simpa using e)
  ·cases h
theorem zo{a:List (List Q)}(f:a.length=E.length):(gF (λi j=>!(λi j=>ē (il a i) (il a j)) j i) (p_ E.length)).map (λi=>E.getD i .non)=my a E:=by
 have e:(p_ E.length).map (λi=>(il a i,E.getD i .non))=a.zip E:=by
  apply X5;·simp[f]
  · intro i d g;simp only[P_,WQ]at d;have b:i<a.length:=by omega
    simp only[W5,List.getElem_range,abj];rw[tE (F_ b)];simp[WI,d]
 unfold my;rw[<-e,<-sort_map (i:=λi j=>!(λi j=>ē (il a i) (il a j)) j i) (λi=>(il a i,E.getD i .non)) _ λx _ y _=>rfl,UQ];rfl
theorem zp{o:Obj}(a:I.get? e=Z o):fX [e] I=[(e,o)]:=by simp[fX,a]
theorem LZ{w:List (List Q)}{n:abf->ge->Prop}(G:ì a.prog a.w a.K a.mg a.base į b e Ã A (Ņ a.K À A.length))(hr:Ý b N)(o':N.frames=a.A.frames)(hb:î a.K Ã A [])(h1:A.length=1)(I:Í a P Ι h f)(ho:f.heap.get? z=Z (Vd "list" θ.toArray k))(h':h z=U)(a':∀H,H z=U->sE a P H z)(rv:Ñ η θ)(b':S a.K h E η)(im:â E=L)(l':∀(i:Nat)(d:Q),E[i]?=Z d->∃es,w[i]?=Z es/\À [d]=Z (.ok (.tup es)))(k':w.length=E.length)(c':j6 w=L)(n':â (w.map Q.tup)=L)(r:∀(s':ge)(H:Hp)(p:Nat->Nat)(y:Array B)(c:Nat),Í a P Ι H s'->H z=U->Ð h H->s'.heap.get? z=Z (Vd "list" y c)->y.size=θ.length->(∀b,b<θ.length->y[b]?=θ[p b]?)->(p_ θ.length).map p=gF (λi j=>!(λi j=>ē (il w i) (il w j)) j i) (p_ θ.length)->(∀b,b<θ.length->p b<θ.length)->n (.done (.ret .none)) s'):u_ (D_ a.prog a.w) N (ksk_tree z (.ref e) D) n χ f:=by
 have i':θ.length<64:=by simp only[j6,m_,decide_eq_true_eq]at c';have g1:=gG b';have g2:=rv.length;omega
 have ha:z<f.heap.objs.size:=y_ ho;obtain⟨g0,g1,g2,g3⟩:=a' _ h';unfold ksk_tree;refine e_ (Yz ho rfl ?_);refine e_ (Zc ho rfl ?_ (j5 (by simpa using i')));obtain⟨e1,e'⟩:∃e1,(f.heap.update z (Uo λ_=>(#[]:Array B))).get? z=Z (Vd "list" #[] e1):=⟨_,Yp ho λ_=>#[]⟩;have I1:=I.turned (t':=f.toks) (h':=f.heap.update z (Uo λ_=>(#[]:Array B))) (it:=z) (λg o hb q=>by rw[VG _ _ _ _ hb];exact q) g0 g1 g3.1 g3.2.1 g3.2.2;refine e_ (seqEpoch_at e' rfl ?_);refine e_ (wpAny_newTuple ?_ (j5 (by simpa using i')));refine e_ (wpAny_newList ?_);refine U9 ?_;have I2:=I1.kept (t':=f.toks) (h':=(f.heap.update z (Uo λ_=>(#[]:Array B))).push (Vd "tuple" θ.toArray 0)) λg u q=>j_ _ q;have m':((f.heap.update z (Uo λ_=>(#[]:Array B))).push (Vd "tuple" θ.toArray 0)).objs.size=f.heap.objs.size+1:=by rw[size_push',Heap.size_update]
 have fr:h ((f.heap.update z (Uo λ_=>(#[]:Array B))).push (Vd "tuple" θ.toArray 0)).objs.size=U:=I2.hok.fresh (pi _);have I3:=I2.laid (t':=f.toks) (h':=((f.heap.update z (Uo λ_=>(#[]:Array B))).push (Vd "tuple" θ.toArray 0)).push (Vd "list" #[] 0)) (o:=.lst []) (λg u q=>j_ _ q) (pi _) ⟨Ua _,[],0,.nil,v_ _ rfl⟩;have d':(((f.heap.update z (Uo λ_=>(#[]:Array B))).push (Vd "tuple" θ.toArray 0)).push (Vd "list" #[] 0)).get? z=Z (Vd "list" #[] e1):=j_ _ (j_ _ e');have g':((f.heap.update z (Uo λ_=>(#[]:Array B))).push (Vd "tuple" θ.toArray 0)).objs.size≠z:=by rw[m'];exact W3 (Y5 ha)
 have I4:=I3.pinned (fp:=[z]) (λg hb=>by
 have:g=z:=by simpa using hb
 subst this;exact a' _ (by rw[ax g'.symm];exact h')) (λg hb=>by
 have:g=z:=by simpa using hb
 subst this;exact⟨_,d',λv m=>by cases m⟩);rw[zp d']at I4;refine LY G hr o' hb h1 I4 av g' rv (S.mono (aH fr _) _ _ b') im l' k' c' n' a' λs' H p y c J ja sm s o1 o2 o3 o4=>r s' H p y c J ja (λg u q=>sm g u (λm=>?_) ?_) s o1 o2 o3 o4;·rw[m,fr]at q;cases q
 ·rw[ax (λm=>by rw[m,fr]at q;cases q)];exact q
theorem Ck{r:List (List Q)}(G:ì a.prog a.w a.K a.mg a.base į b e Ã A (Ņ a.K À A.length))(hr:Ý (b+2) a.A)(hb:î a.K Ã A [])(h1:A.length=1)(I:Í a P Ι h f)(p':∀Q':List B->ge->Prop,(∀h' tk,(∀g o,f.heap.get? g=Z o->h'.get? g=Z o)->f.heap.objs.size<=h'.objs.size->Q' θ {f with heap:=h',toks:=tk})->u_ (D_ a.prog a.w) a.A.in1 (collect (.ref z)) Q' χ f)(rv:Ñ η θ)(N:S a.K h E η)(r':jJ À E=Z r)(l':j6 r=L)(im:â E=L)(q':â (r.map Q.tup)=L)(q:∀(m:O)(d':List V)(s:Hp),Ð h s->s m=Z (.lst d')->S a.K s (my r E) d'->Ê (.ref m) s):u_ (D_ a.prog a.w) a.A (call (.builtin "sorted") [.ref z] [(b_ "key",.ref e)]) (EP a P Ι Ê) χ f:=by
 obtain⟨y,n'⟩:=ou r';have w':E.length=η.length:=gG N;have i':η.length=θ.length:=rv.length;have v':θ.length<64:=by simp only[j6,m_,decide_eq_true_eq]at l';omega
 refine call_function_entry_kw kind_sorted plain_sorted entry_sorted (ksk_s1 _ _) ?_;unfold Wc.«sorted»;refine e_ (m:=checkCount "sorted" 1 1 _) (l_ ?_);refine e_ (p' _ λn g' up gr=>?_);refine e_ (wpAny_newList ?_ (j5 v'));have I1:=I.kept (t':=g') (h':=n.push (Vd "list" θ.toArray 0)) λg u j=>j_ _ (up g u j);have m':(n.push (Vd "list" θ.toArray 0)).get? n.objs.size=Z (Vd "list" θ.toArray 0):=v_ _ rfl;have t':h n.objs.size=U:=I.hok.fresh (gr);have b':∀s,s n.objs.size=U->sE a P s n.objs.size:=λs hn=>I.fpOk (gr) hn;refine e_ (U9 (wpAny_call_entry_kw slot_list_sort ⟨_,m',rfl⟩ entry_list_sort ?body (ksk_l1 _ _)));case body=>
 show u_ (D_ a.prog a.w) a.A.in1.in1 (Wc.«list.sort» ⟨[.ref n.objs.size],[(b_ "key",.ref e)]⟩) _ _ _;rw[ksk_t1];refine LZ (f:={f with heap:=n.push (Vd "list" θ.toArray 0),toks:=g'}) G (hr.in1.in1) rfl hb h1 I1 m' t' b' rv N im n' y l' q' λs' s p w cc J ja sm k o1 o2 o3 o4=>⟨_,rfl,?_⟩;refine l_ ⟨_,rfl,?_⟩;obtain⟨g0,g1,g2,g3,g4,g5⟩:=b' _ ja;have J2:=J.pinned (fp:=[n.objs.size]) (λg a'=>by
  have:g=n.objs.size:=by simpa using a'
  subst this;exact b' _ ja) (λg a'=>by
  have:g=n.objs.size:=by simpa using a'
  subst this;exact⟨_,k,λv j=>by cases j⟩);rw[zp k]at J2;have hV:Ñ ((p_ θ.length).map λb=>η.getD (p b) .non) w.toList:=by
  refine wB (by simp[o1]) λi v u H eu=>?_;have hi:i<θ.length:=by have:=(G_.mp eu).1;simp[o1]at this;omega
  have c':w[i]?=Z u:=by simpa using eu
  rw[o2 i hi]at c';rw[L_,Wd hi]at H;simp only[VY,WP]at H;have hp:p i<η.length:=by rw[i'];exact o4 i hi
  have e1:η[p i]?=Z v:=by rw[F_ hp,<-H];simp[WI,hp]
  obtain⟨u',e2,r2⟩:=rv.get e1;rw[e2]at c';cases c';exact r2
 have hR:S a.K s (my r E) ((p_ θ.length).map λb=>η.getD (p b) .non):=by
  have hn:θ.length=E.length:=by omega
  rw[<-zo y,<-hn,<-o3,UQ];refine wA (by simp) λi d v ed H=>?_;have hi:i<θ.length:=by have:=(G_.mp ed).1;simpa using this
  rw[L_,Wd hi]at ed H;simp only[VY,WP,X9]at ed H;have hp:p i<η.length:=by rw[i'];exact o4 i hi
  have k':p i<E.length:=by omega
  refine reps_at (S.mono sm _ _ N) (p i) d v ?_ ?_;·rw[F_ k',<-ed];simp[WI,k']
  ·rw[F_ hp,<-H];simp[WI,hp]
 have e':(n.objs.size,Vd "list" w cc)=(n.objs.size,GI w.toList cc):=by simp[Vd,GI]
 rw[e']at J2;obtain⟨x',J3⟩:=Í.retrack J2 hV (j5 (by simp;omega)) (λo' j=>by
  exfalso;rcases g3 with g3|g3;·exact absurd (I.ok) (λ_=>by have:=Yb (h:=a.s₀.heap) (a:=n.objs.size) (TU I.sz (gr));rw[this]at j;cases j)
  ·have:=Yb (h:=a.s₀.heap) (a:=n.objs.size) g3;rw[this]at j;cases j) g5;refine⟨.ref n.objs.size,_,J3,rfl,q _ _ _ (λg u j=>?_) av (S.mono (aH ja _) _ _ hR)⟩;exact aH ja _ g u (sm g u j)
end FD
namespace TS
open L2 FD
noncomputable def okF(a:List Nat):Bool:=a.all λk=>k !=0&&t_ (k<4)
end TS
namespace FD
open L2 TS
def ao(X:C)(N:List Str)(b:U_)(a:O)(s:ge)(H:Hp)(d:List O):C:={X with N:=N,s₀:=s,H₀:=H,env:=compEnvC b (UB (a+1) b.names (lc b.names X.env [])) a X.env,outer:=X.stack,stack:=X.stack,ex:=d,fn:=λy=>b.names.lookup y==Z .cell,pn:=[],xe:=λ_ _=>False}
structure io(osc scope:U_)(cs:List (Str×Nat))(N:List Str):Prop where
 kind:scope.kind=.function
 one:∀y∈scope.names,y.2=.cell->scope.names.lookup y.1=Z .cell
 names:∀y∈scope.names,y.2=.local->scope.names.lookup y.1=Z .local
 free:∀y∈scope.names,y.2=.free->osc.names.lookup y.1=Z .cell\/osc.names.lookup y.1=Z .free
 caps:∀c∈cs,N[c.2]?=Z c.1/\scope.names.lookup c.1=Z .free
theorem j7:∀(b:List (Str×Wi))(lo:Nat)(a:List (Str×O)),UB lo b a=UB lo b []++a
 |[],_,_=>rfl|(n,k)::r,lo,a=>by
  unfold UB;split;·rw[j7 r (lo+1) ((n,lo)::a),j7 r (lo+1) [(n,lo)],VB];rfl
  ·exact j7 r lo a
theorem zq:∀{a:List (Str×Wi)}{lo:Nat}{n:Str}{c:O},(n,c)∈UB lo a []->(n,Vs)∈a
 |[],_,_,_,h=>(nomatch h)|(m,k)::r,lo,n,c,h=>by
  unfold UB at h;split at h
  · rename_i b;rw[j7]at h;rcases TH.mp h with q|q;·exact r_ _ (zq q)
    · have e:n=m:=by simp at q;exact q.1
      have ek:k=.cell:=by simpa using b
      subst e ek;exact q_
  ·exact r_ _ (zq h)
theorem vh:∀{a:List (Str×Wi)}{lo:Nat}{n:Str},(n,Vs)∈a->((UB lo a []).lookup n).isSome=L
 |[],_,_,h=>(nomatch h)|(m,k)::r,lo,n,h=>by
  unfold UB;rcases uk.mp h with e|q;·cases e;rw[if_pos (by decide),j7,WC];cases b:(UB (lo+1) r []).lookup m with|some _=>rfl|none=>simp
  · split;·rw[j7,WC];have:=vh (lo:=lo+1) q;cases b:(UB (lo+1) r []).lookup n with|some _=>rfl|none=>rw[b]at this;cases this
    ·exact vh q
theorem Hk{i:List (Str×O)}{a:Env}{Q:Env->ge->Prop}(m:ξ.kind=.function)(k:Q (newEnv ξ f.heap.objs.size e (UB (f.heap.objs.size+1) ξ.names i) d U .none (Z a) YI) {f with heap:=pushCells (f.heap.push {cls:=.type "dict",data:=.dict #[]}) ξ.names}):u_ Æ N (Xz ξ e i [] d U .none (Z a)) Q χ f:=by simp only[Xz,aaI,if_true];refine e_ (wpAny_alloc ?_);refine e_ (wpAny_layCells _ (λj b h=>by cases g:b==Vs<;>simp[g]) _ _ _ _ ?_);rw[show({f with heap:=f.heap.push {cls:=.type "dict",data:=.dict #[]}}:ge).heap.objs.size=f.heap.objs.size+1 from Ur ..];refine e_ ?_;rw[XV];exact l_ (l_ k)
theorem zr{H:List (Str×Nat)}(ok:io a.env.scope ξ H a.N)(d:Í a P Ι h f)(b':∀j∈ο,sE a P h j)(m':∀j∈ο,j<f.heap.objs.size)(hC:f.heap.objs.size<=e)(p':I.Ns e λ_=>U)(N:∀j o,f.heap.get? j=Z o->I.get? j=Z o)(g':CellsOk I (e+1) (UB (e+1) ξ.names [])):Í (ao a (A++H.map (·.1)) ξ e f h ο) [] (l8 A.length H Ι) h {f with heap:=I,toks:=b}:=by
 have w:∀n c,(lc ξ.names a.env []).lookup n=Z c->a.env.cells.lookup n=Z c:=λn c g=>by
  rcases nV _ _ g with q|⟨q1,q2⟩;·simp at q
  ·obtain⟨c',e'⟩:=d.ok.has n (ok.free _ q1 rfl);rw[e']at q2;rw[e',q2]<;>rfl
 have lk:∀n c,(ao a (A++H.map (·.1)) ξ e f h ο).env.cells.lookup n=Z c->(n,c)∈UB (e+1) ξ.names []\/((n,Vs)∉ξ.names/\(lc ξ.names a.env []).lookup n=Z c):=λn c g=>by have e':(UB (e+1) ξ.names (lc ξ.names a.env [])).lookup n=Z c:=g;rw[j7,WC]at e';cases hl:(UB (e+1) ξ.names []).lookup n with|some c'=>rw[hl]at e';cases e';exact .inl (mem_of_lookup hl)|none=>rw[hl]at e';refine .inr ⟨λE=>?_,e'⟩;have:=vh (lo:=e+1) E;rw[hl]at this;cases this
 have k':∀n c,(n,Vs)∉ξ.names->(lc ξ.names a.env []).lookup n=Z c->(ao a (A++H.map (·.1)) ξ e f h ο).env.cells.lookup n=Z c:=λn c E g=>by show(UB (e+1) ξ.names (lc ξ.names a.env [])).lookup n=Z c;rw[j7,WC];cases hl:(UB (e+1) ξ.names []).lookup n with|some c'=>exact absurd (zq (mem_of_lookup hl)) E|none=>exact g
 have big:∀n c,(n,c)∈UB (e+1) ξ.names []->f.heap.objs.size<c:=λn c E=>TJ (Nat.lt_succ_of_le hC) (g'.empty n c E).2;have i':∀n c,(lc ξ.names a.env []).lookup n=Z c->c<f.heap.objs.size:=λn c g=>by obtain⟨v,o,ho,_⟩:=d.cell n c (w n c g);exact y_ ho
 have inj:∀y z c,(ao a (A++H.map (·.1)) ξ e f h ο).env.cells.lookup y=Z c->(ao a (A++H.map (·.1)) ξ e f h ο).env.cells.lookup z=Z c->y=z:=λy z c e1 e2=>by
  rcases lk y c e1 with p|⟨_,p⟩<;>rcases lk z c e2 with q|⟨_,q⟩;·exact name_of_addr g'.apart p q
  ·exact absurd (ZH (big y c p) (i' z c q)) (U1 _)
  ·exact absurd (ZH (big z c q) (i' y c p)) (U1 _)
  ·exact d.ok.inj y z c (w y c p) (w z c q)
 refine⟨⟨d.ok.mod,ok.kind,d.ok.glob,d.ok.blt,hC,inj,λy hy=>?_,λy c q' g=>?_,d.ok.hd,d.ok.frames,.inl rfl,λj hb=>⟨λz=>?_,λy c g=>?_⟩,d.bs,TU d.ok.bsz d.sz,λj o g hb=>?_,λj hb z=>?_,d.stack,d.stkFree⟩,rfl,d.bare,Un.kept N,⟨_,p',λi y v h1 h2 h3=>?_⟩,λy c g=>?_,d.hok.fresh hC,λy c g=>?_,λp hp=>absurd (show p∈([]:List (O×Obj))from hp) (by simp),d.hok.kept N,by simp[l8,ao]⟩
 · have E:(y,Vs)∈ξ.names\/(y,Vg)∈ξ.names:=by
    rcases hy with hy|hy
    · rcases lf hy with q|⟨_,q⟩;·exact .inl q
      ·exact .inr q
    · rcases lf hy with q|⟨q,_⟩;·exact .inr q
      ·cases q
   by_cases d':(y,Vs)∈ξ.names;·obtain⟨c,h'⟩:=Wa.mp (vh (lo:=e+1) d');refine⟨c,?_⟩;show(UB (e+1) ξ.names (lc ξ.names a.env [])).lookup y=Z c;rw[j7,WC,h'];rfl
   ·obtain⟨c,h'⟩:=Wa.mp (o5 (d:=a.env) ξ.names [] (E.resolve_left d'));exact⟨c,k' y c d' h'⟩
 · have o':ξ.names.lookup y=Z .cell:=by simpa[ao]using q'
   rcases lk y c g with p|⟨p,_⟩;·exact YB (big y c p)
   ·exact absurd (gU o') p
 ·have:=m' j hb;rw[z]at this;exact absurd (TJ this hC) (U1 _)
 · rcases lk y c g with p|⟨_,p⟩;·exactλz=>absurd (ZH (big y c p) (z▸m' j hb)) (U1 _)
   ·exact(b' j hb).2.2.2.2.1 y c (w y c p)
 · rcases(b' j hb).2.2.2.1 with z|z;·exact d.ok.noex j o g z
   ·exact absurd (TJ (y_ g) (TU d.ok.bsz z)) (U1 _)
 · rcases uk.mp (d.stkSub j z)with q|q;·exact(b' j hb).2.1 q
   ·exact(b' j hb).2.2.1 q
 ·obtain⟨k,rfl,h4⟩:=mf h2;have s:(A++H.map (·.1))[A.length+k]?=Z y:=h1;rw[K_ (by simp)]at s;simp only[Zp]at s;rw[L_]at s;cases hc:H[k]? with|none=>rw[hc]at s;simp at s|some c=>
    rw[hc]at s;have ey:c.1=y:=by simpa using s
    subst ey;rw[L_,hc]at h4;simp only[VY,WP]at h4;have r':Ι[c.2]?=Z (Z v):=by cases q:Ι[c.2]? with|none=>rw[q]at h4;simp at h4|some o=>rw[q]at h4;simp at h4;rw[h4]
    obtain⟨hN,hf⟩:=ok.caps c (TV hc);have hv:=ok.free _ (gU hf) rfl;obtain⟨mm,_,hl⟩:=d.loc;obtain⟨u,r,l⟩:=hl c.2 c.1 v hN r' (.inr hv);refine⟨u,r,.inr ⟨lg hf,?_⟩⟩;rcases l with⟨l,_⟩|⟨_,m,ha,o,ho,hd⟩
    · have l':a.env.scope.names.lookup c.1=Z .local:=l;rcases hv with z|z;·rw[l']at z;cases z
      ·rw[l']at z;cases z
    ·obtain⟨a',n'⟩:=Wa.mp (o5 (d:=a.env) ξ.names [] (gU hf));have e2:=w _ _ n';rw[ha]at e2;cases e2;exact⟨m,k' _ _ (λE=>by have z:=ok.one _ E rfl;rw[hf]at z;cases z) n',o,N _ _ ho,hd⟩
 · rcases lk y c g with p|⟨_,p⟩;·exact⟨U,(g'.empty y c p).1⟩
   ·obtain⟨v,o,ho,hd⟩:=d.cell y c (w y c p);exact⟨v,o,N _ _ ho,hd⟩
 · rcases lk y c g with p|⟨_,p⟩;·exact d.hok.fresh (YB (big y c p))
   ·exact d.freeC y c (w y c p)
def Qi(X:C)(Y:C)(a:O)(k:List O)(j:Nat->TC->Prop)(n:Nat)(o:Nat->List V->L2.St->Hp->Prop)(m:Nat)(g:ge):Prop:=∃i d f h e,m=n-i/\i<=n/\Í Y [] d f g/\o i h d f/\j i g.heap/\(∀b∈k,f b=U)/\f a=U/\LAt g.heap a e/\Ñ h e
theorem ow{scope:U_}(cs:List (Str×Nat))(ok:io a.env.scope scope cs a.N)(hc:a.calm=L){s2:ge}{it:O}{fp:List O}{tn:Nat->TC->Prop}{J:It}{H2:Hp}(I2:Í a P Ι H2 s2)(T:w6 a.prog a.w a.K g J fp it tn)(o':tn 0 s2.heap)(R:∀b∈fp,sE a P H2 b)(n:Nat)(Iv:Nat->List V->L2.St->Hp->Prop)(S':∀i vs Ι H,Iv i vs Ι H->vs.length<=100000)(h0:Iv 0 [] (l8 A.length cs Ι) H2)(T':∀vs N H5,Iv n vs N H5->J.stop n H5)(b1:∀i vs N H5,i<n->Iv i vs N H5->J.go i H5)(w':∀j i vs N H5 x H7,i<n->Iv i vs N H5->J.yld i H5 x H7->∀(Y:C),Y=ao a (A++cs.map (·.1)) scope j s2 H2 fp->∀P s7 f,Í Y P N H7 s7->Ø x f->u_ (D_ a.prog a.w) a.A (Wf g Y.env f) (λ_ s8=>u_ (D_ a.prog a.w) a.A (V' w L λc r=>if r=L then do let ok<-isTrue c Y.env (eval c Y.env);pure (WF ok)else pure (WF r)) (λok s9=>if ok=L then u_ (D_ a.prog a.w) a.A (eval u Y.env) (λs h'=>∃yv b' g',Í Y P b' g' h'/\Ø yv s/\Iv (i+1) (vs++[yv]) b' g') (λ_ _=>False) s9 else∃b' H9,Í Y P b' H9 s9/\Iv (i+1) vs b' H9) (λ_ _=>False) s8) (λ_ _=>False) s7){RR:B->O->aaG->ge->Prop}(b3:∀(d j:O)(s6:ge)(H5:Hp)(b':L2.St)(vs:List V)(m6:Str->Option B),Í a P Ι (Þ H5 d (.lst vs)) s6->H5 d=U->Iv n vs b' H5->s6.heap.Ns j m6->H5 j=U->j≠d->s2.heap.objs.size<=j->RR (.ref d) j (.ok .next) s6):u_ (D_ a.prog a.w) a.A (newList []) (λD' N'=>u_ (D_ a.prog a.w) a.A (Xz scope a.env.globals (lc scope.names a.env []) [] a.env.qual U .none (Z a.env)) (λn' J'=>WN (D_ a.prog a.w) a.A (.compStart (.ListComp u [⟨g,Á,w,0⟩] scope m) 0 (.ref it) D' {n' with scope:=aby scope a.env}) (RR D' n'.locals) J') a.xe N') a.xe s2:=by
 have i':∀b∈fp,b<s2.heap.objs.size:=λb E=>by obtain⟨o,ho,_⟩:=T.obj _ _ o' b E;exact y_ ho
 refine UM (Hk ok.kind ?_);dsimp only;generalize r':s2.heap.push {cls:=.type "list",dict:=U,data:=.seq ([]:List B).toArray}=P2;obtain⟨d,hD⟩:∃d,s2.heap.objs.size=d:=⟨_,rfl⟩;have hC:P2.objs.size=d+1:=by rw[<-r',Ur,hD]
 rw[hC,hD];obtain⟨a',c'⟩:∃h,h=pushCells (P2.push {cls:=.type "dict",data:=.dict #[]}) scope.names:=⟨_,rfl⟩;rw[<-c'];have kp:∀b o,P2.get? b=Z o->a'.get? b=Z o:=λb o e=>by rw[c'];exact pushCells_keeps _ _ b o (j_ _ e)
 have p':∀b o,s2.heap.get? b=Z o->a'.get? b=Z o:=λb o e=>kp b o (r'▸j_ _ e);have U':LAt a' d []:=⟨0,kp _ _ (by rw[<-r',<-hD];exact v_ _ rfl)⟩;have a9:a'.Ns (d+1) λ_=>U:=by rw[c',<-hC];exact(Heap.Ns.new P2 (.type "dict")).keeps (pushCells_keeps _ _)
 have b2:CellsOk a' (d+1+1) (UB (d+1+1) scope.names []):=by have q:=cellsFrom_ok scope.names (P2.push {cls:=.type "dict",data:=.dict #[]}) (d+1+1) [] ⟨λ_ _ hm=>(nomatch hm),Y7⟩ (by rw[Ur,hC];exact pi _);rw[Ur,hC,<-c']at q;exact q
 have I4:Í (ao a (A++cs.map (·.1)) scope (d+1) s2 H2 fp) [] (l8 A.length cs Ι) H2 {s2 with heap:=a'}:=zr (b:=s2.toks) ok I2 R i' (by rw[hD];exact Y6 d) a9 p' b2;have HD:H2 d=U:=I2.hok.fresh (YC hD);have u':∀b∈fp,b≠d:=λb E=>Gf (hD▸i' b E);obtain⟨Y,hY⟩:∃Y,Y=ao a (A++cs.map (·.1)) scope (d+1) s2 H2 fp:=⟨_,rfl⟩;have yE:compEnvC scope (UB (d+1+1) scope.names (lc scope.names a.env [])) (d+1) a.env=Y.env:=by rw[hY];rfl
 have yP:Y.prog=a.prog/\Y.w=a.w/\Y.K=a.K/\Y.calm=a.calm/\Y.env.locals=d+1/\Y.pn=[]/\Y.ex=fp/\Y.fs=L2.frs a.stack/\Y.A=a.A/\Y.s₀=s2:=by rw[hY];exact⟨rfl,rfl,rfl,rfl,rfl,rfl,rfl,rfl,rfl,rfl⟩
 rw[<-hY]at I4;have yB:∀{b' H' s'},Í Y [] b' H' s'->Un (L2.frs a.stack) fp H2 H' s2.heap s'.heap:=λI=>by rw[hY]at I;exact I.base
 obtain⟨y1,y2,y3,y4,y5,y6,y7,y8,y9,y0⟩:=yP;have m':∀s4:ge,s4={s2 with heap:=a'}->WN (D_ a.prog a.w) a.A (.compLoop (.ListComp u [⟨g,Á,w,0⟩] scope m) 0 (.ref it) (.ref d) (compEnvC scope (UB (d+1+1) scope.names (lc scope.names a.env [])) (d+1) a.env)) (RR (.ref d) (d+1)) s4:=by
  rintro s4 rfl;rw[yE];refine qU (λk s'=>Qi a Y d fp tn n Iv k s') ?_ n ⟨0,l8 A.length cs Ι,H2,[],[],by simp,Ua _,I4,h0,T.keep _ _ _ o' λb E o e=>p' b o e,λb E=>(R b E).1,HD,U',.nil⟩;rintro k0 s5⟨i,N,H5,vs,e',rfl,c2,I5,v0,t5,B',D5,l5,v5⟩;have nC:∀b∈fp,b≠Y.env.locals:=λb E=>by rw[y5];exact KW (hD▸i' b E)
  have DL:d≠Y.env.locals:=by rw[y5];exact RM
  have F':d∈Y.ex\/Y.s₀.heap.objs.size<=d:=.inr (by rw[y0];exact YC hD);have k':∀y c,Y.env.cells.lookup y=Z c->c≠d:=λy c e z=>by obtain⟨v,o,ho,hd⟩:=I5.cell y c e;obtain⟨n,q⟩:=l5;subst z;rw[q]at ho;cases ho;cases hd
  have c0:d∉Y.fs:=λz=>by
   rw[y8]at z;rcases uk.mp (I2.stkSub d z)with q|q;·have z2:=I2.lt;rw[hD]at z2;exact Gf z2 q.symm
   ·exact I2.nofs (YC hD) q
  have Dp:sE Y [] H5 d:=⟨D5,DL,c0,F',k',λp hp=>absurd (show p∈([]:List (O×Obj))by rw[y6]at hp;exact hp) (by simp)⟩;have b9:∀b∈[d],∃o,s5.heap.get? b=Z o/\∀v,o.data≠.cell v:=λb E=>by cases M_.mp E;obtain⟨n,q⟩:=l5;exact⟨_,q,λv z=>by cases z⟩
  have E':Í Y (fX [d] s5.heap) N H5 s5:=I5.pinned (fp:=[d]) (λb E=>by cases M_.mp E;exact Dp) b9;have a6:∀b∈fp,∀p∈Y.pn++fX [d] s5.heap,p.1≠b:=λb E p hp z=>by rw[y6]at hp;exact u' b E (z.symm.trans (M_.mp (lT hp).1))
  have t':∀{H'},(∀b∈fp,H' b=U)->∀b∈fp,sE Y (fX [d] s5.heap) H' b:=λq b E=>⟨q b E,nC b E,I4.ok.exfs b (by rw[y7];exact E),.inl (by rw[y7];exact E),(I4.ok.exf b (by rw[y7];exact E)).2,a6 b E⟩;have R':=S' _ _ _ _ v0;have c1:vs.length=e'.length:=v5.length;by_cases l':i<n
  · have z':=T.item Y y1 y2 y3 (y4.trans hc) i (fX [d] s5.heap) s5 N H5;rw[y9]at z';refine ã (z' _ E' (t' B') t5 (b1 i vs N H5 l' v0)) λr s6⟨f,hr,h6⟩=>?_;subst hr;refine ã h6 λ_ s7⟨xv,H7,I7,r7,a2,t7,b6⟩=>?_;have b7:=I7.pinned (fp:=fp) (t' b6) (T.obj _ _ t7);have C':∀{d':L2.St}{H8:Hp}{s8:ge},Í Y (fX [d] s5.heap++fX fp s7.heap) d' H8 s8->tn (i+1) s8.heap/\(∀b∈fp,H8 b=U)/\H8 d=U/\LAt s8.heap d e':=λ{d' H8 s8}I8=>by obtain⟨n,q⟩:=l5;have qD:=I8.pin (d,_) (o_ _ (O_ _ (eM (by simp) q)));refine⟨T.keep _ _ _ t7 λb E o e=>(I8.pin (b,o) (o_ _ (o_ _ (eM E e)))).1,λb E=>?_,qD.2.1,n,qD.1⟩;obtain⟨o,e,_⟩:=T.obj _ _ t7 b E;exact(I8.pin (b,o) (o_ _ (o_ _ (eM E e)))).2.1
    refine Uj (w' (d+1) i vs N H5 xv H7 l' v0 a2 Y hY _ s7 f b7 r7) (λ_ s8 h8=>Uj h8 (λk s9 h9=>?_) λ_ _ z=>Uf z) λ_ _ z=>Uf z;cases k with|true=>
     rw[if_pos rfl]at h9⊢;refine Uj h9 (λs h'⟨yv,d',g',v',O',a3⟩=>?_) λ_ _ z=>Uf z;obtain⟨a4,a0,I',a8⟩:=C' v';refine wg a8 (by omega) λb4 a7 x'=>?_;have a1:Í Y (fX fp s7.heap) d' g' h':=v'.pins_of λp hp=>v'.pin p (o_ _ (o_ _ hp));have b8:Í Y (fX fp s7.heap) d' g' {h' with heap:=b4}:=a1.turned (t':=h'.toks) x' I' DL F' k' λp hp z=>by rw[y6]at hp;exact u' p.1 (lT hp).1 z
     exact⟨n-(i+1),by omega,i+1,d',g',vs++[yv],e'++[s],rfl,l',b8.pins_of λp hp=>(nomatch hp),a3,T.keep _ _ _ a4 λb E o e=>x' b o (u' b E) e,a0,I',a7,v5.append (.cons O' .nil)⟩|false=>rw[if_neg A_]at h9⊢;obtain⟨d',H9,I9,v9⟩:=h9;obtain⟨t9,b5,D9,l9⟩:=C' I9;exact⟨n-(i+1),by omega,i+1,d',H9,vs,e',rfl,l',I9.pins_of λp hp=>(nomatch hp),v9,t9,b5,D9,l9,v5⟩
  · have b0:i=n:=by omega
    subst b0;have A':=T.done Y y1 y2 y3 (y4.trans hc) i (fX [d] s5.heap) s5 N H5;rw[y9]at A';refine ã (A' _ E' (t' B') t5 (T' vs N H5 v0)) λr s6⟨hr,I6⟩=>?_;subst hr;have l6:LAt s6.heap d e':=by obtain⟨n,q⟩:=l5;exact⟨n,(I6.pin (d,_) (o_ _ (eM (by simp) q))).1⟩
    obtain⟨m6,n6,_⟩:=I6.loc;have C6:H5 (d+1)=U:=y5▸I6.free;rw[y5]at n6;have a5:å a.prog a.w (Þ H5 d (.lst vs)) s6.heap d (.lst vs):=by obtain⟨n,q⟩:=l6;exact⟨ce R',e',n,v5,q⟩
    have u6:=yB (I6.pins_of λp hp=>(nomatch hp));have nD:∀b o,s2.heap.get? b=Z o->b≠d:=λb o e=>by
     have E:b<d:=by rw[<-hD];exact y_ e
     exact Gf E
    have u7:Un (L2.frs a.stack) fp H2 (Þ H5 d (.lst vs)) s2.heap s6.heap:=⟨u6.keep,u6.slot,λb o e n hx=>by rw[ax (nD b o e)];exact u6.free b o e n hx,u6.there,λb xs q=>by have q':=u6.tups b xs q;rw[ax (aE q' D5)];exact q',λb o f q=>by have q':=u6.frzs b o f q;rw[ax (aE q' D5)];exact q',λb ps q=>by obtain⟨Q',q'⟩:=u6.tbls b ps q;exact⟨Q',by rw[ax (aE q' D5)];exact q'⟩⟩;have y':=I6.hok;rw[y1,y2]at y';have I7:Í a P Ι (Þ H5 d (.lst vs)) s6:=I2.call' (s':=s6) (ch:=fp) (by have:=I6.os;rw[y0]at this;exact this) u7 (ĉ.add y' D5 C6 (λb f _ q=>q) a5) I6.bare λb E=>⟨(R b E).2.2.2.1,(R b E).2.1,(R b E).2.2.2.2.1,(R b E).2.2.2.2.2⟩;exact b3 d (d+1) s6 H5 N vs m6 I7 D5 v0 n6 C6 (Uq RM) (by rw[hD];exact Y6 d)
 exact codeAny_compStart_list (m' _ rfl) (T.self _ 0 _ _ _ (T.keep _ _ _ o' λb E o e=>p' b o e) (m' _ rfl))
theorem wC{scope:U_}{d':Option æ}{b:Q->Ev->Option Ev}{js:List Nat}(I:List (Str×Nat))(ok:io a.env.scope scope I a.N)(hc:a.calm=L)(E':∀f s H fp,FG (ao a (A++I.map (·.1)) scope f s H fp) g b)(P0:Hp->V->Prop)(A':∀f s H fp,(∃P Ι,Í a P Ι H s)->∀(P:List (O×Obj))(s9:ge)(a':L2.St)(H9:Hp)(ρ:Ev)(h:Q),Í (ao a (A++I.map (·.1)) scope f s H fp) P a' H9 s9->Ü a.K H9 a' ρ->Ð H H9->y ρ=Z (.ok h)->u_ (D_ a.prog a.w) a.A (eval u (ao a (A++I.map (·.1)) scope f s H fp).env) (EP (ao a (A++I.map (·.1)) scope f s H fp) P a' λv b'=>Ð H9 b'/\Ô a.K b' h v/\P0 H v) (λ_ _=>False) s9)(z':∀f s H fp,(∃P Ι,Í a P Ι H s)->yc (ao a (A++I.map (·.1)) scope f s H fp) w d')(p':∀ρ d q',b d (iM A.length I ρ)=Z q'->fgt js q'=iM A.length I ρ){ρ:Ev}{s2:ge}{it:O}{fp:List O}{tn:Nat->TC->Prop}{J:It}{H2:Hp}(E:Ü a.K H2 Ι ρ)(I2:Í a P Ι H2 s2)(T:w6 a.prog a.w a.K g J fp it tn)(B':tn 0 s2.heap)(R:∀b∈fp,sE a P H2 b){ds ys:List Q}(wk:ſ a.K J ds H2)(U':ds.length<=100000)(R':ys.length<=100000)(hm:kH b d' y (iM A.length I ρ) ds=Z ys){RR:B->O->aaG->ge->Prop}(J':∀(j f:O)(s6:ge)(H5:Hp)(vs:List V)(m6:Str->Option B),Í a P Ι (Þ H5 j (.lst vs)) s6->H5 j=U->Ð H2 H5->S a.K H5 ys vs->(∀v∈vs,P0 H2 v)->s6.heap.Ns f m6->H5 f=U->f≠j->s2.heap.objs.size<=f->RR (.ref j) f (.ok .next) s6):u_ (D_ a.prog a.w) a.A (newList []) (λv' x'=>u_ (D_ a.prog a.w) a.A (Xz scope a.env.globals (lc scope.names a.env []) [] a.env.qual U .none (Z a.env)) (λl' w'=>WN (D_ a.prog a.w) a.A (.compStart (.ListComp u [⟨g,Á,w,0⟩] scope m) 0 (.ref it) v' {l' with scope:=aby scope a.env}) (RR v' l'.locals) w') a.xe x') a.xe s2:=by
 refine ow (A:=A) I ok hc I2 T B' R ds.length (λi vs e' H'=>∃es,(∀v∈vs,P0 H2 v)/\Ü a.K H' e' (iM A.length I ρ)/\S a.K H' es vs/\es.length<=i/\i<=ds.length/\Ð H2 H'/\(match kH b d' y (iM A.length I ρ) (ds.drop i)with|some zs=>es++zs=ys|none=>False)) (λi vs Ι H⟨es,_,_,r,l,l2,_⟩=>by rw[r.length];omega) ⟨[],(λv hv=>by cases hv),yk A.length I E,rfl,pi _,Ua _,.refl H2,by rw[aaf,hm];rfl⟩ (λvs n' H5⟨es,_,_,_,_,_,e,_⟩=>wk.stop H5 e) (λi vs n' H5 g'⟨es,_,_,_,_,_,e,_⟩=>wk.go i H5 e g') (λf i vs n' H5 x H7 g'⟨es,hP,E5,r5,T',_,e5,N⟩hy Y hY P s7 o I7 r7=>?_) λj f s6 H5 e' vs m6 I6 D5⟨es,hP,_,r5,_,_,e5,N⟩n6 C6 CD hC=>by rw[W6]at N;have s':es++[]=ys:=N;rw[VE]at s';subst s';exact J' j f s6 H5 vs m6 I6 D5 e5 r5 hP n6 C6 CD hC
 subst hY;obtain⟨u',d,hd,rd⟩:=wk.yld i H5 x H7 e5 g' hy;rw[iQ hd]at N;unfold kH at N;match hb:b d (iM A.length I ρ)with
 |none=>rw[hb]at N;exact N.elim|some c'=>
 rw[hb]at N;dsimp only at N;refine Uj ((E' f s2 H2 fp).h _ s7 n' H7 x o d (iM A.length I ρ) c' I7 r7 rd (E5.mono u') hb) (λ_ s8⟨a',H8,I8,N',E8⟩=>?_) λ_ _ z=>Uf z;have h':=u'.trans N';have back:∀{m':L2.St}{H9:Hp},Ü a.K H9 m' c'->Ü a.K H9 m' (iM A.length I ρ):=λ{m' H9}E9=>by have q:=Ü.fgt js E9;rw[p' ρ d c' hb]at q;exact q
 have k':∀{H9:Hp}{s9:ge},Í (ao a (A++I.map (·.1)) scope f s2 H2 fp) P a' H9 s9->Ð H8 H9->(match(match y c' with|some (.ok h)=>(match kH b d' y (iM A.length I ρ) (ds.drop (i+1))with|some ys=>Z (h::ys)|none=>U)|_=>U)with|some zs=>es++zs=ys|none=>False)->u_ (D_ a.prog a.w) a.A (eval u (ao a (A++I.map (·.1)) scope f s2 H2 fp).env) (λn r'=>∃yv e' b',Í (ao a (A++I.map (·.1)) scope f s2 H2 fp) P e' b' r'/\Ø yv n/\∃es,(∀v∈vs++[yv],P0 H2 v)/\Ü a.K b' e' (iM A.length I ρ)/\S a.K b' es (vs++[yv])/\es.length<=i+1/\i+1<=ds.length/\Ð H2 b'/\(match kH b d' y (iM A.length I ρ) (ds.drop (i+1))with|some zs=>es++zs=ys|none=>False)) (λ_ _=>False) s9:=λ{H9 s9}I9 e9 p=>by match F':y c',p with|none,p=>exact p.elim|some (.exc c),p=>exact p.elim|some (.ok h),p=>refine Uj (A' f s2 H2 fp ⟨_,_,I2⟩ _ s9 a' H9 c' h I9 (E8.mono e9) (e5.trans (h'.trans e9)) F') (λn r'⟨yv,b',Q',y',O',C',D'⟩=>?_) λ_ _ z=>Uf z;have o':=e9.trans O';refine⟨yv,a',b',Q',y',es++[h],(λv hv=>(TH.mp hv).elim (hP v) λz=>by rw[M_.mp z];exact D'),back (E8.mono o'),(S.mono (h'.trans o') _ _ r5).append ⟨yv,[],rfl,C',rfl⟩,by rw[T_,Z2];omega,g',e5.trans (h'.trans o'),?_⟩;match S':kH b d' y (iM A.length I ρ) (ds.drop (i+1)),p with|none,p=>exact p.elim|some zs,p=>dsimp only at p⊢;rw[VB];exact p
 have t':=z' f s2 H2 fp ⟨_,_,I2⟩;cases d' with|none=>cases(show w=[]from t');exact wpAny_tests_nil (by rw[if_pos rfl];exact k' I8 (.refl H8) N)|some t=>obtain⟨c,rfl,I'⟩:=t';match i':t c',N with|none,N=>simp only[i']at N|some (.exc c),N=>simp only[i']at N|some (.ok k),N=>simp only[i']at N;refine wpAny_tests_one (Uj (I'.h _ s8 a' H8 (λb H9=>b=k/\Ð H8 H9) I8 ⟨_,E8,by rw[i'];exactλH9 e9=>⟨rfl,e9⟩⟩) (λb s9⟨H9,I9,hb,e9⟩=>?_) λ_ _ z=>Uf z);subst hb;cases b with|true=>rw[if_pos rfl];exact k' I9 e9 N|false=>rw[if_neg A_];exact⟨a',H9,I9,es,hP,back (E8.mono e9),S.mono (h'.trans e9) _ _ r5,by omega,g',e5.trans (h'.trans e9),N⟩
theorem ox{scope:U_}{e':Option æ}{b:Q->Ev->Option Ev}{js:List Nat}(I:List (Str×Nat))(ok:io a.env.scope scope I a.N)(hc:a.calm=L)(q':∀i s H r,FG (ao a (A++I.map (·.1)) scope i s H r) g b)(m':∀i s H r,(∃P Ι,Í a P Ι H s)->FE (ao a (A++I.map (·.1)) scope i s H r) u y)(l':∀i s H r,(∃P Ι,Í a P Ι H s)->yc (ao a (A++I.map (·.1)) scope i s H r) w e')(c':∀ρ d d',b d (iM A.length I ρ)=Z d'->fgt js d'=iM A.length I ρ){ρ:Ev}{s2:ge}{it:O}{r:List O}{tn:Nat->TC->Prop}{J:It}{H2:Hp}(E:Ü a.K H2 Ι ρ)(I2:Í a P Ι H2 s2)(T:w6 a.prog a.w a.K g J r it tn)(o':tn 0 s2.heap)(R:∀b∈r,sE a P H2 b){ds ys:List Q}(wk:ſ a.K J ds H2)(s':ds.length<=100000)(p':ys.length<=100000)(hm:kH b e' y (iM A.length I ρ) ds=Z ys){RR:B->O->aaG->ge->Prop}(t':∀(j i:O)(s6:ge)(H5:Hp)(vs:List V)(m6:Str->Option B),Í a P Ι (Þ H5 j (.lst vs)) s6->H5 j=U->Ð H2 H5->S a.K H5 ys vs->s6.heap.Ns i m6->H5 i=U->i≠j->s2.heap.objs.size<=i->RR (.ref j) i (.ok .next) s6):u_ (D_ a.prog a.w) a.A (newList []) (λg' i'=>u_ (D_ a.prog a.w) a.A (Xz scope a.env.globals (lc scope.names a.env []) [] a.env.qual U .none (Z a.env)) (λN h'=>WN (D_ a.prog a.w) a.A (.compStart (.ListComp u [⟨g,Á,w,0⟩] scope m) 0 (.ref it) g' {N with scope:=aby scope a.env}) (RR g' N.locals) h') a.xe i') a.xe s2:=wC I ok hc q' (λ_ _=>True) (λi s H r hI P s9 n' H9 ρ k I9 E9 _ r'=>Uj ((m' i s H r hI).h P s9 n' H9 (λv q=>Ð H9 q/\Ô a.K q k v) I9 ⟨ρ,E9,by rw[r'];exactλv q b' a'=>⟨b',a'⟩⟩) (λp v'⟨yv,q,u',k',b',a'⟩=>⟨yv,q,u',k',b',a',trivial⟩) λ_ _ z=>z) l' c' E I2 T o' R wk s' p' hm (λj i s6 H5 vs m6 o b c d _ e f n h=>t' j i s6 H5 vs m6 o b c d e f n h)
theorem Co{p:Option æ}{b:Q->Ev->Option Ev}(c':U_)(N q:List Str)(js:List Nat)(n:List (Str×Nat))(d':a.env.scope=c')(hN:a.N=N)(ok:io c' ξ n N)(n':WS ξ a.env=pure (lc ξ.names a.env []))(hc:a.calm=L)(a':∀A d b',b d (iM q.length n A)=Z b'->fgt js b'=iM q.length n A)(hi:ŗ a g Á ν)(l':∀f s H fp,FG (ao a (q++n.map (·.1)) ξ f s H fp) g b)(g':∀f s H fp,(∃P z,Í a P z H s)->FE (ao a (q++n.map (·.1)) ξ f s H fp) u y)(e':∀f s H fp,(∃P z,Í a P z H s)->yc (ao a (q++n.map (·.1)) ξ f s H fp) w p)(hs:∀x,TM Á a.env x=pure x:=by intro _;lk):FE a (.ListComp u [⟨g,Á,w,0⟩] ξ m) (c6 q.length n ν b p y):=by subst d' hN;constructor;intro P s z H j I h;obtain⟨A,E,o⟩:=h;match ho:c6 q.length n ν b p y A with
 |none=>rw[ho]at o;exact o.elim|some r=>
 rw[ho]at o;rw[eval_ListComp];have key:ī a H (ν A) λJ H'=>∃ds ys,Ð H H'/\ſ a.K J ds H'/\ds.length<=100000/\ys.length<=100000/\kH b p y (iM q.length n A) ds=Z ys/\(∀v k,Ð H' k->Ô a.K k (.lst ys) v->j v k):=by
  rcases PD ho with⟨c,e1,e2⟩|⟨ds,ys,e1,e2,l1,l2,e3⟩;·subst e2;rw[e1];exact o
  ·subst e3;rw[e1];exactλJ H' e wk=>⟨ds,ys,e,wk,l1,l2,e2,λv k e2 r=>o v k (e.trans e2) r⟩
 refine Xa (use:=U) rfl hs n' ok.kind ok.names (ã (hi.h P s z H _ I ⟨A,E,key⟩) λv s1 h1=>ã h1 λq' s2 h2=>?_);obtain⟨it,fp,tn,J,H2,e,I2,T,h',R,ds,ys,o',wk,m',k',hm,hQ⟩:=h2;subst e;refine ox n ok hc l' g' e' a' (E.mono o') I2 T h' R wk m' k' hm (RR:=λp' f=>compPost (D_ a.prog a.w) a.A a.xe U (EP a P z j) p' f) λi f s6 H5 vs m6 I6 D5 e5 r5 n6 C6 CD hC=>?_;refine⟨m6,n6,λh7 i'=>?_⟩;have Cn:(Þ H5 i (.lst vs)) f=U:=by rw[ax CD];exact C6
 obtain⟨q0,q1,q2,q3,q4,q5⟩:=I2.fpOk hC Cn;have I7:Í a P z (Þ H5 i (.lst vs)) {s6 with heap:=h7}:=I6.turned (t':=s6.toks) (λb o hb e=>i'.extBut b o hb e) q0 q1 q3 q4 q5;exact⟨.ref i,_,I7,rfl,hQ _ _ (e5.trans (aH D5 _)) ⟨i,vs,rfl,av,S.mono (aH D5 _) _ _ r5⟩⟩
theorem vi{o:Option æ}{b:Q->Ev->Option Ev}(j:U_)(N i:List Str)(E:List Nat)(h:List (Str×Nat))(p:a.env.scope=j)(hN:a.N=N)(I:io j ξ h N)(z:WS ξ a.env=pure (lc ξ.names a.env []))(hc:a.calm=L)(k:∀A d n,b d (iM i.length h A)=Z n->fgt E n=iM i.length h A)(hi:ŗ a g Á ν)(v:∀e s H f,FG (ao a (i++h.map (·.1)) ξ e s H f) g b)(r:∀e s H f,FE (ao a (i++h.map (·.1)) ξ e s H f) u y)(q:∀e s H f,yc (ao a (i++h.map (·.1)) ξ e s H f) w o)(P:∀x,TM Á a.env x=pure x:=by intro _;lk):FE a (.ListComp u [⟨g,Á,w,0⟩] ξ m) (c6 i.length h ν b o y):=Co j N i E h p hN I z hc k hi v (λe s H f _=>r e s H f) (λe s H f _=>q e s H f) P
theorem Cp{a':Option æ}{b:Q->Ev->Option Ev}(i:Nat)(t':a.N.Nodup)(u':a.N[i]?=Z d)(p':Ł a.env.scope d)(v':a.fn d=L\/a.env.scope.names.lookup d=Z .local)(d':U_)(N ns:List Str)(js:List Nat)(cs:List (Str×Nat))(h':a.env.scope=d')(hN:a.N=N)(ok:io d' ξ cs N)(x':WS ξ a.env=pure (lc ξ.names a.env []))(hc:a.calm=L)(b':∀ρ n c',b n (iM ns.length cs ρ)=Z c'->fgt js c'=iM ns.length cs ρ)(hi:ŗ a g Á ν)(q':∀f s H P,FG (ao a (ns++cs.map (·.1)) ξ f s H P) g b)(k':∀f s H P,FE (ao a (ns++cs.map (·.1)) ξ f s H P) u y)(i':∀f s H P,yc (ao a (ns++cs.map (·.1)) ξ f s H P) w a')(r':Ux (.ListComp u [⟨g,Á,w,0⟩] ξ m) (Z (.Name d v)) Τ.line a.env=pure L:=by lk)(hs:∀x,TM Á a.env x=pure x:=by intro _;lk):PS a (.Assign [.Name d v] (.ListComp u [⟨g,Á,w,0⟩] ξ m) Τ) (tC a i (c6 ns.length cs ν b a' y)):=by subst h' hN;intro f' s σ H D0 I h;obtain⟨ρ,E,o⟩:=h;match ho:c6 ns.length cs ν b a' y ρ with
 |none=>rw[ho]at o;exact o.elim|some r=>
 rw[ho]at o;have key:ī a H (ν ρ) λJ H'=>∃ds ys,Ð H H'/\ſ a.K J ds H'/\ds.length<=100000/\ys.length<=100000/\kH b a' y (iM ns.length cs ρ) ds=Z ys/\(∀q p A,Ð H' q->q p=U->S a.K q ys A->D0.nx (σ.set i (Z (.ref p))) (Þ q p (.lst A))):=by
  rcases PD ho with⟨c,e1,e2⟩|⟨ds,ys,e1,e2,l1,l2,e3⟩;·subst e2;rw[e1];exact o
  ·subst e3;rw[e1];obtain⟨E',ey,o⟩:=o;cases ey;exactλJ H' e wk=>⟨ds,ys,e,wk,l1,l2,e2,λq p A e3 hp r=>o q p A (e.trans e3) hp r⟩
 rw[exec_Assign_Name_used _ _ _ _ r'];refine e_ (aat (e_ ?_));show u_ _ a.A (do let _<-comprehension (.ListComp u [⟨g,Á,w,0⟩] ξ m) ξ a.env _ (newList []) D (eval Á a.env) (Z (Wf (.Name d v) a.env))) _ _ s;refine e_ (Uj (Xa (use:=Z (Wf (.Name d v) a.env)) (Q:=λ_ s'=>SP a f' D0 .next s') rfl hs x' ok.kind ok.names (ã (hi.h f' s σ H _ I ⟨ρ,E,key⟩) λk s1 h1=>ã h1 λF' s2 h2=>?_)) (λ_ s' hq=>l_ (l_ hq)) λ_ _ e=>e);obtain⟨it,P,tn,J,H2,e,I2,T,m',R,ds,ys,z',wk,w',o',hm,hQ⟩:=h2;subst e;refine ox cs ok hc q' (λf s H P _=>k' f s H P) (λf s H P _=>i' f s H P) b' (E.mono z') I2 T m' R wk w' o' hm (RR:=λA' f=>compPost (D_ a.prog a.w) a.A a.xe (Z (Wf (.Name d v) a.env)) (λ_ s'=>SP a f' D0 .next s') A' f) λj f s6 q A m6 I6 D5 e5 r5 n6 C6 CD hC=>?_;have Cn:(Þ q j (.lst A)) f=U:=by rw[ax CD];exact C6
 have FC:=I2.fpOk hC Cn;obtain⟨oC,es,ep,e',g',rC⟩:=id n6;have C':=I6.pinned (fp:=[f]) (λb hb=>by
  have e:b=f:=by simpa using hb
  subst e;exact FC) (λb hb=>by
  have e:b=f:=by simpa using hb
  subst e;exact⟨oC,e',λk z=>by rw[g']at z;cases z⟩);refine ã (gL t' u' p' v' _ s6 σ _ (.ref j) (.ref j) (λl' H'=>l'=σ.set i (Z (.ref j))/\H'=Þ q j (.lst A)) C' rfl ⟨rfl,rfl⟩) λ_ s8⟨D',H8,I8,e1,e2⟩=>?_;subst e1 e2;have y':=(I8.pin (f,oC) (o_ _ (o_ _ (eM (by simp) e')))).1;refine⟨m6,⟨oC,es,ep,y',g',rC⟩,λh9 n'=>?_⟩;have B':Í a f' (σ.set i (Z (.ref j))) (Þ q j (.lst A)) s8:=I8.unpinned;obtain⟨q0,q1,q2,q3,q4,q5⟩:=FC;have I9:Í a f' (σ.set i (Z (.ref j))) (Þ q j (.lst A)) {s8 with heap:=h9}:=B'.turned (t':=s8.toks) (λb o hb e=>n'.extBut b o hb e) q0 q1 q3 q4 q5;exact⟨_,_,I9,hQ q j A e5 D5 r5⟩
abbrev cg:=List (Str×Nat×List Str×(Ö))
theorem gV{a:ε}{T:List (Str×ε)}(h:((o,Ë)::T).lookup d=Z a):(d=o/\a=Ë)\/T.lookup d=Z a:=by
 rw[Uh]at h;split at h;·rename_i b;exact .inl ⟨X6 b,by cases h;rfl⟩
 ·exact .inr h
structure HA(P:n_)(w:x_)(K:d_)(mg:Str->Option B)(base:TC)(T:cg):Prop where h:∀x e,T.lookup x=Z e->Has P w K mg base x e.1 e.2.1 e.2.2
structure ý(P:n_)(w:x_)(K:d_)(mg:Str->Option B)(base:TC)(T:cg):Prop where h:∀x e,T.lookup x=Z e->OH P w K mg base x e.1 e.2.1 e.2.2
theorem L0:HA s r q Θ I []:=⟨λ_ _ h=>by cases h⟩
theorem Hl:ý s r q Θ I []:=⟨λ_ _ h=>by cases h⟩
theorem az{T:cg}(h:Has s r q Θ I d b A À)(t:HA s r q Θ I T):HA s r q Θ I ((d,b,A,À)::T):=⟨λx e a=>by
 rcases gV a with⟨rfl,rfl⟩|a;·exact h
 ·exact t.h x e a⟩
theorem bt{T:cg}(h:OH s r q Θ I d b A À)(t:ý s r q Θ I T):ý s r q Θ I ((d,b,A,À)::T):=⟨λx e a=>by
 rcases gV a with⟨rfl,rfl⟩|a;·exact h
 ·exact t.h x e a⟩
abbrev Hm:=List (Str×Option Q)
noncomputable def cN(s:String):Str×Option Q:=(b_ s,U)
noncomputable def cI(s:String)(i:Int):Str×Option Q:=(b_ s,Z (.int i))
noncomputable def cS(s z:String):Str×Option Q:=(b_ s,Z (.str (b_ z)))
def SU(a:Str->Option B)(x:Str):Option Q->Prop|none=>a x=U|some (.int i)=>∃t,a x=Z (.int i t)|some (.str z)=>∃t,a x=Z (.str z t)|_=>False
structure MA(mg:Str->Option B)(C:Hm):Prop where h:∀x o,C.lookup x=Z o->SU mg x o
theorem MA.no{C:Hm}(h:MA Θ C)(e:C.lookup d=Z U):Θ d=U:=h.h d U e
noncomputable def Qj(K:d_)(q:Str×Option Q):Bool:=match q.2,Um K B_ q.1 with|none,Z U=>L|some (.int i),Z (Z (.int j _))=>i==j|some (.str z),Z (Z (.str y _))=>z==y|_,_=>D
theorem L1{K:d_}{f:Str->Option B}{h:TC}(X:K.In h)(G:h.Ns B_ f):∀(C:Hm),C.all (Qj K)=L->MA f C|[],_=>⟨λx o q=>by cases q⟩|(y,o)::C,e=>⟨λx g q=>by
 rw[Vu,m_]at e;rcases gV q with⟨rfl,rfl⟩|q
 · have b:=e.1;unfold Qj at b;dsimp only at b;split at b;·rename_i d;exact PySem.W.mg_none_of X G d
   ·rename_i i j t d;have a:i=j:=X6 b;subst a;exact⟨t,WG X G d⟩
   ·rename_i z y t d;have a:z=y:=X6 b;subst a;exact⟨t,WG X G d⟩
   ·cases b
 ·exact(L1 X G C e.2).h x g q⟩
theorem Cq{T:cg}(s:HA a.prog a.w a.K a.mg a.base T)(n:Ý b a.A)(f:(T.lookup d).map (λq=>q.2.2)=Z À)(r:FA a (g::w) ν)(e:((T.lookup d).all λq=>YD q.1 b&&WB k q.2.1.length)=L:=by lk)(o:a.env.kindOf d=Z .globalImplicit:=by lk)(j:(d==("__debug__":Str))=D:=by lk)(p:k_ (g::w) a.env=(D,eval g a.env)::k_ w a.env:=by lk)(i:(TW v (k_ w a.env)).any (·.1)=D:=by lk):FE a (.Call (.Name d m) (g::w) [] v) (ag À k ν):=by cases h:T.lookup d with|none=>rw[h]at f;cases f|some q=>rw[h]at f e;cases f;rw[Vk,m_]at e;exact BF q.1 q.2.1 q.2.2 (s.h d q h) n (Ut e.1) o r (Uu e.2) j p i
theorem zt{T:cg}(u:ý a.prog a.w a.K a.mg a.base T)(o:Ý b a.A)(f:(T.lookup d).map (λq=>q.2.2)=Z À)(j:a.ex=[])(s:FA a (g::w) ν)(e:((T.lookup d).all λq=>YD q.1 b&&WB k q.2.1.length)=L:=by lk)(p:a.env.kindOf d=Z .globalImplicit:=by lk)(n:(d==("__debug__":Str))=D:=by lk)(r:k_ (g::w) a.env=(D,eval g a.env)::k_ w a.env:=by lk)(i:(TW v (k_ w a.env)).any (·.1)=D:=by lk):FE a (.Call (.Name d m) (g::w) [] v) (aF À k ν):=by cases h:T.lookup d with|none=>rw[h]at f;cases f|some q=>rw[h]at f e;cases f;rw[Vk,m_]at e;exact BS q.1 q.2.1 q.2.2 (u.h d q h) o (Ut e.1) j p s (Uu e.2) n r i
theorem Qk{b:Hm}(i:MA a.mg b)(e:b.lookup d=Z (Z (.int n)))(f:a.env.kindOf d=Z .globalImplicit:=by lk)(g:(d==("__debug__":Str))=D:=by lk):FE a (.Name d m) (fC (.int n)):=let⟨_,h⟩:=i.h d _ e;F7 f h g
theorem Ql{b:Hm}(i:MA a.mg b)(e:b.lookup d=Z (Z (.str o)))(f:a.env.kindOf d=Z .globalImplicit:=by lk)(g:(d==("__debug__":Str))=D:=by lk):FE a (.Name d m) (fC (.str o)):=let⟨_,h⟩:=i.h d _ e;F8 f h g
noncomputable def ģ:List Str->Bool|[]=>L|x::r=>!(r.contains x)&&ģ r
theorem iN:∀{l:List Str},ģ l=L->l.Nodup|[],_=>aad|x::r,h=>by unfold ģ at h;rw[m_]at h;refine UV.2 ⟨λb=>?_,iN h.2⟩;have a:=h.1;rw[List.contains_iff_mem.2 b]at a;cases a
noncomputable def jA(a:U_)(x:Str):Bool:=match a.names.lookup x with|some .local=>L|some .cell=>L|_=>D
theorem fq(h:jA ξ d=L):Ł ξ d:=by
 unfold jA at h;split at h;·exact .inl ‹_›
 ·exact .inr ‹_›
 ·cases h
noncomputable def Hn(b a:U_)(d:List (Str×Nat))(N:List Str):Bool:=t_ (a.kind=.function)&&t_ (∀y∈a.names,y.2=.cell->a.names.lookup y.1=Z .cell)&&t_ (∀y∈a.names,y.2=.local->a.names.lookup y.1=Z .local)&&t_ (∀y∈a.names,y.2=.free->b.names.lookup y.1=Z .cell\/b.names.lookup y.1=Z .free)&&t_ (∀c∈d,N[c.2]?=Z c.1/\a.names.lookup c.1=Z .free)
theorem vj{a:U_}{b:List (Str×Nat)}(h:Hn ξ a b A=L):io ξ a b A:=by unfold Hn at h;simp only[m_,decide_eq_true_eq]at h;exact⟨h.1.1.1.1,h.1.1.1.2,h.1.1.2,h.1.2,h.2⟩
theorem lkc{b:Env}:∀{a:List (Str×Wi)}{x:Str},a.lookup x=Z .cell->(a.map λ(n,k)=>if(k==Vg&&b.scope.kind==.function&&b.kindOf n==Z .cell)then(n,Vs)else(n,k)).lookup x=Z .cell|[],_,h=>by simp at h|(n,k)::r,x,h=>by rw[Uh]at h;rw[E_];cases d:x==n with|true=>rw[d]at h;cases h;simp[Uh,d]|false=>
 rw[d]at h;have e:=lkc (b:=b) h;dsimp only;split;·rw[Uh,d];exact e
 ·rw[Uh,d];exact e
theorem Ž(b:jA ξ d=L):Ł (ao a A ξ e f h ο).env.scope d/\((ao a A ξ e f h ο).fn d=L\/(ao a A ξ e f h ο).env.scope.names.lookup d=Z .local):=by
 rcases fq b with b|b;·exact⟨.inl (Z5 b),.inr (Z5 b)⟩
 ·exact⟨.inr (lkc b),.inl (by show(ξ.names.lookup d==Z .cell)=L;rw[b];rfl)⟩
theorem fgA(b:O)(s:ge)(H:Hp)(h:List O)(e:ģ A=L)(g:A[0]?=Z d)(f:jA ξ d=L):FG (ao a A ξ b s H h) (.Name d m) (gN 0):=GB 0 (iN e) g (Ž f).1 (Ž f).2
theorem Qm{f:Option æ}{e:List (Str×Nat)}(r:ŗ a (.Name d v) u ν)(j:∀b s H h,FE (ao a (d::e.map (·.1)) ξ b s H h) g y)(i:∀b s H h,yc (ao a (d::e.map (·.1)) ξ b s H h) w f)(k:Hn a.env.scope ξ e a.N=L:=by lk)(o:WS ξ a.env=pure (lc ξ.names a.env []):=by lk)(z:a.calm=L:=by lk)(n:ģ (d::e.map (·.1))=L:=by lk)(q:jA ξ d=L:=by lk)(p:∀d,TM u a.env d=pure d:=by intro _;lk):FE a (.ListComp g [⟨.Name d v,u,w,0⟩] ξ m) (dq e ν f y):=(Hc (f:=e) (a:=ν) (b:=f) (e:=y))▸vi a.env.scope a.N [d] [0] e rfl rfl (vj k) o z (Ll _) r (λb s H h=>fgA b s H h n rfl q) j i p
theorem Qn{f:Pos}{j:Option æ}{h:List (Str×Nat)}(hi:ŗ a (.Name d v) u ν)(n:∀e s H i,FE (ao a (d::h.map (·.1)) ξ e s H i) g y)(k:∀e s H i,yc (ao a (d::h.map (·.1)) ξ e s H i) w j)(hN:ģ a.N=L)(A:a.N[b]?=Z o)(p:jA a.env.scope o=L)(E:a.fn o=L)(r:Hn a.env.scope ξ h a.N=L)(I:WS ξ a.env=pure (lc ξ.names a.env []))(hc:a.calm=L)(z:ģ (d::h.map (·.1))=L)(P:jA ξ d=L)(q:Ux (.ListComp g [⟨.Name d v,u,w,0⟩] ξ m) (Z (.Name o Τ)) f.line a.env=pure L)(N:∀d,TM u a.env d=pure d):PS a (.Assign [.Name o Τ] (.ListComp g [⟨.Name d v,u,w,0⟩] ξ m) f) (tC a b (c6 1 h ν (gN 0) j y)):=Cp b (iN hN) A (fq p) (.inl E) a.env.scope a.N [d] [0] h rfl rfl (vj r) I hc (Ll _) hi (λe s H i=>fgA e s H i z rfl P) n k q N
theorem Qo{f:Pos}{i:Option æ}{h:List (Str×Nat)}(hi:ŗ a (.Name d v) u ν)(k:∀e s H n,FE (ao a (d::h.map (·.1)) ξ e s H n) g y)(j:∀e s H n,yc (ao a (d::h.map (·.1)) ξ e s H n) w i)(q:Ux (.ListComp g [⟨.Name d v,u,w,0⟩] ξ m) (Z (.Name o Τ)) f.line a.env=pure L)(hN:ģ a.N=L:=by lk)(A:a.N[b]?=Z o:=by lk)(p:jA a.env.scope o=L:=by lk)(E:a.fn o=L:=by lk)(r:Hn a.env.scope ξ h a.N=L:=by lk)(I:WS ξ a.env=pure (lc ξ.names a.env []):=by lk)(hc:a.calm=L:=by lk)(z:ģ (d::h.map (·.1))=L:=by lk)(P:jA ξ d=L:=by lk)(N:∀d,TM u a.env d=pure d:=by intro _;lk):FS a (.Assign [.Name o Τ] (.ListComp g [⟨.Name d v,u,w,0⟩] ξ m) f) (cy b (c6 1 h ν (gN 0) i y)):=Hd (Qn hi k j hN A p E r I hc z P q N) yY
theorem SV(e:O)(s:ge)(H:Hp)(f:List O)(n:a.calm=L)(h:ģ A=L)(k:A[0]?=Z d)(j:A[1]?=Z o)(i:jA ξ d=L)(g:jA ξ o=L)(u:(TZ [.Name d m,.Name o v] (ao a A ξ e s H f).env).map (·.2)=Wf (.Name d m) (ao a A ξ e s H f).env::(TZ [.Name o v] (ao a A ξ e s H f).env).map (·.2))(r:(TZ [.Name o v] (ao a A ξ e s H f).env).map (·.2)=Wf (.Name o v) (ao a A ξ e s H f).env::(TZ [] (ao a A ξ e s H f).env).map (·.2))(q:(TZ [.Name d m,.Name o v] (ao a A ξ e s H f).env).length=2)(p:(TZ [.Name d m,.Name o v] (ao a A ξ e s H f).env).findIdx? (·.1)=U):FG (ao a A ξ e s H f) (.Tuple [.Name d m,.Name o v] b Τ) (gP 0 1):=yj 0 1 n (iN h) k (Ž i).1 (Ž i).2 j (Ž g).1 (Ž g).2 u r q p
theorem Qp{z:Pos}{i:Option æ}{f:List (Str×Nat)}(N:ŗ a (.Tuple [.Name d v,.Name o Τ] b z) u ν)(k:∀e s H h,FE (ao a (d::o::f.map (·.1)) ξ e s H h) g y)(j:∀e s H h,yc (ao a (d::o::f.map (·.1)) ξ e s H h) w i)(n:Hn a.env.scope ξ f a.N=L:=by lk)(r:WS ξ a.env=pure (lc ξ.names a.env []):=by lk)(A:a.calm=L:=by lk)(p:ģ (d::o::f.map (·.1))=L:=by lk)(I:jA ξ d=L:=by lk)(q:jA ξ o=L:=by lk)(E:∀d,TM u a.env d=pure d:=by intro _;lk):FE a (.ListComp g [⟨.Tuple [.Name d v,.Name o Τ] b z,u,w,0⟩] ξ m) (c6 2 f ν (gP 0 1) i y):=vi a.env.scope a.N [d,o] [0,1] f rfl rfl (vj n) r A (PF _) N (λe s H h=>SV e s H h A p rfl rfl I q rfl rfl rfl rfl) k j E
theorem Cr:∀b s H d,yc (ao a A ξ b s H d) [] U:=λ_ _ _ _=>rfl
theorem Ct(h:∀b s H d,FT (ao a A ξ b s H d) g Μ):∀b s H d,yc (ao a A ξ b s H d) [g] (Z Μ):=λb s H d=>⟨_,rfl,h b s H d⟩
theorem L3(e:FE a g y)(d:FE a u É)(b:∀o i,abo u D o i=operate [o,i] (Zw o i):=by intro _ _;lk):FE a (.Subscript g u m) (R Î y É):=Pw e d b
theorem Ho(j:FE a g y)(k:ģ a.N=L:=by lk)(h:a.N[b]?=Z d:=by lk)(e:jA a.env.scope d=L:=by lk)(i:a.fn d=L:=by lk)(f:Ux g (Z (.Name d v)) m.line a.env=pure D:=by lk):FS a (.Assign [.Name d v] g m) (cy b y):=KN b (iN k) h (fq e) j f (.inl i)
theorem Hq(o:FE a g y)(f:a.ex=[]:=by lk)(e:WB b k=D:=by lk)(p:ģ a.N=L:=by lk)(j:a.N[k]?=Z d:=by lk)(h:jA a.env.scope d=L:=by lk)(n:a.fn d=L:=by lk)(i:Ux g (Z (.Name d v)) m.line a.env=pure D:=by lk):Ŗ a b (.Assign [.Name d v] g m) (gE k y):=Ly f k (XO e) (iN p) j (fq h) o i (.inl n)
theorem Cu{e:jY}(j:FA a w ν)(h:ř a b Ψ e)(n:ģ a.N=L:=by lk)(i:a.N[b]?=Z d:=by lk)(f:jA a.env.scope d=L:=by lk)(k:a.fn d=L:=by lk)(g:Ux (.List w Τ) (Z (.Name d v)) m.line a.env=pure D:=by lk):ġ a (.Assign [.Name d v] (.List w Τ) m::Ψ) (yy b ν e):=GP (iN n) i (fq f) j h g (.inl k)
theorem Hr{e:List Nat}(i:WH (D_ a.prog a.w) a.A a.env a.xe)(k:FI a (.Name d v) g ν)(p:ġ a Ψ Ρ)(o:a.calm=L:=by lk)(q:ģ a.N=L:=by lk)(f:a.N[b]?=Z d:=by lk)(j:jA a.env.scope d=L:=by lk)(n:a.fn d=L:=by lk)(h:∀d,TM g a.env d=pure d:=by intro _;lk):FS a (.For (.Name d v) g Ψ [] m) (KR b e ν Ρ):=KS b e i o k (gL (iN q) f (fq j) (.inl n)) p h
theorem Hs{h:List Nat}{i:jY}(o:WH (D_ a.prog a.w) a.A a.env a.xe)(q:FI a (.Name d v) g ν)(u:ř a b Ψ i)(f:a.ex=[]:=by lk)(e:WB b k=D:=by lk)(s:a.calm=L:=by lk)(w:ģ a.N=L:=by lk)(j:a.N[k]?=Z d:=by lk)(p:jA a.env.scope d=L:=by lk)(r:a.fn d=L:=by lk)(n:∀d,TM g a.env d=pure d:=by intro _;lk):Ŗ a b (.For (.Name d v) g Ψ [] m) (yz k h ν i):=LC f k h (XO e) o s q (gL (iN w) j (fq p) (.inl r)) u n
theorem Cv{h:Pos}{i:List Nat}(r:WH (D_ a.prog a.w) a.A a.env a.xe)(u:ŗ a (.Tuple [.Name d Τ,.Name o v] ι h) g ν)(y:ġ a Ψ Ρ)(j:a.calm=L:=by lk)(z:ģ a.N=L:=by lk)(p:a.N[b]?=Z d:=by lk)(s:jA a.env.scope d=L:=by lk)(w:a.fn d=L:=by lk)(n:a.N[k]?=Z o:=by lk)(e:jA a.env.scope o=L:=by lk)(f:a.fn o=L:=by lk)(I:(TZ [.Name d Τ,.Name o v] a.env).map (·.2)=Wf (.Name d Τ) a.env::(TZ [.Name o v] a.env).map (·.2):=by lk)(H:(TZ [.Name o v] a.env).map (·.2)=Wf (.Name o v) a.env::(TZ [] a.env).map (·.2):=by lk)(E:(TZ [.Name d Τ,.Name o v] a.env).length=2:=by lk)(A:(TZ [.Name d Τ,.Name o v] a.env).findIdx? (·.1)=U:=by lk)(q:∀d,TM g a.env d=pure d:=by intro _;lk):FS a (.For (.Tuple [.Name d Τ,.Name o v] ι h) g Ψ [] m) (wu (gP b k) i ν Ρ):=G0 i r j u (yj b k j (iN z) p (fq s) (.inl w) n (fq e) (.inl f) I H E A) y q
theorem Cw{e:List Nat}(h:Ř a w (GD e))(k:ģ a.N=L:=by lk)(i:a.N[b]?=Z d:=by lk)(f:jA a.env.scope d=L:=by lk)(j:a.fn d=L:=by lk)(g:(TZ (.Name d m::w) a.env).map (·.2)=Wf (.Name d m) a.env::(TZ w a.env).map (·.2):=by lk):Ř a (.Name d m::w) (GD (b::e)):=GE b (iN k) i (fq f) (.inl j) h g
theorem kO(i:a.N[b]?=Z d)(f:jA a.env.scope d=L)(g:(d==("__debug__":Str))=D)(e:(d==("__classdict__":Str))=D):PE a (.Name d m) (xq b):=xr i ((fq f).elim .inl λh=>.inr (.inl h)) g e
theorem Ht{j:Pos}(q:FE a g y)(o:PE a (.Name d v) (xq b))(n:a.ex=[]:=by lk)(h:Uy (.Name d v) "append" a.env (eval (.Name d v) a.env)=eval (.Name d v) a.env:=by lk)(i:((TW Τ (k_ [g] a.env)).all (λd=>!d.1)&&(Vy Τ (UN [] a.env)).all (λd=>d.1.isSome)&&t_ ([g].length+([]:List VI).length+(if([]:List VI).isEmpty then 0 else 1)<30))=L:=by lk)(f:(j.endLine==Τ.line)=L:=by lk)(p:k_ [g] a.env=(D,eval g a.env)::k_ [] a.env:=by lk)(e:(TW Τ (k_ [] a.env)).any (·.1)=D:=by lk)(k:Ux (.Call (.Attribute (.Name d v) "append" j) [g] [] Τ) U m.line a.env=pure D:=by lk):Ŗ a b (.Expr (.Call (.Attribute (.Name d v) "append" j) [g] [] Τ) m) (B0 y):=LB n o q h i f p e k
structure ų(X:C)(o:s_)(name:Str)(e:s_)(es:List s_)(apos cpos:Pos):Prop where
 base:Uy o name X.env (eval o X.env)=eval o X.env
 few:((TW cpos (k_ (e::es) X.env)).all (λx=>!x.1)&&(Vy cpos (UN [] X.env)).all (λx=>x.1.isSome)&&t_ ((e::es).length+([]:List VI).length+(if([]:List VI).isEmpty then 0 else 1)<30))=L
 line:(apos.endLine==cpos.line)=L
 s:k_ (e::es) X.env=(D,eval e X.env)::k_ es X.env
 plain:(TW cpos (k_ es X.env)).any (·.1)=D
theorem rE{f:String}{r:V->List V->Hp->VK->Prop}{b:Str->Ö}(e:Slot "str" d f)(j:abB (.builtin f)=pure (.type "method_descriptor"))(o:œ a f r)(p:∀i ds k H Q,S a.K H ds k->ð a H (b i ds) Q->r (.str i) k H Q)(n:FE a g y)(q:FA a (u::w) ν)(h:ų a g d u w m v):FE a (.Call (.Attribute g d m) (u::w) [] v) (fM b y ν):=Gr e j o p n q h.base h.few h.line h.s h.plain
section
open PySem.W
structure CA(K:d_)(mg:Str->Option B)(cls:Nat->O)(CJ:O)(S:List Nat)(m:Nat):Prop where at_:∀c∈S,mg (Ħ c)=Z (.ref (cls c))j:mg "JarError"=Z (.ref CJ)xk:∀c C,c<m->nsIn K B_ (Ħ c)=Z (Z (.ref C))->excIn K C ŧ "ValueError.__new__"=L/\mroIn K C (.ref CJ)=Z L
theorem CA.c{K:d_}{b:Str->Option B}{a:Nat->O}{f:O}{S:List Nat}{m c:Nat}{x:Str}(h:CA K b a f S m)(e:c∈S)(d:Ħ c=x):b x=Z (.ref (a c)):=by subst d;exact h.at_ c e
noncomputable def nsB(K:d_)(x:Str)(a:O):Bool:=match nsIn K B_ x with|some (Z (.ref b))=>WB a b|_=>D
theorem EI(h:nsB q d e=L):nsIn q B_ d=Z (Z (.ref e)):=by
 unfold nsB at h;split at h;·rename_i b a;rw[a,Uu h]
 ·cases h
def caB(K:d_)(S:List Nat)(a:List O)(b:O)(m:Nat):Bool:=S.all (λc=>nsB K (Ħ c) (a.getD c 0))&&nsB K "JarError" b&&P8 K S a b&&(p_ m).all λc=>S.contains c||(match nsIn K B_ (Ħ c)with|some U=>L|_=>D)
theorem Qq{S:List Nat}(X:q.In I)(G:I.Ns B_ Θ)(a:caB q S ο e b=L):Đ q S (λc=>ο.getD c 0) e/\CA q Θ (λc=>ο.getD c 0) e S b:=by
 unfold caB at a;rw[m_,m_,m_]at a;obtain⟨⟨⟨o,n⟩,m⟩,k⟩:=a;have j:∀c∈S,nsIn q B_ (Ħ c)=Z (Z (.ref (ο.getD c 0))):=λc g=>EI (Ul.1 o c g);have h:=B6 j m;refine⟨h,λc g=>mg_of X G (j c g),mg_of X G (EI n),λc C g d=>?_⟩;have f:=Ul.1 k c (TX.2 g);rw[ZV]at f;rcases f with f|f
 · have i:c∈S:=by simpa using f
   rw[h.same i d];exact⟨(h.at_ c i).2.1,(h.at_ c i).2.2.2.1⟩
 ·rw[d]at f;cases f
end
noncomputable abbrev nsM(K:d_)(x:Str):Option (Option B):=Um K B_ x
structure Af(K:d_)(x:Str)(st:Us)(f:O):Prop where
 a:nsM K x=Z (Z (.ref f))F:∃fd,ļ K x x st f fd
 k:UK K (.ref f)=L
def ż(N P:List Str)(a:U_):Bool:=t_ (a.kind=.function)&&!a.isCoroutine&&!a.isGenerator&&ģ N&&t_ (N.take P.length=P)&&P.all (jA a)&&t_ (∀y∈a.names,y.2≠.free)
theorem Hu{P:List Str}(h:ż A P ξ=L):ij A P ξ:=by unfold ż at h;simp only[m_,decide_eq_true_eq,aa5]at h;exact⟨h.1.1.1.1.1.1,h.1.1.1.1.1.2,h.1.1.1.1.2,iN h.1.1.1.2,h.1.1.2,λx a=>fq (Ul.1 h.1.2 x a),h.2⟩
def OK(x:Str)(a:Us)(e:List Str):Prop:=∀(kV b f:B)(h:Option O)(d g:B)(us:List B),us.length=e.length->aaP (Vq x x (ik a) (bU a) (aq a) .none kV b f h d g) ⟨us,[]⟩=pure (e.zip us)
theorem aQ{h:TC}(u:q.In h)(v:h.Ns B_ Θ)(N i:List Str)(j:Û)(A:Af q d Δ e)(k:OK d Δ i)(o:∀(g:B)(A:C_)(f:List Env)(a:ge)(H:Hp)(E:XK),Ý b (A.deeper (Wy d (aq Δ) a.heap.objs.size e g))->ġ (oX į s r q Θ I N d (aq Δ) e g A f a H E).nox (bU Δ) j)(p:À=bM N.length j:=by lk)(n:ż N i (aq Δ)=L:=by lk):Has s r q Θ I d (b+1) i À:=let⟨_,m⟩:=A.F;⟨_,_,KU N i j p rfl m (Hu n) o,WG u v A.a,A.k,m.binds k⟩
theorem bW{h:TC}(u:q.In h)(v:h.Ns B_ Θ)(N i:List Str)(j:Û)(A:Af q d Δ e)(k:OK d Δ i)(o:∀(g:B)(A:C_)(f:List Env)(a:ge)(H:Hp)(E:XK),Ý b (A.deeper (Wy d (aq Δ) a.heap.objs.size e g))->ġ (oX (Ĺ s r) s r q Θ I N d (aq Δ) e g A f a H E) (bU Δ) j)(p:À=gA N.length j:=by lk)(n:ż N i (aq Δ)=L:=by lk):OH s r q Θ I d (b+1) i À:=let⟨_,m⟩:=A.F;⟨_,_,Ex N i j p rfl m (Hu n) o,WG u v A.a,A.k,m.binds k⟩
def bdL(x:Str)(a:Us)(n:Nat)(f b e:B)(i:Option O)(d h:B)(g:Nat->B):Sem (List (Str×B)):=aaP (Vq x x (ik a) (bU a) (aq a) .none f b e i d h) ⟨(p_ n).map g,[]⟩
noncomputable def bdR(a:List Str)(n:Nat)(_ _ _:B)(_:Option O)(_ _:B)(g:Nat->B):Sem (List (Str×B)):=pure (a.zip ((p_ n).map g))
theorem Hv(a:List B):a=(p_ a.length).map λi=>a.getD i .none:=by refine X5 (by simp) λi b d=>?_;simp[b]
theorem aI(h:bdL d Δ A.length=bdR A A.length:=by lk):OK d Δ A:=λkV a e j b g us f=>by have q:=congrFun (congrFun (congrFun (congrFun (congrFun (congrFun (congrFun h kV) a) e) j) b) g) λi=>us.getD i .none;unfold bdL bdR at q;rw[<-f,<-Hv us]at q;exact q
end FD
namespace TS
open L2 FD
def Qr(p q:B)(e l:Bool):Prop:=∀(a:n_)(w:x_)(A:C_)(E:B->ge->Prop)(s:ge),(∀Q:Bool->ge->Prop,Q e s->u_ (D_ a w) A (eqBool p q) Q E s)/\(∀Q:B->ge->Prop,Q (.bool l) s->u_ (D_ a w) A (richCompare .Gt p q) Q E s)
inductive oy:List (B×B)->List (Bool×Bool)->Prop|nil:oy [] []|cons{p q:B}{e l:Bool}{ps:List (B×B)}{rs:List (Bool×Bool)}:Qr p q e l->oy ps rs->oy ((p,q)::ps) ((e,l)::rs)
noncomputable def Cy:List Int->List Int->Bool|x::b,y::a=>if x=y then Cy b a else t_ (y<x)|_,_=>D
theorem oz:∀{f g:List Int}{d b:List B},f.length=g.length->Ñ (f.map V.int) d->Ñ (g.map V.int) b->∃e,oy (d.zip b) e/\(dw e).getD D=Cy f g
 |[],[],d,b,_,v,n=>by cases v;exact⟨[],.nil,rfl⟩|k::f,j::g,d,b,r,v,n=>by cases v with|cons p v2=>cases n with|cons m i=>obtain⟨e,q,i2⟩:=oz (by simpa using r) v2 i;obtain⟨t,rfl⟩:=p;obtain⟨o,rfl⟩:=m;refine⟨(k==j,t_ (j<k))::e,.cons (λa w A E s=>⟨(u4 s.heap A D k j t o a w E s rfl).1,λQ h=>(PyProof.Rows.gt_int h:u_ (D_ a w) A (Ug .Gt (.int k t) (.int j o)) Q E s)⟩) q,?_⟩;rw[gf,i2];simp[Cy]
 |[],_::_,_,_,h,_,_=>by simp at h|_::_,[],_,_,h,_,_=>by simp at h
section
open PySem.SeqAt
open PySem.AutoSeq1(wpAny_loadPart')
open PySem.MeetsSeq PySem.MeetsSeq2 PySem.MeetsSeq3
theorem zu(l b:O)(j f:Array B)(n n2:Nat)(dd N:Option O)(sl H:Array (Option B))(v:List (Bool×Bool))(hi:oy (j.toList.zip f.toList) v)(hz:j.size=f.size):Meets (Wc.«tuple.__gt__» ⟨[.ref l,.ref b],[]⟩) (λ_ a s=>s.heap.get? l=Z {cls:=.type "tuple",dict:=dd,data:=.seq j n,slots:=sl}/\s.heap.get? b=Z {cls:=.type "tuple",dict:=N,data:=.seq f n2,slots:=H}/\a (.ok (.ret (.bool ((dw v).getD D)))) s):=.of_wp λm w A a s h=>by
 obtain⟨z,g,d,u,os⟩:=s;obtain⟨hl,hb,h⟩:=h;have R:=Zb;wp_walk using Yi hl,Yi hb,WX _ (λrest b p=>b.1=U/\p=⟨z,g,d,u,os⟩/\∃k,oy rest k/\a (.ok (.ret (.bool ((dw k).getD D)))) ⟨z,g,d,u,os⟩) _;case turn=>rintro⟨y,x⟩rest b p⟨o,rfl,k,E,q⟩;cases E with|cons i r=>rename_i e lw P;rw[gf]at q;refine e_ ((i m w _ _ _).1 _ ?_);cases e with|true=>wp_walk;exact⟨rfl,rfl,_,r,by simpa using q⟩|false=>have I:=λQ h=>(i m w A.in1 (λe p=>a (.error e) p) ⟨z,g,d,u,os⟩).2 Q h;wp_walk using I;exact⟨_,rfl,by simpa using q⟩
 case fin=>rintro⟨b1,b2⟩p⟨o,rfl,k,E,q⟩;simp only at o;subst o;cases E;wp_walk;exact⟨_,rfl,by simpa[X0,hz,dw]using q⟩
 case h=>exact⟨rfl,rfl,v,hi,h⟩
end
end TS
namespace FD
open L2 TS
def gtT:Q->Q->Option (Rs Q)|.tup e,.tup d=>(match rg e,rg d with|some a,Z b=>if a.length=b.length then Z (.ok (.bl (Cy a b)))else U|_,_=>U)|_,_=>U
def RY:R2:=λx y H Q=>∃a b d e,x=.ref a/\y=.ref b/\H a=Z (.tup (d.map V.int))/\H b=Z (.tup (e.map V.int))/\d.length=e.length/\Q (.bl (Cy d e)) H
theorem mz{K:d_}{H:Hp}:∀{ds:List Q}{a:List Int}{us:List V},rg ds=Z a->S K H ds us->us=a.map V.int|[],a,us,h,r=>by cases h;exact(show us=[]from r)|.int x::ds,a,us,h,r=>by obtain⟨v,b,rfl,e,d⟩:∃v b,us=v::b/\Ô K H (.int x) v/\S K H ds b:=r;cases(show v=.int x from e);obtain⟨g,f,rfl⟩:=VJ.mp (show(rg ds).map (x::·)=Z a from h);rw[mz f d];rfl|.non::_,_,_,h,_=>by cases h|.bl _::_,_,_,h,_=>by cases h|.str _::_,_,_,h,_=>by cases h|.tup _::_,_,_,h,_=>by cases h|.lst _::_,_,_,h,_=>by cases h|.scr _::_,_,_,h,_=>by cases h|.exn _::_,_,_,h,_=>by cases h|.obj _ _::_,_,_,h,_=>by cases h
theorem Qs(hu:a.A.units+64<cLine):ÿ a (Ug .Gt) RY:=by
 intro f' s σ H x y v u Q I rx ry h;obtain⟨d,b,ns,ms,rfl,rfl,ha,hb,hl,q⟩:=h;cases rx;cases ry;obtain⟨f,r,p1,_⟩:=I.tuple (ù.of ha);obtain⟨e,p,p2,_⟩:=I.tuple (ù.of hb);obtain⟨k,i1,i2⟩:=oz hl r p;obtain⟨⟨a',dd,E,P⟩,w,A,n,z⟩:=id p1;obtain⟨⟨N,o,data2,m⟩,g,j,n2,i⟩:=id p2;simp only at A z j i;subst A z j i;have hz:f.toArray.size=e.toArray.size:=by have e1:=r.length;have e2:=p.length;simp at e1 e2⊢;omega
 rw[<-i2]at q;exact Zv (op:=.Gt) ⟨_,w,rfl⟩ ⟨_,g,rfl⟩ PySem.F.slot_tuple_gt PySem.F.entry_tuple_gt (PySem.F.args_tuple_gt_2 _ _) (zu d b f.toArray e.toArray n n2 dd o P m k i1 hz) ⟨w,g,show S_ ((dw k).getD D)≠Z6/\_ from⟨(λx=>nomatch x),.bl ((dw k).getD D),H,I,rfl,q⟩⟩ (by omega)
theorem Qt:Ġ a RY gtT:=by
 intro s q x y H Q h g o;cases s<;>cases q<;>try exact(show False from o).elim
 rename_i w v;simp only[gtT]at o;split at o
 · rename_i j k p n;split at o;·rename_i m;obtain⟨d,us,rfl,f,r⟩:=h.tupE;obtain⟨b,u,rfl,e,i⟩:=g.tupE;rw[mz p r]at f;rw[mz n i]at e;exact⟨d,b,j,k,rfl,rfl,f,e,m,o _ H (.refl H) rfl⟩
   ·exact o.elim
 ·exact o.elim
noncomputable def ix(k:Int):List Int->Nat|[]=>0|m::r=>if m=k then 0 else ix k r+1
noncomputable def er(k:Int):List Int->List Int|[]=>[]|m::r=>if m=k then r else m::er k r
structure S2(X:C)(i k:Nat)(a b:O)(H:Hp)(σ:L2.St)(Hf:Hp)(ρ:Ev):Prop where
 off:∀c,c≠a->c≠b->Hf c=H c
 na:H a=U
 nb:H b=U
 ne:a≠b
 ia:σ[i]?=Z (Z (.ref a))kb:σ[k]?=Z (Z (.ref b))len:σ.length=ρ.length
 low:∀j d,j≠i->j≠k->ρ[j]?=Z (Z d)->∃v,σ[j]?=Z (Z v)/\Ô X.K H d v
 fst:∃ds xs,ρ[i]?=Z (Z (.lst ds))/\Hf a=Z (.lst xs)/\S X.K H ds xs
 snd:∃es ys,ρ[k]?=Z (Z (.lst es))/\Hf b=Z (.lst ys)/\S X.K H es ys
abbrev FnP:=Ev->Option Ev
end FD
namespace L2
noncomputable def rF[DecidableEq ε](a:List (ε×V))(k:ε):Option V:=(a.find? λb=>t_ (b.1=k)).map (·.2)
noncomputable def tG[DecidableEq ε](a:List (ε×V))(k:ε)(v:V):List (ε×V):=if(a.any λb=>t_ (b.1=k))=L then a.map (λb=>if b.1=k then(b.1,v)else b)else a++[(k,v)]
theorem lJ[DecidableEq ε]{p:ε×V}{r:List (ε×V)}{k:ε}(e:p.1=k):rF (p::r) k=Z p.2:=by simp[rF,VD,e]
theorem lK[DecidableEq ε]{p:ε×V}{r:List (ε×V)}{k:ε}(e:¬p.1=k):rF (p::r) k=rF r k:=by simp[rF,VD,e]
theorem vm{b:Type}[DecidableEq b](k:b):∀a:List (b×V),(a.any λd=>t_ (d.1=k))=(rF a k).isSome
 |[]=>rfl|p::r=>by
  rw[Vt];by_cases e:p.1=k;·simp only[lJ e,decide_eq_true e,Bool.true_or,aaI]
  ·rw[lK e,decide_eq_false e,Bool.false_or];exact vm k r
theorem mB[DecidableEq ε](a:List (ε×V))(k:ε)(v:V):(tG a k v).length<=a.length+1:=by
 unfold tG;split;·rw[P_];omega
 ·rw[T_,TQ,List.length_nil];omega
theorem Č.isSome_eq{o:Option V}{u:Option B}(r:Č o u):o.isSome=u.isSome:=by cases o with
 |none=>cases u with|none=>rfl|some _=>exact(show False from r).elim
 |some _=>cases u with|none=>exact(show False from r).elim|some _=>rfl
theorem Č.getD{o:Option V}{u:Option B}(r:Č o u)(a:Ø ψ ω):Ø (o.getD ψ) (u.getD ω):=by cases o with
 |none=>cases u with|none=>exact a|some _=>exact(show False from r).elim
 |some _=>cases u with|none=>exact(show False from r).elim|some _=>exact r
theorem KV.val[DecidableEq ε]{a:List (ε×V)}{g:List (ε×B)}(r:KV a g)(k:ε):Č (rF a k) (aaL g k):=by unfold KV at r;induction r with|nil=>exact V6|@cons p q n d h t j=>
 obtain⟨i,m⟩:=h;by_cases e:p.1=k
 · have f:q.1=k:=i.symm.trans e;have b:aaL (q::d) k=Z q.2:=by simp[aaL,VD,f]
   rw[lJ e,b];exact m
 · have f:¬q.1=k:=λz=>e (i.trans z);have b:aaL (q::d) k=aaL d k:=by simp[aaL,VD,f]
   rw[lK e,b];exact j
theorem KV.any[DecidableEq ε]{a:List (ε×V)}{d:List (ε×B)}(r:KV a d)(k:ε):(a.any λb=>t_ (b.1=k))=d.any λb=>t_ (b.1=k):=by unfold KV at r;induction r with|nil=>rfl|cons h t e=>rw[Vt,Vt,e,h.1]
theorem KV.repl[DecidableEq ε]{b:List (ε×V)}{f:List (ε×B)}(r:KV b f)(k:ε){y:V}{u:B}(g:Ø y u):KV (b.map λa=>if a.1=k then(a.1,y)else a) (f.map λa=>if a.1=k then(a.1,u)else a):=by unfold KV at r⊢;induction r with|nil=>exact .nil|@cons p q n m h t i=>
 rw[E_,E_];refine .cons ?_ i;obtain⟨d,j⟩:=h;by_cases e:p.1=k;·rw[if_pos e,if_pos (d.symm.trans e)];exact⟨d,g⟩
 ·rw[if_neg e,if_neg (λz=>e (d.trans z))];exact⟨d,j⟩
theorem KV.put[DecidableEq ε]{a:List (ε×V)}{b:List (ε×B)}(r:KV a b)(k:ε){y:V}{u:B}(d:Ø y u):KV (tG a k y) (stored b k u):=by
 unfold tG stored;rw[r.any k];by_cases e:(b.any λf=>t_ (f.1=k))=L;·rw[if_pos e,if_pos e];exact r.repl k d
 ·rw[if_neg e,if_neg e];exact Paired.snoc r ⟨rfl,d⟩
theorem KV.length[DecidableEq ε]{a:List (ε×V)}{b:List (ε×B)}(r:KV a b):a.length=b.length:=Y9 r
theorem Hw{k:ô}(a:Ø (kV k) ω):(dk s r).is k ω=L:=by cases k with|inl i=>obtain⟨t,e⟩:=(show∃t,ω=Zg i t from a);subst e;exact sI s r i t|inr x=>obtain⟨t,e⟩:=(show∃t,ω=Wh x t from a);subst e;exact sJ s r x t
theorem rG{P:n_}{w:x_}:∀{a:List ô}{us:List B},Ñ (a.map kV) us->ItemsAre (dk P w) a us|[],_,r=>by rw[XT]at r;cases r;exact .nil|k::a,_,r=>by rw[E_]at r;cases r with|cons h t=>exact .cons (Hw h) (rG t)
abbrev KT(H:Hp):List (List ô×V)->List (List ô×O×B)->Prop:=abN λp q=>p.1=q.1/\H q.2.1=Z (.tup (p.1.map kV))/\Ø p.2 q.2.2
theorem KT.val{d:List (List ô×V)}{i:List (List ô×O×B)}(r:KT h d i)(k:List ô):Č (rF d k) ((Y' i k).map (·.2)):=by induction r with|nil=>exact V6|@cons p q o f a t m=>
 obtain⟨j,_,n⟩:=a;by_cases e:p.1=k
 · have g:q.1=k:=j.symm.trans e;have b:Y' (q::f) k=Z q.2:=by simp[Y',VD,g]
   rw[lJ e,b];exact n
 · have g:¬q.1=k:=λz=>e (j.trans z);have b:Y' (q::f) k=Y' f k:=by simp[Y',VD,g]
   rw[lK e,b];exact m
theorem KT.repl{b:List (List ô×V)}{g:List (List ô×O×B)}(r:KT h b g)(k:List ô){y:V}{u:B}(j:Ø y u):KT h (b.map λf=>if f.1=k then(f.1,y)else f) (g.map (putAt k u)):=by induction r with|nil=>exact .nil|@cons p q s o a t m=>
 rw[E_,E_];refine .cons ?_ m;obtain⟨d,i,n⟩:=a;unfold putAt;by_cases e:p.1=k;·rw[if_pos e,if_pos (d.symm.trans e)];exact⟨d,i,j⟩
 ·rw[if_neg e,if_neg (λz=>e (d.trans z))];exact⟨d,i,n⟩
theorem KT.put{a:List (List ô×V)}{d:List (List ô×O×B)}(r:KT h a d)(k:List ô){b:O}{y:V}{u:B}(i:h b=Z (.tup (k.map kV)))(f:Ø y u):KT h (tG a k y) (storedH d k b u):=by
 have e:(a.any λg=>t_ (g.1=k))=(Y' d k).isSome:=by rw[vm,(r.val k).isSome_eq,Option.isSome_map]
 unfold tG storedH;rw[e];by_cases q:(Y' d k).isSome=L;·rw[if_pos q,if_pos q];exact r.repl k f
 ·rw[if_neg q,if_neg q];exact Paired.snoc r ⟨rfl,i,f⟩
theorem KT.keeps{a:List (List ô×V)}{e:List (List ô×O×B)}(r:KT h a e)(f:∀b d,h b=Z (.tup d)->Β b=Z (.tup d)):KT Β a e:=Paired.mapP r λ_ _ z=>⟨z.1,f _ _ z.2.1,z.2.2⟩
theorem L4{u:HO}(b:ĉ s r h I)(a:Rd h e u):å s r h I e u:=a.ok b
theorem Hx{b:List (ô×V)}(f:ĉ s r h I)(a:Rd h e (.dK b)):b.length<=sizeLine/\(e==V8)=D/\∃d,KV b d/\I.DictOf (dk s r) e d:=show å s r h I e (.dK b)from L4 f a
theorem Qu{b:List (ô×V)}(f:ĉ s r h I)(a:h e=Z (.dK b)):b.length<=sizeLine/\(e==V8)=D/\∃d,KV b d/\I.DictOf (dk s r) e d:=Hx f (.inl a)
theorem iJ{d:List ô}(g:ĉ s r h I)(b:h e=Z (.tup (d.map kV))):(Ze (dk s r)).is I d e:=by obtain⟨_,f,a,o,k,j,n,i⟩:=(show å s r h I e (.tup (d.map kV))from g e _ b);exact⟨o,f.toArray,n,k,j,i,by simpa using rG a⟩
theorem Hy{d:List (List ô×V)}(i:ĉ s r h I)(a:Rd h e (.dT d)):d.length<=sizeLine/\(e==V8)=D/\∃g,KT h d g/\I.DictOfH (Ze (dk s r)) e g:=by
 obtain⟨z,y,g,b,o,E,H,A,w,v,u,n⟩:=(show å s r h I e (.dT d)from L4 i a);refine⟨z,y,g,b,o,E,H,A,w,v,u,λx f=>?_,n⟩;have all:∀{l:List (List ô×V)}{m:List (List ô×O×B)},KT h l m->∀x∈m,(Ze (dk s r)).is I x.1 x.2.1:=by intro l m q;induction q with|nil=>intro x f;exact nomatch f|@cons p q P N j t k=>
  intro x f;rcases uk.mp f with a|f;·subst a;exact iJ i (by rw[<-j.1];exact j.2.1)
  ·exact k x f
 exact all b x f
theorem L5{b:List (List ô×V)}(f:ĉ s r h I)(a:h e=Z (.dT b)):b.length<=sizeLine/\(e==V8)=D/\∃d,KT h b d/\I.DictOfH (Ze (dk s r)) e d:=Hy f (.inl a)
def ş(H:Hp)(a:O)(y:V)(r:Option V):Prop:=(∃d k,Rd H a (.dK d)/\y=kV k/\r=rF d k)\/∃d k b,Rd H a (.dT d)/\y=.ref b/\H b=Z (.tup (k.map kV))/\r=rF d k
def ţ(H:Hp)(a:O)(y v:V)(e:Hp):Prop:=(∃d k,H a=Z (.dK d)/\y=kV k/\d.length<sizeLine/\e=Þ H a (.dK (tG d k v)))\/∃d k b,H a=Z (.dT d)/\y=.ref b/\H b=Z (.tup (k.map kV))/\d.length<sizeLine/\e=Þ H a (.dT (tG d k v))
theorem ş.t{b:List (List ô×V)}{k:List ô}(a:h e=Z (.dT b))(d:h z=Z (.tup (k.map kV))):ş h e (.ref z) (rF b k):=.inr ⟨b,k,z,.inl a,rfl,d,rfl⟩
theorem ţ.t{b:List (List ô×V)}{k:List ô}(a:h e=Z (.dT b))(f:h z=Z (.tup (k.map kV)))(d:b.length<sizeLine):ţ h e (.ref z) ψ (Þ h e (.dT (tG b k ψ))):=.inr ⟨b,k,z,a,rfl,f,d,rfl⟩
theorem Í.big(I:Í a P Φ h f):V8<f.heap.objs.size:=by have b:B_<f.heap.objs.size:=(I.mod.glob.keeps I.bk).lt;exact ZH (by decide) b
theorem zv{i:HO}(g:Í a P Φ h f)(k:Mut (h e))(m:V2 e f.heap I)(n:∃q,I.get? e=Z q)(j:å a.prog a.w (Þ h e i) I e i):Í a P Φ (Þ h e i) {f with heap:=I,toks:=b}:=g.write (x:=e) (e:=e) k (.inl rfl) (λd q o z=>(m.2 d o).trans z) n j
theorem L6{a:List (ô×V)}{b:List (ô×B)}(z:a.length<=sizeLine)(f:(e==V8)=D)(d:KV a b)(g:I.DictOf (dk s r) e b):å s r h I e (.dK a):=⟨z,f,b,d,g⟩
theorem zw{v:V}{r:B}{Q:Unit->ge->Prop}(hu:N.units+1<cLine)(I:Í a P Φ h f)(g:ţ h e ψ v Β)(ry:Ø ψ ω)(rv:Ø v r)(i:∀H,Í a P Φ Β H->Q () H):u_ (D_ a.prog a.w) N (setItem (.ref e) ω r) Q χ f:=by
 rcases g with⟨m,k,d,y,l,A⟩|⟨m,k,b,d,y,eb,l,A⟩
 · subst y A;obtain⟨z,w,vs,j,E⟩:=Qu I.hok d;have p:vs.length<=sizeLine:=by rw[<-j.length];exact z
   have u:(tG m k v).length<=sizeLine:=by have:=mB m k v;omega
   refine wpAny_setItem_pairs (hsz:=p) (Hw ry) E λh' n s=>i _ ?_;have he:∃q,h'.get? e=Z q:=let⟨q,_,_,o,_⟩:=n;⟨q,o⟩;exact zv I (by rw[d];exact V6) s he (L6 u w (j.put k rv) n)
 · subst y A;cases(show ω=z_ b from ry);obtain⟨z,w,xs,j,E⟩:=L5 I.hok d;have p:xs.length<=sizeLine:=by rw[<-Y9 j];exact z
   have u:(tG m k v).length<=sizeLine:=by have:=mB m k v;omega
   refine wpAny_setItem_heap (hsz:=p) (tupleKind_room_in1 hu) (iJ I.hok eb) E λh' n s=>i _ ?_;obtain⟨q,es,ep,o,h2,h3,h4,_,h5⟩:=n;refine zv I (by rw[d];exact V6) s ⟨q,o⟩ ⟨u,w,_,(j.put k eb rv).keeps λc ys ec=>?_,q,es,ep,o,h2,h3,h4,h5⟩;rw[ax (OR ec d (λz=>nomatch z))];exact ec
def Qv(h f g:TE):TS:=λb d H=>g d H λv k=>h d k λx j=>f d j λy i=>∃a e,x=.ref a/\ţ i a y v e/\b.nx d e
theorem Hz{n o:TE}(hu:a.A.units+1<cLine)(ho:PE a g Χ)(hi:PE a u n)(hv:PE a Á o)(hs:Ux Á (Z (.Subscript g u v)) m.line a.env=pure D):PS a (.Assign [.Subscript g u v] Á m) (Qv Χ n o):=by intro k s j H i I h;refine wpAny_Assign_Subscript (ã (hv k s j H _ I h) λr q⟨f,H1,I1,A,P⟩=>ã (ho k q j H1 _ I1 P) λb p⟨x,H2,I2,z,N⟩=>ã (hi k p j H2 _ I2 N) λiv s3⟨y,H3,I3,w,e,H4,ex,d,E⟩=>?_) hs;subst ex;obtain rfl:b=z_ e:=z;exact zw hu I3 d w A λs4 I4=>⟨j,H4,I4,E⟩
theorem Cz(a:TC)(b:V8<a.objs.size):å s r h (a.push {cls:=.type "dict",data:=.dict #[]}) a.objs.size (.dT []):=⟨Ua _,beq_eq_false_iff_ne.mpr (Uq (TY b)),[],.nil,_,#[],0,v_ _ rfl,⟨rfl,rfl,rfl⟩,rfl,rfl,aad⟩
def L7:TE:=λ_ H Q=>∀p,H p=U->Q (.ref p) (Þ H p (.dT []))
theorem CB:PE a (.Dict [] [] m) L7:=λd s b H Q I h=>wpAny_Dict_empty ⟨.ref s.heap.objs.size,_,I.laid (a:=s.heap.objs.size) (o:=.dT []) (t':=s.toks) (λ_ _ q=>j_ _ q) (pi _) (Cz s.heap I.big),rfl,h _ (I.hok.fresh (pi _))⟩
structure M2(X:C)(o:s_)(m:Str)(apos:Pos)(e f:s_)(cpos:Pos):Prop where
 base:Uy o m X.env (eval o X.env)=eval o X.env
 few:((TW cpos (k_ [e,f] X.env)).all (λx=>!x.1)&&(Vy cpos (UN [] X.env)).all (λx=>x.1.isSome)&&t_ (([e,f]:List s_).length+([]:List VI).length+(if([]:List VI).isEmpty then 0 else 1)<30))=L
 line:(apos.endLine==cpos.line)=L
 trees:TW cpos (k_ [e,f] X.env)=[(D,eval e X.env),(D,eval f X.env)]
def IsD(H:Hp)(a:O):Prop:=(∃b,Rd H a (.dK b))\/∃b,Rd H a (.dT b)
theorem EJ(I:Í a P Φ h f)(d:IsD h e):f.TypeIs (.ref e) "dict"/\(∀b,z_ e=.ref b->∃i,f.heap.get? b=Z i/\i.dict=U)/\(e==V8)=D:=by
 rcases d with⟨o,g⟩|⟨o,g⟩;·obtain⟨_,k,r,_,j⟩:=Hx I.hok g;refine⟨j.typeIs,λb q=>?_,k⟩;cases q;obtain⟨i,_,_,n,m,_⟩:=j;exact⟨i,n,m.2.1⟩
 ·obtain⟨_,k,p,_,j⟩:=Hy I.hok g;refine⟨j.typeIs,λb q=>?_,k⟩;cases q;obtain⟨i,_,_,n,m,_⟩:=j;exact⟨i,n,m.2.1⟩
theorem L8{d:V}{r:B}{o:Option V}(E:N.units+1<cLine)(I:Í a P Φ h f)(g:ş h e ψ o)(w:Ø ψ ω)(y:Ø d r)(j:∀u v,Í a P Φ h v->Ø (o.getD d) u->Ç u v):u_ (D_ a.prog a.w) N (call (.builtin "dict.get") [.ref e,ω,r]) Ç χ f:=by
 rcases g with⟨s,k,i,q,l⟩|⟨s,k,b,i,q,H,l⟩;·subst q;obtain⟨z,p,vs,m,n⟩:=Hx I.hok i;refine call_meetsIn X2 n.typeIs ZD (Zl _ _ _) (meets_dict_get_default (dk a.prog a.w) e (Hw w) p r) ⟨_,n.mapOf,j _ _ (I.tok _) ?_⟩;rw[l];exact(m.val k).getD y
 ·subst q;cases(show ω=z_ b from w);obtain⟨z,p,A,m,n⟩:=Hy I.hok i;refine call_meetsIn X2 n.typeIs ZD (Zl _ _ _) (meetsH_dict_get_default (Ze (dk a.prog a.w)) e b p r) ⟨tupleKind_room_in1 E,k,A,iJ I.hok H,n,j _ _ (I.tok _) ?_⟩;rw[l];exact(m.val k).getD y
def L9(h f g:TE):TE:=λb H Q=>h b H λx e=>∃a,x=.ref a/\IsD e a/\f b e λy i=>g b i λz d=>∃o,ş d a y o/\Q (o.getD z) d
theorem CF{o p:TE}(hu:a.A.units+1<cLine)(ho:PE a g Χ)(he:PE a u o)(hf:PE a Á p)(b:M2 a g "get" m u Á v):PE a (.Call (.Attribute g "get" m) [u,Á] [] v) (L9 Χ o p):=by intro k s j H Q I h;refine wpAny_Call_method b.base b.few b.line Zk X2 PySem.F.type_dict_get (ã (ho k s j H _ I h) λe E⟨x,H1,q,rx,i,ex,d,q1⟩=>?_);subst ex;obtain rfl:e=z_ i:=rx;obtain⟨w,r,_⟩:=EJ q d;refine⟨w,r,?_⟩;rw[b.trees];refine Wx rfl (Yd (Ww (ã (he k E j H1 _ q q1) λiv A⟨y,H2,I2,P,q2⟩=>Ww (ã (hf k A j H2 _ I2 q2) λfv s3⟨z,H3,I3,N,ov,f,q3⟩=>XJ ?_))));exact L8 hu I3 f P N λw' s4 I4 n=>⟨_,H3,I4,n,q3⟩
end L2
namespace FD
open L2
abbrev Kv:=List (List Str×Q)
def NoD(u:HO):Prop:=∀a,u≠.dT a
mutual
theorem Ô.off{K:d_}{H g:Hp}(k:∀b u,NoD u->H b=Z u->g b=Z u):∀(d:Q)(v:V),Ô K H d v->Ô K g d v|.non,_,h=>h|.bl _,_,h=>h|.int _,_,h=>h|.str _,_,h=>h|.tup ds,v,h=>by obtain⟨a,f,r,h,q⟩:=h.tupE;exact⟨a,f,r,k _ _ (λ_ z=>by cases z) h,S.off k ds f q⟩|.lst ds,v,h=>by obtain⟨a,f,r,h,q⟩:=h.lstE;exact⟨a,f,r,k _ _ (λ_ z=>by cases z) h,S.off k ds f q⟩|.scr i,v,h=>by obtain⟨a,r,h⟩:∃a,v=.ref a/\rw K H a (i.map V.int):=h;exact⟨a,r,h.imp (λ⟨o,h⟩=>⟨o,k _ _ (λ_ z=>by cases z) h⟩) id⟩|.exn c,v,h=>by obtain⟨a,o,u,C,r,h,q⟩:∃a o u C,v=.ref a/\H a=Z (.frz o u)/\o.cls=.ref C/\Um K B_ (Ħ c)=Z (Z (.ref C)):=h;exact⟨a,o,u,C,r,k _ _ (λ_ z=>by cases z) h,q⟩|.obj c ds,v,h=>by obtain⟨a,C,j,e,r,h,n,q,l⟩:=h.objE;exact⟨a,C,j,e,r,k _ _ (λ_ z=>by cases z) h,n,S.off k ds e q,l⟩theorem S.off{K:d_}{H g:Hp}(k:∀b u,NoD u->H b=Z u->g b=Z u):∀(ds:List Q)(e:List V),S K H ds e->S K g ds e|[],_,h=>h|d::ds,e,h=>by obtain⟨v,us,r,h,q⟩:∃v us,e=v::us/\Ô K H d v/\S K H ds us:=h;exact⟨v,us,r,Ô.off k d v h,S.off k ds us q⟩end
noncomputable def kS(k:List Str):List ô:=k.map YZ
theorem zx{j:List Str}(h:kS A=kS j):A=j:=(List.map_inj_right λa b h=>Sum.inr.inj h).mp h
noncomputable def EK(a:Kv)(k:List Str)(d:Q):Kv:=if(a.any λp=>t_ (p.1=k))=L then a.map (λp=>if p.1=k then(p.1,d)else p)else a++[(k,d)]
noncomputable def zy(a:Kv)(k:List Str):Option Q:=(a.find? λp=>t_ (p.1=k)).map (·.2)
inductive KD(K:d_)(H:Hp):Kv->List (List ô×V)->Prop|nil:KD K H [] []|cons{k:List Str}{d:Q}{v:V}{kv:Kv}{kvs:List (List ô×V)}:Ô K H d v->KD K H kv kvs->KD K H ((k,d)::kv) ((kS k,v)::kvs)
theorem KD.mono{K:d_}{H e:Hp}(f:∀d v,Ô K H d v->Ô K e d v):∀{b:Kv}{a:List (List ô×V)},KD K H b a->KD K e b a|_,_,.nil=>.nil|_,_,.cons r t=>.cons (f _ _ r) (KD.mono f t)
theorem KD.length{K:d_}{H:Hp}:∀{b:Kv}{a:List (List ô×V)},KD K H b a->b.length=a.length|_,_,.nil=>rfl|_,_,.cons r t=>by rw[TQ,TQ,KD.length t]
theorem KD.any{K:d_}{H:Hp}(k:List Str):∀{b:Kv}{a:List (List ô×V)},KD K H b a->(a.any λp=>t_ (p.1=kS k))=b.any λp=>t_ (p.1=k)|_,_,.nil=>rfl|_,_,.cons (k:=j) r t=>by rw[Vt,Vt,KD.any k t];congr 1;show t_ (kS j=kS k)=t_ (j=k);rw[Vc];simp only[decide_eq_true_eq];exact⟨zx,λh=>by rw[h]⟩
theorem KD.map{K:d_}{H:Hp}{k:List Str}{d:Q}{v:V}(b:Ô K H d v):∀{e:Kv}{a:List (List ô×V)},KD K H e a->KD K H (e.map λp=>if p.1=k then(p.1,d)else p) (a.map λp=>if p.1=kS k then(p.1,v)else p)
 |_,_,.nil=>.nil|_,_,.cons (k:=j) r t=>by
  rw[E_,E_];by_cases h:j=k;·subst h;simp only[if_true];exact .cons b (KD.map b t)
  ·have f:¬kS j=kS k:=λz=>h (zx z);simp only[h,f,if_false];exact .cons r (KD.map b t)
theorem KD.snoc{K:d_}{H:Hp}{k:List Str}{d:Q}{v:V}(b:Ô K H d v):∀{e:Kv}{a:List (List ô×V)},KD K H e a->KD K H (e++[(k,d)]) (a++[(kS k,v)])|_,_,.nil=>.cons b .nil|_,_,.cons r t=>.cons r (KD.snoc b t)
theorem KD.put(b:Ô q h j ψ){d:Kv}{a:List (List ô×V)}(t:KD q h d a):KD q h (EK d A j) (tG a (kS A) ψ):=by
 unfold EK tG;rw[t.any A];split;·exact KD.map b t
 ·exact KD.snoc b t
theorem KD.val{K:d_}{H:Hp}(k:List Str):∀{b:Kv}{a:List (List ô×V)},KD K H b a->(match zy b k with|some d=>∃v,rF a (kS k)=Z v/\Ô K H d v|none=>rF a (kS k)=U)
 |_,_,.nil=>rfl|_,_,.cons (k:=j) (d:=d) (v:=v) (kv:=b) (kvs:=a) r t=>by
  by_cases h:j=k
  · subst h;have f:zy ((j,d)::b) j=Z d:=by simp[zy]
    have e:rF ((kS j,v)::a) (kS j)=Z v:=lJ rfl;rw[f];exact⟨v,e,r⟩
  · have f:zy ((j,d)::b) k=zy b k:=by simp[zy,VD,h]
    have e:rF ((kS j,v)::a) (kS k)=rF a (kS k):=lK λz=>h (zx z);rw[f,e];exact KD.val k t
def Ŏ(a:O)(H d:Hp):Prop:=∀b u,b≠a->H b=Z u->d b=Z u
structure T1(X:C)(i:Nat)(a:O)(H:Hp)(σ:L2.St)(ρ:Ev)(kv:Kv):Prop where
 ia:σ[i]?=Z (Z (.ref a))no:∀d,ρ[i]?≠Z (Z d)env:Ü X.K H σ ρ
 dct:∃kvs,H a=Z (.dT kvs)/\KD X.K H kv kvs
theorem T1.mono{i:Kv}(T:T1 a b e h Ι δ i)(f:Ð h Β):T1 a b e Β Ι δ i:=by obtain⟨g,k,j⟩:=T.dct;exact⟨T.ia,T.no,T.env.mono f,g,f _ _ k,j.mono λd v r=>Ô.mono f d v r⟩
theorem T1.set{i:Nat}{b:Kv}(T:T1 a i e h Ι δ b){j:Nat}(f:j≠i){d:Q}{v:V}(r:Ô a.K h d v):T1 a i e h (Ι.set j (Z v)) (δ.set j (Z d)) b:=⟨by rw[on f];exact T.ia,λg=>by rw[on f];exact T.no g,T.env.set r,T.dct⟩
theorem T1.put{i:Kv}(T:T1 a b e h Ι δ i){k:List Str}{d:Q}{v:V}{g:List (List ô×V)}(E:h e=Z (.dT g))(A:KD a.K h i g)(r:Ô a.K h d v):T1 a b e (Þ h e (.dT (tG g (kS k) v))) Ι δ (EK i k d):=by
 have m:∀f u,NoD u->h f=Z u->Þ h e (.dT (tG g (kS k) v)) f=Z u:=λf u s q=>by
  have y:f≠e:=λz=>by rw[z,E]at q;cases q;exact s _ rfl
  rw[ax y];exact q
 refine⟨T.ia,T.no,⟨T.env.len,λj H w=>?_⟩,_,av,(A.put r).mono λd v r=>Ô.off m d v r⟩;obtain⟨n,p,o⟩:=T.env.at' j H w;exact⟨n,p,Ô.off m _ _ o⟩
def Qw:Q->Option (List Str)|.tup ds=>c7 ds|_=>U
theorem zC(d:Qw j=Z A)(r:Ô q h j ψ):∃b,ψ=.ref b/\h b=Z (.tup ((kS A).map kV)):=by
 cases j<;>try(cases d;done)
 rename_i ds;obtain⟨a,f,rfl,o,n⟩:=r.tupE;refine⟨a,rfl,?_⟩;have e:∀{ds:List Q}{A:List Str}{f:List V},c7 ds=Z A->S q h ds f->f=(kS A).map kV:=by intro ds;induction ds with|nil=>intro A f d r;cases d;exact(show f=[]from r)|cons j ds m=>
  intro A f d r;obtain⟨ψ,us,rfl,i,k⟩:∃ψ us,f=ψ::us/\Ô q h j ψ/\S q h ds us:=r;cases j<;>try(cases d;done)
  rename_i z;cases g:c7 ds with|none=>simp[c7,g]at d|some p=>simp[c7,g]at d;subst d;cases(show ψ=.str z from i);rw[m g k];rfl
 rw[o,e d n]
abbrev ň:=Ev->Kv->Option Q
noncomputable def tV(X:C)(i:Nat)(g:ň):TE:=λh H Q=>∃a e f,T1 X i a H h e f/\∃d,g e f=Z d/\∀v b,Ð H b->Ô X.K b d v->Q v b
structure FV(X:C)(i:Nat)(e:s_)(g:ň):Prop where h:PE X e (tV X i g)
noncomputable def vE(f:Ò):ň:=λa _=>match f a with|some (.ok d)=>Z d|_=>U
def HB(e f:Ò):ň:=λa b=>match e a,f a with|some (.ok k),Z (.ok d)=>(match Qw k with|some k=>Z ((zy b k).getD d)|none=>U)|_,_=>U
noncomputable def oA(F:Ö)(g:ň)(f:Ò):ň:=λa b=>match g a b,f a with|some x,Z (.ok y)=>(match F [x,y]with|some (.ok d)=>Z d|_=>U)|_,_=>U
abbrev ł:=Ev->Kv->Option (Ev×Kv)
noncomputable def tDc(X:C)(i:Nat)(f:ł):TS:=λb m H=>∃a j k,T1 X i a H m j k/\∃e g,f j k=Z (e,g)/\∀d h,Ŏ a H h->T1 X i a h d e g->b.nx d h
structure FDs(X:C)(i:Nat)(st:List Us)(f:ł):Prop where h:Ļ X st (tDc X i f)
structure CG(X:C)(i:Nat)(st:Us)(f:ł):Prop where h:PS X st (tDc X i f)
def HC(e:Ò)(g:ň):ł:=λa b=>match g a b,e a with|some d,Z (.ok k)=>(match Qw k with|some k=>if b.length<100000 then Z (a,EK b k d)else U|none=>U)|_,_=>U
noncomputable def pv(j:Nat)(a:ł):List Q->ł|[],b,e=>Z (b,e)|d::ds,b,e=>match a (b.set j (Z d)) e with|some (f,g)=>pv j a ds f g|none=>U
def HE(j:Nat)(b:Ò)(a:ł):ł:=λd e=>match b d with|some (.ok (.tup ds))=>pv j a ds d e|_=>U
theorem Ŏ.refl(a:O)(H:Hp):Ŏ a H H:=λ_ _ _ h=>h
theorem Ŏ.trans{d:Hp}(p:Ŏ e h Β)(q:Ŏ e Β d):Ŏ e h d:=λb u n a=>q b u n (p b u n a)
theorem Ŏ.of(d:Ð h Β):Ŏ e h Β:=λb u _ a=>d b u a
theorem Qx(k:FE a g y):FV a b g (vE y):=⟨λm s i H Q I⟨e,j,n,T,d,f,q⟩=>k.h m s i H Q I ⟨j,T.env,by
 unfold vE at f;split at f;·rename_i o h;cases f;rw[h];exact q
 ·cases f⟩⟩
theorem Ma(hu:a.A.units+1<cLine)(hx:PE a (.Name d m) (xq b))(hk:FE a g y)(hd:FE a u É)(f:M2 a (.Name d m) "get" v g u Τ):FV a b (.Call (.Attribute (.Name d m) "get" v) [g,u] [] Τ) (HB y É):=⟨λf' s E H Q I⟨e,z,kv,T,h,j,q⟩=>by
 refine CF hu hx hk.h hd.h f f' s E H Q I ⟨.ref e,T.ia,e,rfl,?_⟩;obtain⟨w,h1,h2⟩:=T.dct;refine⟨.inr ⟨w,.inl h1⟩,z,T.env,?_⟩;unfold HB at j;split at j
 · rename_i k0 d0 e1 e2;split at j;·rename_i k ek;cases j;rw[e1];intro vk H1 r N;refine⟨z,(T.mono r).env,?_⟩;rw[e2];intro vd H2 p P;obtain⟨i,rfl,hb⟩:=zC ek (Ô.mono p _ _ N);have T2:=T.mono (r.trans p);obtain⟨n,g1,g2⟩:=T2.dct;refine⟨rF n (kS k),ş.t g1 hb,q _ H2 (r.trans p) ?_⟩;have o:=g2.val k;cases A:zy kv k with|none=>rw[A]at o;rw[o];exact P|some d1=>rw[A]at o;obtain⟨v1,e3,r3⟩:=o;rw[e3];exact r3
   ·cases j
 ·cases j⟩
theorem Mb{f:ň}(hu:a.A.units+1<cLine)(hx:PE a (.Name d v) (xq b))(hk:FE a g y)(hv:FV a b u f)(hs:Ux u (Z (.Subscript (.Name d v) g Τ)) m.line a.env=pure D:=by lk):CG a b (.Assign [.Subscript (.Name d v) g Τ] u m) (HC y f):=⟨λf' s N H n I⟨e,P,kv,T,a',b',r,q⟩=>by
 unfold HC at r;split at r
 · rename_i i k0 e1 e2;split at r
   · rename_i k ek;split at r
     · rename_i hl;cases r;refine Hz hu hx hk.h hv.h hs f' s N H n I ⟨e,P,kv,T,i,e1,λo H1 E r1=>⟨.ref e,T.ia,P,(T.mono E).env,?_⟩⟩;rw[e2];intro vk H2 A rk;obtain⟨j,rfl,hb⟩:=zC ek rk;have T2:=T.mono (E.trans A);obtain⟨w,g1,g2⟩:=T2.dct;have z:w.length<sizeLine:=by have:=g2.length;have h2:=ce (b:=w.length+1) (by omega);omega
       refine⟨e,_,rfl,ţ.t g1 hb z,q N _ (λj p hn h=>?_) (T2.put g1 g2 (Ô.mono A _ _ r1))⟩;rw[ax hn];exact A _ _ (E _ _ h)
     ·cases r
   ·cases r
 ·cases r⟩
theorem HF{f:ł}(h:CG a b Δ f):FDs a b [Δ] f:=⟨oQ h.h⟩
theorem ù.offD{K:d_}{a b:O}{H f:Hp}{e:List V}{d:List (List ô×V)}(k:Ŏ a H f)(g:H a=Z (.dT d))(h:H b=Z (.tup e)):f b=Z (.tup e):=k b _ (λz=>by rw[z,g]at h;cases h) h
theorem Mc{fb:ł}(j:Nat)(p':j≠b)(hp:WH (D_ a.prog a.w) a.A a.env a.xe)(hc:a.calm=L)(hi:FE a g y)(hg:PG a (.Name d v) (sM j))(hb:FDs a b Ψ fb)(hs:∀x,TM g a.env x=pure x:=by intro _;lk):CG a b (.For (.Name d v) g Ψ [] m) (HE j y fb):=⟨λf' s σ H k I⟨e,ρ,kv,T,e',h',hf,q⟩=>by
 refine qE hp hc (J8 hi.h) hg hb.h hs f' s σ H k I ⟨ρ,T.env,?_⟩;unfold HE at hf;split at hf
 · rename_i ds hd;rw[hd];intro o H1 s1 r1;obtain⟨f,r,rfl,h1,h2⟩:=r1.tupE;refine⟨f,rfl,⟨r,ù.of h1⟩,?_⟩;have r':=T.mono s1;have s':ds.length=r.length:=by have:=h2.length;omega
   refine⟨λn i a' H'=>i=ds.length-n/\n<=ds.length/\Ŏ e H1 H'/\H' f=Z (.tup r)/\S a.K H' ds r/\∃b' E,T1 a b e H' a' b' E/\pv j fb (ds.drop n) b' E=Z (e',h'),⟨ds.length,by simp,Ua _,Ŏ.refl e H1,h1,h2,ρ,kv,r',by simpa using hf⟩,?_⟩;rintro n i a' H'⟨rfl,hn,g',N,i',b',E,Tn,p⟩;by_cases k':n<ds.length
   · have hx:r[n]?=Z r[n]:=F_ (by omega);have l':ds[n]?=Z ds[n]:=F_ k';refine .inr ⟨⟨r,r[n],ù.of N,hx⟩,λd' P=>Ŏ e H1 P/\P f=Z (.tup r)/\S a.K P ds r/\∃w A,T1 a b e P d' w A/\pv j fb (ds.drop (n+1)) w A=Z (e',h'),λd' P z=>⟨ds.length-(n+1),by omega,rfl,k',z⟩,λx P yl=>?_⟩;obtain⟨rfl,n'⟩:=yl;have ex:=n' r (ù.of N);rw[hx]at ex;cases ex;have rd:Ô a.K P ds[n] r[n]:=FD.reps_at i' n _ _ l' hx;rw[iQ l']at p;unfold pv at p;split at p
     · rename_i w A q';refine⟨e,_,E,Tn.set p' rd,w,A,q',λt' H3 c' T3=>⟨g'.trans c',?_,?_,w,A,T3,p⟩⟩;·obtain⟨m',g1,_⟩:=Tn.dct;exact ù.offD (K:=a.K) c' g1 N
       ·obtain⟨m',g1,_⟩:=Tn.dct;exact S.off (λc u hn h=>c' c u (λz=>by rw[z,g1]at h;cases h;exact hn _ rfl) h) _ _ i'
     ·cases p
   · have o':n=ds.length:=by omega
     subst o';rw[W6]at p;cases p;exact .inl ⟨⟨r,ù.of N,by omega⟩,q a' H' ((Ŏ.of s1).trans g') Tn⟩
 ·cases hf⟩
theorem CH{g1:ň}(e:Nat)(P:List Str)(F:Ö)(h:Has a.prog a.w a.K a.mg a.base d e P F)(hr:Ý k a.A)(hk:e<=k)(hg:Gl a d)(h1:FV a b g g1)(h2:FE a u y)(hn:P.length=2:=by lk)(z:(d==("__debug__":Str))=D:=by lk)(he:k_ [g,u] a.env=(D,eval g a.env)::k_ [u] a.env:=by lk)(w:k_ [u] a.env=(D,eval u a.env)::k_ [] a.env:=by lk)(p:(TW v (k_ [u] a.env)).any (·.1)=D:=by lk):FV a b (.Call (.Name d m) [g,u] [] v) (oA F g1 y):=by
 obtain⟨f,fd,G,hm,r,hb⟩:=h;refine⟨λf' s σ H Q I⟨j,A,kv,T,n,o,q⟩=>?_⟩;unfold oA at o;split at o
 · rename_i d1 d2 q1 q2;split at o;·rename_i d' hF;cases o;refine oV (G.mono hk) hr hg hm r hb .nil Kq (kB h1.h (kB h2.h uH w) he) z he p f' s σ H Q I ⟨j,A,kv,T,d1,q1,λv1 H1 N r1=>⟨A,(T.mono N).env,?_⟩⟩;rw[q2];intro v2 H2 E r2;refine⟨[d1,d2],⟨v1,[v2],rfl,Ô.mono E _ _ r1,v2,[],rfl,r2,rfl⟩,hn.symm,?_⟩;rw[hF];exactλi H' s3 r3=>q i H' ((N.trans E).trans s3) r3
   ·cases o
 ·cases o
def zD(i:Nat)(f g:ł)(a:Ev->Kv->Option Fl):Û:=λj=>match f (j.set i U) []with|some (d,h)=>(match g d h with|some (b,e)=>a b e|none=>U)|none=>U
def tR(X:C)(i:Nat)(r:Ev->Kv->Option Fl):TS:=λb g H=>∃a e f d,T1 X i a H g e f/\Ð d H/\d a=U/\ø X d (r e f) b
structure FR(X:C)(i:Nat)(sts:List Us)(r:Ev->Kv->Option Fl):Prop where h:Ļ X sts (tR X i r)
theorem CI{s2:Us}{f1 R:ł}{r:Ev->Kv->Option Fl}(hN:a.N.Nodup)(hi:a.N[b]?=Z d)(hx:Ł a.env.scope d)(h1:CG a b Δ f1)(h2:CG a b s2 R)(hr:FR a b Ψ r)(hs:Ux (.Dict [] [] Τ) (Z (.Name d v)) m.line a.env=pure D:=by lk)(hf:a.fn d=L\/a.env.scope.names.lookup d=Z .local:=by first|exact .inl rfl|exact .inr rfl|assumption):ġ a (.Assign [.Name d v] (.Dict [] [] Τ) m::Δ::s2::Ψ) (zD b f1 R r):=⟨λf' s A H h I⟨N,E,o⟩=>by
 refine gC (nK (b:=b) hN hi hx CB hs hf) (gC h1.h (gC h2.h hr.h)) f' s A H h I λp P=>?_;have c':b<A.length:=by rw[I.len];exact(G_.mp hi).1
 have s0:Ð H (Þ H p (.dT [])):=aH P _;have T0:T1 a b p (Þ H p (.dT [])) (A.set b (Z (.ref p))) (N.set b U) []:=by
  have E1:=(E.mono s0).fgt1 b;refine⟨w_ c',λf=>?_,⟨by rw[Uc];exact E1.len,λj f i=>?_⟩,[],av,.nil⟩
  · by_cases hl:b<N.length;·rw[w_ hl];exactλz=>by cases z
    ·rw[Uw (by rw[Uc];omega)];exactλz=>by cases z
  · have d':b≠j:=λz=>by
     subst z;by_cases hl:b<N.length;·rw[w_ hl]at i;cases i
     ·rw[Uw (by rw[Uc];omega)]at i;cases i
    obtain⟨g,q1,q2⟩:=E1.at' j f i;exact⟨g,by rw[on d'];exact q1,q2⟩
 unfold zD at o;split at o
 · rename_i n w e1;split at o
   · rename_i k q e2;refine⟨p,_,[],T0,n,w,e1,λi' H1 b' g'=>⟨p,n,w,g',k,q,e2,λh' H2 a' e'=>⟨p,k,q,H,e',λe u hb=>?_,P,o⟩⟩⟩;have y:e≠p:=λz=>by rw[z,P]at hb;cases hb
     exact a' e u y (b' e u y (s0 e u hb))
   ·exact o.elim
 ·exact o.elim⟩
open TS
theorem zE{h:Array DictEntry}{o:Obj}(a:f.heap.IsValuesView e z)(d:f.heap.get? z=Z o)(g:o.data=.dict h b)(i:Ç (.ref f.heap.objs.size) {f with heap:=f.heap.push {cls:=.type "dict_valueiterator",data:=.fields #[.ref z,.int 0 0,.int h.size 0,.int b 0]}}):u_ (D_ s r) N (pyIter (.ref e)) Ç χ f:=by obtain⟨m,k,n,j⟩:=id a;refine wpAny_pyIter_slot a.typeIs Yc (U4 Yc a.typeIs PySem.F.entry_dict_values_iter ?_ (PySem.F.args_dict_values_iter_1 _));unfold Wc.«dict_values.__iter__»;refine e_ (l_ (e_ ?_));unfold abV;refine e_ (UX k j (x:=.ref z) rfl (l_ (e_ ?_)));unfold abg;refine e_ (Y0 d g (e_ (ZL d g ?_)));simp only[show WD "dict_valueiterator"=D by decide,xy,if_false];refine UM (l_ ⟨_,rfl,"dict_valueiterator",_,⟨_,v_ _ rfl,rfl⟩,UG.lookup,?_⟩);simpa[YG]using i
theorem zF{h:Array DictEntry}{o:Obj}{Q:Option B->ge->Prop}(a:f.heap.IsValIter z e k h.size b)(i:f.heap.get? e=Z o)(j:o.data=.dict h b)(q:(h[k]?).map (·.val)=Z ω)(w:∀p,p.IsValIter z e (k+1) h.size b->V2 z f.heap p->Q (Z ω) {f with heap:=p}):u_ (D_ s r) N (Yj (.ref z)) Q χ f:=by
 obtain⟨A,n,v,g⟩:=id a;unfold Yj;refine e_ (Xb (UJ (name:=b_ "__next__") a.typeIs UG (U4 UG a.typeIs W1 ?_ (WV _))));refine e_ (l_ (e_ (e_ ?_)));first|refine e_ (Vw a.typeIs (l_ (e_ (YF n g ?_))))|refine e_ (V7 a.typeIs (l_ (e_ (YF n g ?_))))
 have m:WD "dict_valueiterator"=D:=by decide+kernel
 simp only[m,if_false,xy];show u_ _ _ (if(z_ e==.none)=L then _ else _) _ _ f;rw[if_neg (show¬((z_ e==.none)=L)from nofun)];refine e_ (l_ (e_ (Y0 i j ?_)));rw[if_neg (by simp)];refine e_ (l_ (e_ (ZL i j ?_)));rw[if_neg (by simp)];refine l_ ?_;obtain⟨y,u,rfl⟩:=VJ.mp q;simp only[if_false,show¬((k:Int)<0)from by omega,XX,u];refine e_ ?_;first|refine e_ (Vw a.typeIs (l_ (e_ (WJ a.typeIs ?_))))|refine e_ (V7 a.typeIs (l_ (e_ (WJ a.typeIs ?_))))
 show u_ _ _ (setField (.ref z) 1 (YG ((k:Int)+1))>>=_) _ _ f;refine e_ (YE n g (by simp) ?_);have d:(f.heap.update z (aaB (·.setIfInBounds 1 (YG ((k:Int)+1))))).IsValIter z e (k+1) h.size b:=⟨_,WK _ n (Z0 (Xl g _)),(aaU ..).trans v,by rw[Xl g];simp[YG]⟩;refine e_ (U9 (e_ (WJ (s:={f with heap:=f.heap.update z (aaB (·.setIfInBounds 1 (YG ((k:Int)+1))))}) d.typeIs (e_ (WJ (s:={f with heap:=f.heap.update z (aaB (·.setIfInBounds 1 (YG ((k:Int)+1))))}) d.typeIs ?_)))));show u_ _ _ (pure y.val) _ _ _;exact l_ (l_ ⟨_,rfl,l_ (w _ d (VH ..))⟩)
theorem CL{m:Array DictEntry}{o:Obj}{Q:Option B->ge->Prop}(q:N.handled=U)(a:f.heap.IsValIter z e k m.size b)(d:f.heap.get? e=Z o)(g:o.data=.dict m b)(p:m.size<=k)(u:∀n,Heap.ExtBut z f.heap n->Q U {f with heap:=n}):u_ (D_ s r) N (Yj (.ref z)) Q χ f:=by
 obtain⟨v,i,w,j⟩:=id a;unfold Yj;refine e_ (Xb (UJ (name:=b_ "__next__") a.typeIs UG (U4 UG a.typeIs W1 ?_ (WV _))));refine e_ (l_ (e_ (e_ ?_)));first|refine e_ (Vw a.typeIs (l_ (e_ (YF i j ?_))))|refine e_ (V7 a.typeIs (l_ (e_ (YF i j ?_))))
 have h:WD "dict_valueiterator"=D:=by decide+kernel
 simp only[h,if_false,xy];show u_ _ _ (if(z_ e==.none)=L then _ else _) _ _ f;rw[if_neg (show¬((z_ e==.none)=L)from nofun)];refine e_ (l_ (e_ (Y0 d g ?_)));rw[if_neg (by simp)];refine e_ (l_ (e_ (ZL d g ?_)));rw[if_neg (by simp)];refine l_ ?_;simp only[if_false,show¬((k:Int)<0)from by omega,XX,Array.getElem?_eq_none p];refine e_ ?_;first|refine e_ (Vw a.typeIs (l_ ?_))|refine e_ (V7 a.typeIs (l_ ?_))
 show u_ _ _ (setField (.ref z) 0 .none>>=_) _ _ f;refine e_ (YE i j (by simp) ?_);show u_ _ _ (newExc (.type "StopIteration") []>>=_) _ _ _;refine e_ ?_;simp only[newTuple,newExc];refine e_ (UM ?_ (by size_fits));refine e_ (m:=YH _ _) (abl (a:=J_) (by first|(simp only[YH];rfl)|rfl) (UM ?_ (by size_fits)));simp only[raiseNew];refine e_ (wpAny_handled ?_);rw[show N.in1.handled=U from q];refine e_ (l_ (wpAny_throw ?_));refine e_ (wpAny_isInstance (T:="StopIteration") (b:=L) ⟨_,v_ _ rfl,rfl⟩ isSubtype_stop ?_);exact l_ (u _ (((VH ..).extBut.push _).push _))
theorem zI(H:N.handled=U)(I d:O)(q:d≠I)(m:Array DictEntry)(z:Nat):Walks s r N I [I,d] [I] m.size (λi v=>(m[i]?).map (·.val)=Z v) (λi h=>h.IsValIter I d i m.size z/\∃o,h.get? d=Z o/\o.data=.dict m z)where
 sub:=λb k=>by simp at k;simp[k]
 frame:=λ_ _ _⟨st,o,j,g⟩y=>⟨st.at λo e=>y I (by simp) o e,o,y d (by simp) o j,g⟩;item:=λi f Q E A⟨st,o,j,g⟩n=>by
  have w:(m[i]?).map (·.val)=Z m[i].val:=by simp[A]
  refine zF st j g w λp a b=>?_;exact n _ p f.toks w ⟨a,o,b.extBut d o q j,g⟩ λP o k e=>b.extBut P o (λh=>k (by simp[h])) e
 done:=λf Q E⟨st,o,j,g⟩n=>CL H st j g (pi _) λp u=>n p f.toks λb o k e=>u b o (λh=>k (by simp[h])) e;self:=λ_ _ _ _⟨st,_⟩n=>wpAny_pyIter_valiter st n
theorem CM(a d:O)(e:Array DictEntry)(m:Nat):PySem.W.KdlSrc s r "dict_values" a d e.size (λi v=>(e[i]?).map (·.val)=Z v) (λh=>h.IsValuesView a d/\∃o,h.get? d=Z o/\o.data=.dict e m)where
 type:=λ_ g=>g.1.typeIs;there:=λ_⟨⟨_,u,_⟩,_,b,_⟩=>⟨y_ u,y_ b⟩;keep:=λ_ _⟨⟨o,p,x⟩,j,b,y⟩k=>⟨⟨o,k a (.inl rfl) o p,x⟩,j,k d (.inr rfl) j b,y⟩;notList:=by decide
 notTuple:=by decide
 hint:=λ_ _ _ _ g f=>PySem.W.kdl_hint_values g.1.typeIs f;iter:=λ_ _ q⟨n,o,b,y⟩=>⟨_,_,(λ_ _ f=>zE n b y f),zI q _ d (TY (y_ b)) e m,⟨⟨_,v_ _ rfl,rfl,rfl⟩,o,j_ _ b,y⟩⟩
theorem rH{k:Array DictEntry}{o:Obj}{R:List B->ge->Prop}(w:N.handled=U)(n:f.heap.IsValuesView z e)(u:f.heap.get? e=Z o)(y:o.data=.dict k b)(v:k.size<=sizeLine)(q:z+1=f.heap.objs.size)(h:∀i m,(∀a o,f.heap.get? a=Z o->i.get? a=Z o)->f.heap.objs.size<=i.objs.size->R (k.toList.map (·.val)) {f with heap:=i,toks:=m}):u_ (D_ s r) N (collect (.ref z)) R χ f:=by
 refine PySem.W.kdu_collect (CM z e k b) w ⟨n,o,u,y⟩ v λi m g up it=>?_;have d:g.toList=k.toList.map (·.val):=by
  apply aa3;intro j;have H:=it.1;by_cases p:j<g.size;·have:=it.2 j g[j] (by simp[p]);simp only[VT,L_];rw[this];simp[p]
  ·rw[Uw (by simp;omega),Uw (by simp;omega)]
 rw[d];refine h i m up ?_;obtain⟨E,A,_⟩:=n;exact q▸Nat.succ_le_of_lt (y_ (up _ _ A))
theorem zJ(a:f.TypeIs (.ref e) "dict")(b:(e==V8)=D)(h:Ç (.ref f.heap.objs.size) {f with heap:=f.heap.push {cls:=.type "dict_values",data:=.fields #[.ref e]}}):u_ (D_ s r) N (call (.builtin "dict.values") [.ref e]) Ç χ f:=by refine U4 Za a PySem.F.entry_dict_values ?_ (PySem.F.args_dict_values_1 _);refine e_ ?_;unfold Builtin.Dict.noArgs;refine e_ (wpAny_notOrdered_dict a ?_);show u_ _ _ (pure e) _ _ f;refine l_ ?_;show u_ _ _ (Z1 e>>=_) _ _ f;unfold Z1;rw[if_neg (by rw[b];exact nofun)];exact e_ (l_ (e_ (UM (l_ ⟨_,rfl,h⟩))))
structure M0(X:C)(o:s_)(m:Str)(apos cpos:Pos):Prop where
 base:Uy o m X.env (eval o X.env)=eval o X.env
 few:((TW cpos (k_ [] X.env)).all (λx=>!x.1)&&(Vy cpos (UN [] X.env)).all (λx=>x.1.isSome)&&t_ (([]:List s_).length+([]:List VI).length+(if([]:List VI).isEmpty then 0 else 1)<30))=L
 line:(apos.endLine==cpos.line)=L
 trees:TW cpos (k_ [] X.env)=[]
def oE(F:Ö):ň:=λ_ a=>match vg F (a.map (·.2))with|some (.ok d)=>Z d|_=>U
theorem KD.reps{K:d_}{H:Hp}:∀{b:Kv}{a:List (List ô×V)},KD K H b a->S K H (b.map (·.2)) (a.map (·.2))|_,_,.nil=>rfl|_,_,.cons r t=>⟨_,_,rfl,r,KD.reps t⟩
theorem HG{b:List (List ô×V)}{d:List (List ô×O×B)}(r:KT h b d):Ñ (b.map (·.2)) (d.map (·.2.2)):=by induction r with|nil=>exact .nil|cons a _ e=>exact .cons a.2.2 e
theorem CN{p p2 kp y:Pos}(i:Nat)(ps:List Str)(F:Ö)(h:Has a.prog a.w a.K a.mg a.base o i ps F)(hr:Ý k a.A)(hk:i+2<=k)(h1:ps.length=1)(hg:Gl a "sorted")(hm:a.mg "sorted"=U)(p':Gl a o)(hx:PE a (.Name d m) (xq b))(e:M0 a (.Name d m) "values" v Τ)(q':(o==("__debug__":Str))=D:=by lk)(he:TW y (k_ [.Call (.Attribute (.Name d m) "values" v) [] [] Τ] a.env)=(D,eval (.Call (.Attribute (.Name d m) "values" v) [] [] Τ) a.env)::TW y (k_ [] a.env):=by lk)(E:(TW y (k_ [.Call (.Attribute (.Name d m) "values" v) [] [] Τ] a.env)).any (·.1)=D:=by lk)(a':TW y (k_ [] a.env)=[]:=by lk)(c':(Vy y (UN [⟨Z "key",.Name o p2,kp⟩] a.env)).all (·.1.isSome)=L:=by lk)(o':(Vy y (UN [⟨Z "key",.Name o p2,kp⟩] a.env)).any (·.1.isNone)=D:=by lk)(m':(Vy y (UN [⟨Z "key",.Name o p2,kp⟩] a.env)).filterMap (·.1)=[b_ "key"]:=by lk):FV a b (.Call (.Name "sorted" p) [.Call (.Attribute (.Name d m) "values" v) [] [] Τ] [⟨Z "key",.Name o p2,kp⟩] y) (oE F):=⟨λf' s σ H Q I⟨f,ρ,kv,T,r,hd,q⟩=>by
 obtain⟨fa,fd,G,n',s',hb⟩:=h;refine Vm (iP I hg hm (ω:=.builtin "sorted") (by decide+kernel) ?_ (by decide) (by decide));refine callWith_kw ?_ he E c' o';rw[he,a'];refine Ww ?_;refine wpAny_Call_method e.base e.few e.line Zk Za PySem.F.type_dict_values (ã (hx f' s σ H (λg H'=>g=.ref f/\H'=H) I ⟨.ref f,T.ia,rfl,rfl⟩) λu s1⟨g,H1,I1,rx,e1,e2⟩=>?_);subst e1 e2;obtain rfl:u=z_ f:=rx;obtain⟨h',g1,g2⟩:=T.dct;obtain⟨t1,t2,t3⟩:=EJ I1 (.inr ⟨h',.inl g1⟩);refine⟨t1,t2,?_⟩;rw[e.trees];refine Wx rfl (aak (zJ t1 t3 (XJ ?_)));obtain⟨hz,_,xs,kt,n,es,ep,ho,hex,b',P,_⟩:=L5 I1.hok g1;have I2:=I1.kept (t':=s1.toks) (h':=s1.heap.push {cls:=.type "dict_values",data:=.fields #[.ref f]}) λw u q=>j_ _ q;refine kws_cons (kA I2 p' n' (kws_nil ?_) q');rw[m'];show u_ _ _ (call (.builtin "sorted") [.ref s1.heap.objs.size] [(b_ "key",.ref fa)]) _ _ _;unfold oE vg at hd;split at hd
 · rename_i d' A;cases hd;split at A
   · rename_i r' N;split at A
     · rename_i z;cases A;have l':es.size=xs.length:=by have:=congrArg Yh P;simpa using this
       have i':es.toList.map (·.val)=xs.map (·.2.2):=by rw[P,UQ];rfl
       have rr:=KD.reps g2;refine Ck (θ:=es.toList.map (·.val)) G (hr.mono hk) hb h1 I2 (λQ' hQ=>rH (hr.hd) ⟨_,v_ _ rfl,rfl,rfl⟩ (j_ _ ho) b' ?_ ?_ hQ) (by rw[i'];exact HG kt) rr N z.1 z.2.1 z.2.2 λj e' H' sm hL g'=>q _ _ sm ⟨j,e',rfl,hL,g'⟩;·rw[l'];have:=Y9 kt;omega
       ·rw[Ur]
     ·cases A
   ·cases A
 ·cases hd⟩
noncomputable def Md(j:Nat)(g:ň)(f:Û):Ev->Kv->Option Fl:=λa b=>match g a b with|some d=>f (a.set j (Z d))|none=>U
theorem Me{e:ň}(j:Nat){y:Str}{i:Pos}(hN:a.N.Nodup)(E:a.N[j]?=Z y)(w:Ł a.env.scope y)(P:FV a b g e)(A:ġ a Ψ Ρ)(z:Ux g (Z (.Name y i)) m.line a.env=pure D:=by lk)(N:a.fn y=L\/a.env.scope.names.lookup y=Z .local:=by first|exact .inl rfl|exact .inr rfl|assumption):FR a b (.Assign [.Name y i] g m::Ψ) (Md j e Ρ):=⟨λf' s n H h I⟨f,p,u,H0,T,q,h0,o⟩=>by
 unfold Md at o;split at o;·rename_i d hd;exact gC (nK hN E w P.h z N) A.h f' s n H h I ⟨f,p,u,T,d,hd,λv H' k r=>⟨_,(T.env.mono k).set r,ø.mono (q.trans k) o⟩⟩
 ·exact o.elim⟩
theorem zK{e:Us}{g f:ł}{r:Ev->Kv->Option Fl}(q:CG a b Δ g)(p:CG a b e f)(j:FR a b Ψ r)(o:ģ a.N=L:=by lk)(k:a.N[b]?=Z d:=by lk)(h:jA a.env.scope d=L:=by lk)(n:a.fn d=L:=by lk)(i:Ux (.Dict [] [] v) (Z (.Name d m)) Τ.line a.env=pure D:=by lk):ġ a (.Assign [.Name d m] (.Dict [] [] v) Τ::Δ::e::Ψ) (zD b g f r):=CI (iN o) k (fq h) q p j i (.inl n)
theorem HH{f:ł}(j:WH (D_ a.prog a.w) a.A a.env a.xe)(o:FE a g y)(r:FDs a b Ψ f)(e:WB k b=D:=by lk)(q:a.calm=L:=by lk)(s:ģ a.N=L:=by lk)(h:a.N[k]?=Z d:=by lk)(n:jA a.env.scope d=L:=by lk)(p:a.fn d=L:=by lk)(i:∀x,TM g a.env x=pure x:=by intro _;lk):CG a b (.For (.Name d m) g Ψ [] v) (HE k y f):=Mc k (XO e) j q o (gL (iN s) h (fq n) (.inl p)) r i
theorem HI{e:ň}(p:a.A.units+64<cLine)(k:FE a u y)(i:FV a b g e)(o:a.N[b]?=Z d:=by lk)(h:jA a.env.scope d=L:=by lk)(n:(d==("__debug__":Str))=D:=by lk)(f:(d==("__classdict__":Str))=D:=by lk)(j:Ux g (Z (.Subscript (.Name d m) u Τ)) v.line a.env=pure D:=by lk):CG a b (.Assign [.Subscript (.Name d m) u Τ] g v) (HC y e):=Mb (by omega) (kO o h n f) k i j
theorem HJ(o:a.A.units+64<cLine)(j:FE a g y)(k:FE a u É)(n:a.N[b]?=Z d:=by lk)(i:jA a.env.scope d=L:=by lk)(f:(d==("__debug__":Str))=D:=by lk)(h:(d==("__classdict__":Str))=D:=by lk)(e:M2 a (.Name d m) "get" v g u Τ:=by exact⟨by lk,by lk,by lk,by lk⟩):FV a b (.Call (.Attribute (.Name d m) "get" v) [g,u] [] Τ) (HB y É):=Ma (by omega) (kO n i f h) j k e
theorem zL{T:cg}{o:ň}(w:HA a.prog a.w a.K a.mg a.base T)(p:Ý k a.A)(f:(T.lookup d).map (λq=>q.2.2)=Z À)(A:FV a b g o)(z:FE a u y)(e:((T.lookup d).all λq=>YD q.1 k&&WB q.2.1.length 2)=L:=by lk)(r:a.env.kindOf d=Z .globalImplicit:=by lk)(n:(d==("__debug__":Str))=D:=by lk)(s:k_ [g,u] a.env=(D,eval g a.env)::k_ [u] a.env:=by lk)(j:k_ [u] a.env=(D,eval u a.env)::k_ [] a.env:=by lk)(i:(TW m (k_ [u] a.env)).any (·.1)=D:=by lk):FV a b (.Call (.Name d v) [g,u] [] m) (oA À o y):=by cases h:T.lookup d with|none=>rw[h]at f;cases f|some q=>rw[h]at f e;cases f;rw[Vk,m_]at e;exact CH q.1 q.2.1 q.2.2 (w.h d q h) p (Ut e.1) r A z (Uu e.2) n s j i
theorem zM{T:cg}{e:Hm}{g p n r:Pos}(hT:HA a.prog a.w a.K a.mg a.base T)(hM:MA a.mg e)(N:Ý k a.A)(u:(T.lookup o).map (λq=>q.2.2)=Z À)(s:((T.lookup o).all λq=>YD (q.1+2) k&&WB q.2.1.length 1)=L:=by lk)(hg:a.env.kindOf (b_ "sorted")=Z .globalImplicit:=by lk)(P:e.lookup (b_ "sorted")=Z U:=by lk)(A:a.env.kindOf o=Z .globalImplicit:=by lk)(hN:a.N[b]?=Z d:=by lk)(I:jA a.env.scope d=L:=by lk)(hd:(d==("__debug__":Str))=D:=by lk)(H:(d==("__classdict__":Str))=D:=by lk)(f:M0 a (.Name d m) "values" Τ g:=by exact⟨by lk,by lk,by lk,by lk⟩)(E:(o==("__debug__":Str))=D:=by lk)(he:TW v (k_ [.Call (.Attribute (.Name d m) "values" Τ) [] [] g] a.env)=(D,eval (.Call (.Attribute (.Name d m) "values" Τ) [] [] g) a.env)::TW v (k_ [] a.env):=by lk)(h:(TW v (k_ [.Call (.Attribute (.Name d m) "values" Τ) [] [] g] a.env)).any (·.1)=D:=by lk)(i:TW v (k_ [] a.env)=[]:=by lk)(j:(Vy v (UN [⟨Z "key",.Name o n,r⟩] a.env)).all (·.1.isSome)=L:=by lk)(z:(Vy v (UN [⟨Z "key",.Name o n,r⟩] a.env)).any (·.1.isNone)=D:=by lk)(y:(Vy v (UN [⟨Z "key",.Name o n,r⟩] a.env)).filterMap (·.1)=[b_ "key"]:=by lk):FV a b (.Call (.Name "sorted" p) [.Call (.Attribute (.Name d m) "values" Τ) [] [] g] [⟨Z "key",.Name o n,r⟩] v) (oE À):=by cases w:T.lookup o with|none=>rw[w]at u;cases u|some q=>rw[w]at u s;cases u;rw[Vk,m_]at s;exact CN q.1 q.2.1 q.2.2 (hT.h o q w) N (Ut s.1) (Uu s.2) hg (hM.no P) A (kO hN I hd H) f E he h i j z y
theorem HK{e:ň}(o:FV a b g e)(i:ġ a Ψ Ρ)(p:ģ a.N=L:=by lk)(j:a.N[k]?=Z d:=by lk)(f:jA a.env.scope d=L:=by lk)(n:a.fn d=L:=by lk)(h:Ux g (Z (.Name d v)) m.line a.env=pure D:=by lk):FR a b (.Assign [.Name d v] g m::Ψ) (Md k e Ρ):=Me k (iN p) j (fq f) o i h (.inl n)
end FD
namespace TS
open FD
end TS
namespace FD
open L2 TS
def TBL(P:O)(q:Str)(H:Hp):Prop:=∃a t,H P=Z (.tbl a)/\a[0]?=Z (.str q t)
def spT(b:O)(q:Str)(K:d_)(F:Ö)(n:Nat):Sp:=λa H Q E=>TBL b q H/\Ņ K F n a H Q E
noncomputable def bmB(K:d_):Bool:=match Um K B_ "__builtins__"with|some (Z (.ref a))=>(match K.lookup a with|some ⟨.type "module",Z d,.plain,_⟩=>WB d YI&&!WB a YI&&!WB a B_|_=>D)|_=>D
open PySem.W
theorem Qy:jS (Ĺ a.prog a.w) a E0:=by intro k g H s m i I⟨e,f,n,j,os,b,un,d,F,h⟩;exact h.elim
structure CK(K:d_)(k:Nat)(C:O):Prop where
 n:Um K B_ (Ŝ k)=Z (Z (.ref C))c:Š K C
 a:∀f∈ď k,đ K C f
theorem pB{o:Type}:∀{a:List Str}{d:List o}{j:Nat}{f:Str}{v:o},a.Nodup->a[j]?=Z f->d[j]?=Z v->(a.zip d).lookup f=Z v
 |[],_,_,_,_,_,h,_=>by simp at h|n::a,[],j,f,v,_,_,h=>by simp at h|n::a,u::d,0,f,v,k,i,g=>by simp at i g;subst i g;simp[Xm,Uh]|n::a,u::d,j+1,f,v,k,i,g=>by
  have b:a[j]?=Z f:=by simpa using i
  have m:(f==n)=D:=beq_eq_false_iff_ne.mpr λe=>by subst e;exact(UV.mp k).1 (TV b)
  rw[Xm,Uh,m];exact pB (UV.mp k).2 b (by simpa using g)
theorem iT{g:Type}:∀{a:List Str}{d:List g}{f:Str},f∉a->(a.zip d).lookup f=U|[],_,_,_=>by simp|n::a,[],_,_=>by simp|n::a,u::d,f,h=>by have b:(f==n)=D:=beq_eq_false_iff_ne.mpr λe=>h (e▸q_);rw[Xm,Uh,b];exact iT λz=>h (r_ _ z)
theorem zN:∀k,(ď k).Nodup:=by intro k;unfold ď;split<;>decide
noncomputable def m7(k j:Nat):Q->Option (Rs Q)|.obj a ds=>if a=k then(match ds[j]? with|some d=>Z (.ok d)|none=>U)else U|_=>U
theorem rJ(c:CK q b e)(h:Um q B_ (Ŝ b)=Z (Z (.ref z))):z=e:=by have:=c.n.symm.trans h;simp at this;exact this.symm
theorem Mf(c:CK a.K b e)(z:(ď b)[k]?=Z d)(I:FE a g y)(P:Uy g d a.env (eval g a.env)=eval g a.env:=by lk):FE a (.Attribute g d m) (f1 (m7 b k) y):=eC (Eb I.h P) λσ H Q A E g=>⟨A,E,ð.bind g λf v p e1 r s=>by cases f with
 |obj n ds=>
 have j:ð a p (if n=b then(match ds[k]? with|some f=>Z (.ok f)|none=>U)else U) Q:=s;by_cases w:n=b;·subst w;rw[if_pos rfl]at j;obtain⟨i,C',dx,vs,rfl,h,N,q,l⟩:=r.objE;cases o:ds[k]? with|none=>rw[o]at j;exact j.elim|some f=>rw[o]at j;obtain⟨u,h1,h2⟩:=q.get' o;rw[rJ c N]at h;exact⟨i,e,dx,_,u,rfl,h,c.c,c.a d (TV z),pB (zN n) z h1,j u p (.refl p) h2⟩
 ·rw[if_neg w]at j;exact j.elim|_=>exact s.elim⟩
def MC(X:C)(o:s_)(m:Str)(e:List s_)(b a:Pos)(g:Sem Bool):Prop:=eval (.Call (.Attribute o m b) e [] a) X.env=(do
 let d<-eval o X.env
 Zu b.atName let(f,first)<-WY [d] (aah d m g)callWith a f first (TW a (k_ e X.env)) (Vy a (UN [] X.env)))
noncomputable def isO(k:Nat):Q->Bool|.obj a _=>a==k|_=>D
def dO(k:Nat)(F:Ö)(n:Nat)(b:Ò)(g:à):Ò:=λa=>Ù (b a) λx=>if isO k x=L then Ù (g a) λds=>(if ds.length=n then F (x::ds)else U)else U
structure Mg(P:n_)(w:x_)(K:d_)(mg:Str->Option B)(base:TC)(k:Nat)(C:O)(m:Str)(lv n:Nat)(F:Ö):Prop where
 c:CK K k C
 h:m∉ď k
 f:∃f fd ps,Jt K C m f/\ì P w K mg base (Ĺ P w) lv f fd ps (spE K F (n+1))/\î K fd ps []
theorem Mh(h:isO b j=L):∃ds,j=.obj b ds:=by cases j<;>simp[isO]at h;subst h;exact⟨_,rfl⟩
theorem Mi(g:Mg a.prog a.w a.K a.mg a.base b e d ι k À)(o:isO b j=L)(r:Ô a.K h j ψ):∃f i fs,ψ=.ref f/\h f=Z (.ins e i fs)/\fs.lookup d=U:=by obtain⟨ds,rfl⟩:=Mh o;obtain⟨f,s,i,p,rfl,m,n,q,l⟩:=r.objE;rw[rJ g.c n]at m;exact⟨f,i,_,rfl,m,iT g.h⟩
theorem CO{z:Sem Bool}(h:Mg a.prog a.w a.K a.mg a.base b e d k 0 À)(P:Ý ι a.A)(hk:k<=ι)(w:a.ex=[])(ho:FE a g y)(N:MC a g d [] v m z):FE a (.Call (.Attribute g d v) [] [] m) (dO b À 0 y bZ):=by
 obtain⟨f,fd,ps,hm,G,hb⟩:=h.f;refine eC (oW (k:=z) ho.h h.c.c hm (G.mono hk) P hb .nil (wm w) N) λσ H Q I E g=>⟨I,E,ð.bind g λi n u A r p=>?_⟩;by_cases q:isO b i=L
 ·rw[if_pos q]at p;obtain⟨j,dx,fs,rfl,hh,hl⟩:=Mi h q r;have o:ð a u (À [i]) Q:=p;refine⟨j,dx,fs,rfl,hh,hl,?_⟩;show spE a.K À 1 [.ref j] u Q (EX a);refine⟨[i],.cons r .nil,rfl,?_⟩;match s:À [i]with|none=>rw[s]at o;exact o.elim|some (.ok i)=>rw[s]at o;exact o|some (.exc c)=>rw[s]at o;exactλe u hC A=>⟨c,e,rfl,hC,XW.mono o A⟩
 ·rw[if_neg q]at p;exact p.elim
inductive FlC where|nx(ρ:Ev)|rt(d o:Q)|exc(c:Nat)
abbrev FnC:=Ev->Option FlC
noncomputable def nox(r:Option FlC):Option FlC:=match r with|some (.exc _)=>U|r=>r
theorem vn{y:V}:∀{a:List Str}{vs:List V}{j:Nat}{f:Str},a.Nodup->a[j]?=Z f->j<=vs.length->vs.length<=a.length->nN f y (a.zip vs)=a.zip (if j<vs.length then vs.set j y else vs++[y])
 |[],_,_,_,_,h,_,_=>by simp at h|n::a,[],j,f,_,h,d,_=>by
  have:j=0:=by simpa using d
  subst this;simp at h;subst h;simp[nN]|n::a,u::vs,0,f,_,h,_,_=>by simp at h;subst h;simp[nN]|n::a,u::vs,j+1,f,i,h,d,o=>by
  have k:a[j]?=Z f:=by simpa using h
  have g:n≠f:=λe=>(UV.mp i).1 (e▸TV k);have m:=vn (y:=y) (vs:=vs) (UV.mp i).2 k (by simpa using d) (by simpa using o);rw[Xm];show(if n=f then(n,y)::a.zip vs else(n,u)::nN f y (a.zip vs))=_;rw[if_neg g,m];by_cases b:j<vs.length;·rw[if_pos b,if_pos (by simpa using b)];simp
  ·rw[if_neg b,if_neg (by simpa using b)];simp
inductive RsC where|ok(d o:Q)|exc(c:Nat)
abbrev Mj(o:s_)(a:Env):Sem Bool:=do return(<-importBound o a).getD L
abbrev JE:=List (Str×Nat×Nat×(Ö))
structure š(P:n_)(w:x_)(K:d_)(mg:Str->Option B)(base:TC)(k:Nat)(C:O)(T:JE):Prop where h:∀m e,T.lookup m=Z e->Mg P w K mg base k C m e.1 e.2.1 e.2.2
theorem HL:š s r q Θ I b e []:=⟨λ_ _ h=>by cases h⟩
theorem vo{T:JE}(h:Mg s r q Θ I b e d k ι À)(t:š s r q Θ I b e T):š s r q Θ I b e ((d,k,ι,À)::T):=⟨λx a z=>by
 rcases gV z with⟨rfl,rfl⟩|z;·exact h
 ·exact t.h x a z⟩
theorem HM(c:CK a.K b e)(f:FE a g y)(h:(ď b)[k]?=Z d:=by lk)(i:Uy g d a.env (eval g a.env)=eval g a.env:=by lk):FE a (.Attribute g d m) (f1 (m7 b k) y):=Mf c h f i
theorem zO{T:JE}(s:š a.prog a.w a.K a.mg a.base b e T)(p:Ý k a.A)(i:(T.lookup d).map (λq=>q.2.2)=Z À)(n:a.ex=[])(r:FE a g y)(f:((T.lookup d).all λq=>YD q.1 k&&WB 0 q.2.1)=L:=by lk)(o:MC a g d [] v m (Mj g a.env):=by delta MC;lk):FE a (.Call (.Attribute g d v) [] [] m) (dO b À 0 y bZ):=by cases j:T.lookup d with|none=>rw[j]at i;cases i|some q=>rw[j]at i f;cases i;rw[Vk,m_]at f;have h:=s.h d q j;rw[<-Uu f.2]at h;exact CO h p (Ut f.1) n r o
structure Am(K:d_)(C:O)(q m:Str)(st:Us)(f:O):Prop where
 t:Jt K C m f
 F:∃fd,ļ K m q st f fd
def BdQ(x q:Str)(a:Us)(e:List Str):Prop:=∀(kV b f:B)(h:Option O)(d g:B)(us:List B),us.length=e.length->aaP (Vq x q (ik a) (bU a) (aq a) .none kV b f h d g) ⟨us,[]⟩=pure (e.zip us)
def noB(k:Nat)(m:Str):Bool:=!(ď k).contains m
theorem Ml(h:noB b d=L):d∉ď b:=λz=>by simp[noB,z]at h
theorem zP(c:CK q b e)(N g:List Str)(i:Û)(A:Am q e o d Δ z)(j:BdQ d o Δ g)(v:∀(h:B)(A:C_)(f:List Env)(a:ge)(H:Hp)(E:XK),Ý k (A.deeper (Wy o (aq Δ) a.heap.objs.size z h))->ġ (oX (Ĺ s r) s r q Θ I N o (aq Δ) z h A f a H E) (bU Δ) i)(w:À=gA N.length i:=by lk)(n:ż N g (aq Δ)=L:=by lk)(p:ι+1=g.length:=by lk)(u:noB b d=L:=by lk):Mg s r q Θ I b e d (k+1) ι À:=let⟨_,m⟩:=A.F;⟨c,Ml u,_,_,g,A.t,Ex N g i w p m (Hu n) v,m.binds j⟩
noncomputable def RZ:Option (Option B)->Bool|some U=>L|_=>D
theorem ck_mk(n:Um q B_ (Ŝ b)=Z (Z (.ref e)))(i:W0 q e Str.empty=L)(k:XA q e=L)(g:Y1 q e=L)(d:UR q (.ref e) "__setattr__"=Z (Z (.builtin "object.__setattr__")))(a:((ď b).all λf=>RZ (UR q (.ref e) f))=L):CK q b e:=⟨n,⟨i,k,g,d⟩,λf j=>by
 have h:=Ul.mp a f j;unfold RZ at h;split at h;·assumption
 ·cases h⟩
abbrev Uv:=Sum Q Nat
inductive ñ where|lst(ds:List Q)|obj(k:Nat)(fs:List Uv)
abbrev Ú:=List ñ
abbrev í:=List (Option Uv)
def Ć(K:d_)(H:Hp)(m:List O):Uv->V->Prop|.inl d,v=>Ô K H d v|.inr n,v=>∃a,m[n]?=Z a/\v=.ref a
def ä(K:d_)(H:Hp)(m:List O):List Uv->List V->Prop|[],a=>a=[]|d::ds,a=>∃v us,a=v::us/\Ć K H m d v/\ä K H m ds us
def Ķ(K:d_)(H:Hp)(m:List O)(e:Hp)(a:O):ñ->Prop|.lst ds=>∃b,e a=Z (.lst b)/\S K H ds b|.obj k fs=>∃C f d,e a=Z (.ins C f ((ď k).zip d))/\Um K B_ (Ŝ k)=Z (Z (.ref C))/\ä K H m fs d/\fs.length<=(ď k).length
structure SR(K:d_)(H:Hp)(m:List O)(S:Ú)(Hf:Hp):Prop where
 len:m.length=S.length
 nd:m.Nodup
 fr:∀a∈m,H a=U
 up:Ð H Hf
 at':∀(n:Nat)(c:ñ),S[n]?=Z c->∃a,m[n]?=Z a/\Ķ K H m Hf a c
structure ó(K:d_)(H:Hp)(m:List O)(σ:L2.St)(ρ:í):Prop where
 len:σ.length=ρ.length
 at':∀(i:Nat)(d:Uv),ρ[i]?=Z (Z d)->∃v,σ[i]?=Z (Z v)/\Ć K H m d v
theorem pC{m b:List ε}(p:m<+:b){n:Nat}{a:ε}(h:m[n]?=Z a):b[n]?=Z a:=by obtain⟨t,rfl⟩:=p;rw[I_ (G_.mp h).1];exact h
theorem Ć.mono{f:List O}(e:Ð h Β)(p:ο<+:f):∀{d:Uv}{v:V},Ć q h ο d v->Ć q Β f d v|.inl d,v,b=>Ô.mono e d v b|.inr n,v,⟨a,b,r⟩=>⟨a,pC p b,r⟩
theorem ä.mono{K:d_}{H f:Hp}{m b:List O}(e:Ð H f)(p:m<+:b):∀{ds:List Uv}{a:List V},ä K H m ds a->ä K f b ds a|[],a,h=>h|d::ds,a,⟨v,us,r,h,q⟩=>⟨v,us,r,h.mono e p,ä.mono e p q⟩
theorem ä.length{K:d_}{H:Hp}{m:List O}:∀{ds:List Uv}{a:List V},ä K H m ds a->a.length=ds.length|[],a,h=>by cases(show a=[]from h);rfl|d::ds,a,⟨v,us,r,_,q⟩=>by subst r;show us.length+1=ds.length+1;rw[ä.length q]
theorem ä.get{K:d_}{H:Hp}{m:List O}:∀{ds:List Uv}{a:List V}{i:Nat}{d:Uv},ä K H m ds a->ds[i]?=Z d->∃v,a[i]?=Z v/\Ć K H m d v|[],a,i,v,h,e=>by simp at e|d::ds,a,i,n,⟨b,us,r,g,q⟩,e=>by subst r;cases i with|zero=>simp at e;subst e;exact⟨b,rfl,g⟩|succ i=>obtain⟨k,j,f⟩:=ä.get (i:=i) q (by simpa using e);exact⟨k,by simpa using j,f⟩
theorem ä.set{K:d_}{H:Hp}{m:List O}:∀{ds:List Uv}{a:List V}(i:Nat){d:Uv}{v:V},ä K H m ds a->Ć K H m d v->ä K H m (ds.set i d) (a.set i v)|[],a,i,d,v,h,_=>by cases(show a=[]from h);exact rfl|g::ds,a,i,d,v,⟨e,us,r,f,q⟩,b=>by subst r;cases i with|zero=>exact⟨v,us,rfl,b,q⟩|succ i=>exact⟨e,us.set i v,rfl,f,ä.set i q b⟩
theorem ä.append{K:d_}{H:Hp}{m:List O}:∀{ds b:List Uv}{a us:List V},ä K H m ds a->ä K H m b us->ä K H m (ds++b) (a++us)|[],b,a,us,h,q=>by cases(show a=[]from h);exact q|d::ds,b,a,us,⟨f,e,r,g,t⟩,q=>by subst r;exact⟨f,e++us,rfl,g,ä.append t q⟩
variable{υ:í}
theorem ó.mono{b:List O}(E:ó q h ο Ι υ)(e:Ð h Β)(p:ο<+:b):ó q Β b Ι υ:=⟨E.len,λi d a=>let⟨v,g,f⟩:=E.at' i d a;⟨v,g,f.mono e p⟩⟩
theorem ó.set{i:Nat}{d:Uv}(E:ó q h ο Ι υ)(r:Ć q h ο d ψ):ó q h ο (Ι.set i (Z ψ)) (υ.set i (Z d)):=by
 refine⟨by rw[Uc,Uc];exact E.len,λj f a=>?_⟩;by_cases e:i=j
 · subst e;have b:i<υ.length:=by have:=(G_.mp a).1;simpa using this
   rw[w_ b]at a;cases a;exact⟨ψ,w_ (by rw[E.len];exact b),r⟩
 ·rw[on e]at a⊢;exact E.at' j f a
noncomputable def vw1(S:Ú):Uv->Option Q|.inl d=>Z d|.inr n=>match S[n]? with|some (.lst ds)=>Z (.lst ds)|_=>U
def vwL(S:Ú):List Uv->Option (List Q)|[]=>Z []|u::us=>match vw1 S u,vwL S us with|some d,Z ds=>Z (d::ds)|_,_=>U
def vw(S:Ú):Uv->Option Q|.inl d=>Z d|.inr n=>match S[n]? with|some (.lst ds)=>Z (.lst ds)|some (.obj k fs)=>(vwL S fs).map (.obj k)|none=>U
def õ(S:Ú)(a:í):Ev:=a.map λo=>o.bind (vw S)
variable{p:Ú}
theorem SR.lst(R:SR q h ο p Β)(a:p[b]?=Z (.lst E))(i:ο[b]?=Z e):Ô q Β (.lst E) (.ref e):=by obtain⟨d,f,g,k,j⟩:=R.at' b _ a;rw[i]at f;cases f;exact⟨e,g,rfl,k,S.mono R.up _ _ j⟩
theorem SR.vw1(R:SR q h ο p Β):∀{u:Uv}{v:V}{d:Q},Ć q h ο u v->vw1 p u=Z d->Ô q Β d v|.inl d,v,j,b,e=>by cases e;exact Ô.mono R.up _ _ b|.inr n,v,j,⟨a,i,g⟩,e=>by subst g;unfold FD.vw1 at e;match f:p[n]? with|none=>simp[f]at e|some (.obj k fs)=>simp[f]at e|some (.lst ds)=>simp[f]at e;subst e;exact R.lst f i
theorem SR.vwL{K:d_}{H i:Hp}{m:List O}{a:Ú}(R:SR K H m a i):∀{us:List Uv}{b:List V}{ds:List Q},ä K H m us b->vwL a us=Z ds->S K i ds b|[],b,ds,h,e=>by cases e;exact h|u::us,b,ds,⟨v,k,r,h,q⟩,e=>by subst r;unfold FD.vwL at e;match f:FD.vw1 a u,g:FD.vwL a us with|some d,Z j=>rw[f,g]at e;cases e;exact .cons (R.vw1 h f) (SR.vwL R q g)|none,_=>rw[f]at e;cases e|some _,U=>rw[f,g]at e;cases e
theorem zQ{S:Ú}:∀{us:List Uv}{ds:List Q},vwL S us=Z ds->ds.length=us.length|[],ds,e=>by cases e;rfl|u::us,ds,e=>by unfold FD.vwL at e;match b:FD.vw1 S u,a:FD.vwL S us with|some d,Z f=>rw[b,a]at e;cases e;simp[zQ a]|none,_=>rw[b]at e;cases e|some _,U=>rw[b,a]at e;cases e
theorem SR.vw(R:SR q h ο p Β):∀{u:Uv}{v:V}{d:Q},Ć q h ο u v->vw p u=Z d->Ô q Β d v|.inl d,v,E,f,e=>by cases e;exact Ô.mono R.up _ _ f|.inr n,v,E,⟨a,m,r⟩,e=>by subst r;unfold FD.vw at e;match g:p[n]? with|none=>simp[g]at e|some (.lst ds)=>simp[g]at e;subst e;exact R.lst g m|some (.obj k fs)=>dsimp only at e;rw[g]at e;dsimp only at e;obtain⟨b,j,C,A,o,z,y,w,s⟩:=R.at' n _ g;rw[m]at j;cases j;match i:FD.vwL p fs with|none=>simp[i]at e|some ds=>simp[i]at e;subst e;exact⟨a,C,A,o,rfl,z,y,R.vwL w i,by rw[zQ i];exact s⟩
theorem SR.envs(R:SR q h ο p Β)(E:ó q h ο Ι υ):Ü q Β Ι (õ p υ):=by refine⟨by unfold õ;rw[P_];exact E.len,λi d a=>?_⟩;unfold õ at a;rw[L_]at a;match b:υ[i]? with|none=>simp[b]at a|some U=>simp[b]at a|some (Z u)=>simp[b]at a;obtain⟨v,f,e⟩:=E.at' i u b;exact⟨v,f,R.vw e a⟩
noncomputable def pl:Q->Bool|.scr _=>L|d=>ħ d
theorem SR.cell(R:SR q h ο p Β){a:O}(e:a∈ο):(∃f,Β a=Z (.lst f))\/∃C i fs,Β a=Z (.ins C i fs):=by
 obtain⟨n,j⟩:=List.getElem?_of_mem e;have o:n<p.length:=by rw[<-R.len];exact(G_.mp j).1
 obtain⟨b,m,d⟩:=R.at' n _ (F_ o);rw[j]at m;cases m;match s:p[n],d with|.lst ds,d=>obtain⟨f,g,_⟩:=d;exact .inl ⟨f,g⟩|.obj k fs,d=>obtain⟨C,i,r,g,_⟩:=d;exact .inr ⟨C,i,_,g⟩
theorem SR.grow{i:Hp}(R:SR q h ο p Β)(e:Ð Β i):∃E,Ð h E/\SR q E ο p i/\∀d v,pl d=L->Ô q i d v->Ô q E d v:=by
 have H:∀b u,h b=Z u->b∉ο:=λb u f z=>by rw[R.fr b z]at f;cases f
 have y:Ð h λb=>if b∈ο then U else i b:=λb u f=>by simp only[H b u f,if_false];exact e b u (R.up b u f)
 have keep:∀b o,(∀j,o≠.lst j)->(∀C w fs,o≠.ins C w fs)->i b=Z o->(λb=>if b∈ο then U else i b) b=Z o:=λb o s m f=>by
  have:b∉ο:=λz=>by
   rcases R.cell z with⟨j,g⟩|⟨C,w,fs,g⟩;·exact s j (Ub (f.symm.trans (e _ _ g)))
   ·exact m C w fs (Ub (f.symm.trans (e _ _ g)))
  simp only[this,if_false];exact f
 refine⟨λb=>if b∈ο then U else i b,y,⟨R.len,R.nd,λa f=>by simp[f],λb u f=>?_,λn c f=>?_⟩,λd v hp r=>?_⟩
 · by_cases N:b∈ο;·simp[N]at f
   ·simpa[N]using f
 ·obtain⟨a,ha,g⟩:=R.at' n c f;refine⟨a,ha,?_⟩;match c,g with|.lst ds,⟨j,s,m⟩=>exact⟨j,e _ _ s,S.mono y _ _ m⟩|.obj k fs,⟨C,w,P,s,m,h3,h4⟩=>exact⟨C,w,P,e _ _ s,m,h3.mono y (Q_ ο),h4⟩
 · by_cases I:∃A,d=.scr A;·obtain⟨A,rfl⟩:=I;obtain⟨a,rv,g⟩:∃a,v=.ref a/\rw q i a (A.map V.int):=r;exact⟨a,rv,g.imp (λ⟨o,f⟩=>⟨o,keep a _ (by simp) (by simp) f⟩) id⟩
   · have hi:ħ d=L:=by cases d<;>first|exact hp|exact absurd ⟨_,rfl⟩ I
     exact Ô.tups (λb ys f=>keep b _ (by simp) (by simp) f) d v hi r
inductive Ru(α:Type)where|ok(a:α)(S:Ú)|exc(c:Nat)(S:Ú)
abbrev é:=Ú->í->Option (Ru Uv)
abbrev nq:=Ú->í->Option (Ru Bool)
abbrev mC:=Ú->í->Option (Ru (List Uv))
def XU(X:C)(c:Nat)(H:Hp)(m:List O)(S:Ú):Prop:=∀g f d b a s e,Ð H d->m<+:b->SR X.K d b S a->Í X g f a s->Kr X a c e s->X.xe e s
def OU(X:C)(H:Hp)(m:List O)(r:Option (Ru ε))(Q:ε->Hp->List O->Hp->Prop):Prop:=match r with|none=>False|some (.exc c S)=>XU X c H m S|some (.ok a S)=>∀d b e,Ð H d->m<+:b->SR X.K d b S e->Q a d b e
def jC{b:Type}(o:Option (Ru ε))(k:ε->Ú->Option (Ru b)):Option (Ru b):=match o with|none=>U|some (.exc c S)=>Z (.exc c S)|some (.ok a S)=>k a S
def tU(X:C)(f:é):TE:=λd g Q=>∃H m S b,SR X.K H m S g/\ó X.K H m d b/\OU X H m (f S b) λu h e a=>∀v,Ć X.K h e u v->Q v a
def tUB(X:C)(f:nq):TT:=λe g Q=>∃H m S d,SR X.K H m S g/\ó X.K H m e d/\OU X H m (f S d) λb _ _ a=>Q b a
def tUA(X:C)(f:mC):TA:=λe h Q=>∃H m S b,SR X.K H m S h/\ó X.K H m e b/\OU X H m (f S b) λus i g a=>∀d,ä X.K i g us d->Q d a
structure UE(X:C)(e:s_)(f:é):Prop where h:PE X e (tU X f)
structure UT(X:C)(e:s_)(f:nq):Prop where h:PT X e (tUB X f)
structure UW(X:C)(e:s_)(f:nq):Prop where h:PW X e (tUB X f)
structure UA(X:C)(es:List s_)(f:mC):Prop where h:PA X es (tUA X f)
theorem XU.mono{g:List O}(f:XU a b h ο p)(e:Ð h Β)(d:ο<+:g):XU a b Β g p:=λm i q k o s x n j=>f m i q k o s x (e.trans n) (d.trans j)
theorem OU.mono{f:List O}{r:Option (Ru ε)}{Q:ε->Hp->List O->Hp->Prop}(b:OU a h ο r Q)(e:Ð h Β)(p:ο<+:f):OU a Β f r Q:=by match r,b with|none,b=>exact b|some (.exc c S),b=>exact XU.mono b e p|some (.ok d S),b=>exactλm i k j g=>b m i k (e.trans j) (p.trans g)
theorem OU.bind{i:Type}{o:Option (Ru ε)}{k:ε->Ú->Option (Ru i)}{Q:i->Hp->List O->Hp->Prop}{P:ε->Hp->List O->Hp->Prop}(b:OU a h ο (jC o k) Q)(p:∀d S g e f,Ð h g->ο<+:e->SR a.K g e S f->OU a g e (k d S) Q->P d g e f):OU a h ο o P:=by match o,b with|none,b=>exact b|some (.exc c S),b=>exact b|some (.ok d S),b=>exactλq n f m j R=>p d S q n f m j R (OU.mono b m j)
theorem XU.xw(d:XU a b h ο p)(R:SR a.K h ο p Β):XW a b Β:=λg f m s e j I q=>by obtain⟨n,i,k,_⟩:=R.grow j;exact d g f n ο m s e i (Q_ ο) k I q
def aG(f:Ò):é:=λS a=>match f (õ S a)with|none=>U|some (.exc c)=>Z (.exc c S)|some (.ok d)=>if pl d=L then Z (.ok (.inl d) S)else U
def c8(f:æ):nq:=λS a=>match f (õ S a)with|none=>U|some (.exc c)=>Z (.exc c S)|some (.ok d)=>Z (.ok d S)
theorem HN(i:FE a g y):UE a g (aG y):=⟨λj s h w Q I⟨H,m,S,f,R,E,o⟩=>by refine i.h j s h w Q I ⟨õ S f,R.envs E,?_⟩;unfold aG at o;match e:y (õ S f)with
 |none=>rw[e]at o;exact o.elim|some (.exc c)=>rw[e]at o;exact XU.xw o R|some (.ok d)=>
 rw[e]at o;dsimp only at o;by_cases b:pl d=L;·rw[if_pos b]at o;intro v u n r;obtain⟨z,k,q,p⟩:=R.grow n;exact o z m u k (Q_ m) q v (p d v b r)
 ·rw[if_neg b]at o;exact o.elim⟩
theorem HP(h:FT a g Μ):UT a g (c8 Μ):=⟨λi s f q Q I⟨H,m,S,e,R,E,o⟩=>by refine h.h i s f q Q I ⟨õ S e,R.envs E,?_⟩;unfold c8 at o;match b:Μ (õ S e)with|none=>rw[b]at o;exact o.elim|some (.exc c)=>rw[b]at o;exact XU.xw o R|some (.ok d)=>rw[b]at o;intro p k;obtain⟨r,j,n,_⟩:=R.grow k;exact o r m p j (Q_ m) n⟩
theorem UW.ut{p:nq}(h:UW a g p):UT a g p:=⟨h.h _⟩
noncomputable def da(i:Nat):é:=λS a=>match a[i]? with|some (Z u)=>Z (.ok u S)|_=>U
theorem Mm(i:Nat)(h:PE a g (xq i)):UE a g (da i):=⟨λn s e d Q I⟨H,m,S,f,R,E,o⟩=>by refine h n s e d Q I ?_;unfold da at o;match b:f[i]? with|none=>rw[b]at o;exact o.elim|some U=>rw[b]at o;exact o.elim|some (Z u)=>rw[b]at o;obtain⟨v,k,j⟩:=E.at' i u b;exact⟨v,k,o H m d (.refl H) (Q_ m) R v j⟩⟩
noncomputable def Qz(k j:Nat)(S:Ú):Uv->Option (Ru Uv)
 |.inr n=>match S[n]? with|some (.obj a fs)=>if a=k then(match fs[j]? with|some u=>Z (.ok u S)|none=>U)else U|_=>U
 |_=>U
def Bl(k j:Nat)(f:é):é:=λS a=>jC (f S a) λu b=>Qz k j b u
variable{Η:é}
theorem Mn(c:CK a.K b e)(hf:(ď b)[k]?=Z d)(ho:UE a g Η)(hb:Uy g d a.env (eval g a.env)=eval g a.env:=by lk):UE a (.Attribute g d m) (Bl b k Η):=⟨λf' s σ Hf Q I⟨H,f,S,ρ,R,E,o⟩=>Eb ho.h hb f' s σ Hf Q I ⟨H,f,S,ρ,R,E,OU.bind o λu S1 H1 N A e1 p1 R1 p v r=>by match u,r,p with
 |.inl i,_,p=>exact p.elim|.inr n,⟨h,ha,hv⟩,p=>subst hv;unfold Qz at p;match y:S1[n]? with
 |none=>simp[y]at p;exact p.elim|some (.lst ds)=>simp[y]at p;exact p.elim|some (.obj P fs)=>
 simp only[y]at p;by_cases hk:P=b
 ·subst hk;rw[if_pos rfl]at p;obtain⟨j,q,C',dx,vs,h1,h2,h3,h4⟩:=R1.at' n _ y;rw[ha]at q;cases q;rw[rJ c h2]at h1;match z:fs[k]? with|none=>rw[z]at p;exact p.elim|some u=>rw[z]at p;obtain⟨w,g1,g2⟩:=h3.get z;exact⟨h,e,dx,_,w,rfl,h1,c.c,c.a d (TV hf),pB (zN P) hf g1,p H1 N A (.refl H1) (Q_ N) R1 w g2⟩
 ·rw[if_neg hk]at p;exact p.elim⟩⟩
noncomputable def fu:mC:=λS _=>Z (.ok [] S)
noncomputable def bg(f:é)(g:mC):mC:=λS a=>jC (f S a) λu b=>jC (g b a) λus S2=>Z (.ok (u::us) S2)
theorem Mp:UA a [] fu:=⟨λe f s d b Q I⟨H,m,S,g,R,E,o⟩=>uH e f s d b Q I (o H m b (.refl H) (Q_ m) R [] rfl)⟩
theorem HQ{h:mC}(ha:UE a g Η)(P:UA a w h)(N:k_ (g::w) a.env=(D,eval g a.env)::k_ w a.env:=by lk):UA a (g::w) (bg Η h):=⟨λn f' s j Hf Q I⟨H,m,S,d,R,E,o⟩=>kB ha.h P.h N n f' s j Hf Q I ⟨H,m,S,d,R,E,OU.bind o λu S1 H1 A a' e1 q R1 z v r=>⟨H1,A,S1,d,R1,E.mono e1 q,OU.bind z λus S2 i f b e2 p R2 y e k=>y i f b (.refl i) (Q_ f) R2 (v::e) ⟨v,e,rfl,r.mono e2 p,k⟩⟩⟩⟩
def fw(g:Q->Q->Option (Rs Q))(f:é)(h:Ò):é:=λS e=>jC (f S e) λu a=>match vw a u,h (õ a e)with|some d,Z (.ok i)=>(match g d i with|some (.ok (.bl b))=>Z (.ok (.inl (.bl b)) a)|_=>U)|some _,Z (.exc c)=>Z (.exc c a)|_,_=>U
theorem opP{r:R2}{g:Q->Q->Option (Rs Q)}(hg:Ġ a r g)(R:SR a.K h ο p Β)(E:ó a.K h ο Ι υ)(o:OU a h ο (fw g Η y p υ) λu H' m' z=>∀v,Ć a.K H' m' u v->Ê v z):tOp r (tU a Η) (tF a y) Ι Β Ê:=⟨h,ο,p,υ,R,E,OU.bind o λu m H1 A a' e1 p1 i b v r=>by refine⟨õ m υ,i.envs (E.mono e1 p1),?_⟩;match f:vw m u,j:y (õ m υ)with|none,_=>simp[f]at b;exact b.elim|some d,U=>simp[f,j]at b;exact b.elim|some d,Z (.exc c)=>simp only[f,j]at b;exact XU.xw b i|some d,Z (.ok I)=>simp only[f,j]at b;intro v2 Hg H P;refine hg d I v v2 Hg _ (Ô.mono H _ _ (i.vw r f)) P ?_;match e:g d I with|some (.ok (.bl k))=>rw[e]at b;intro w s q n;obtain⟨N,e2,R2,dn⟩:=i.grow (H.trans q);exact b N A s e2 (Q_ A) R2 w (show Ô a.K N (.bl k) w from n)|none=>rw[e]at b;exact b.elim|some (.exc _)=>rw[e]at b;exact b.elim|some (.ok .non)=>rw[e]at b;exact b.elim|some (.ok (.int _))=>rw[e]at b;exact b.elim|some (.ok (.str _))=>rw[e]at b;exact b.elim|some (.ok (.tup _))=>rw[e]at b;exact b.elim|some (.ok (.lst _))=>rw[e]at b;exact b.elim|some (.ok (.scr _))=>rw[e]at b;exact b.elim|some (.ok (.exn _))=>rw[e]at b;exact b.elim|some (.ok (.obj _ _))=>rw[e]at b;exact b.elim⟩
theorem zR{f:P'}{r:R2}{b:Q->Q->Option (Rs Q)}(i:ÿ a (Ug f) r)(k:Ġ a r b)(p:UE a g Η)(n:FE a u y)(j:TF f u=D):UE a (.Compare g [f] [u] m) (fw b Η y):=⟨λq s h v d I⟨H,e,S,w,R,E,o⟩=>xF i p.h n.h j q s h v d I (opP k R E o)⟩
noncomputable def R5(S:Ú):Uv->Option (Ru Bool)|.inl (.bl b)=>Z (.ok b S)|_=>U
def uB(f:é):nq:=λS a=>jC (f S a) λu b=>R5 b u
theorem zS{u:Uv}{Q:Bool->Hp->List O->Hp->Prop}(r:Ć a.K h ο u ψ)(R:SR a.K h ο p Β)(o:OU a h ο (R5 p u) Q):∃k,ψ=.bl k/\Q k h ο Β:=by match u,r,o with|.inr n,_,o=>exact o.elim|.inl d,r,o=>cases d with|bl b=>exact⟨b,r,o h ο Β (.refl h) (Q_ ο) R⟩|_=>exact o.elim
theorem Mq(h:UE a g Η)(f:∀û,isTrue g a.env û=(do let v<-û;Zu g.pos;WY [v] (truthy v)):=by intro _;lk):UT a g (uB Η):=⟨λi s b k Q I⟨H,m,S,d,R,E,o⟩=>DX h.h f i s b k Q I ⟨H,m,S,d,R,E,OU.bind o λu y z q n w p j e v r=>zS r j e⟩⟩
theorem HR{h:P'}{r:R2}{b:Q->Q->Option (Rs Q)}(k:ÿ a (Ug h) r)(p:Ġ a r b)(w:UE a g Η)(q:FE a u y)(n:TF h u=D):UT a (.Compare g [h] [u] m) (uB (fw b Η y)):=⟨λz s i N d I⟨H,f,S,ρ,R,E,o⟩=>xG k w.h q.h n z s i N d I (opP p R E (OU.bind o λe S1 H1 m1 P e1 p1 A j v r=>zS r A j))⟩
noncomputable def uOr(p q:nq):nq:=λS a=>jC (p S a) λb d=>if b=L then Z (.ok L d)else q d a
theorem Mr{p:nq}(b:UT a g p):UW a (.BoolOp .Or [g] m) p:=⟨DY b.h⟩
theorem Ms{p q:nq}(z:UT a g p)(y:UW a (.BoolOp .Or (u::w) m) q):UW a (.BoolOp .Or (g::u::w) m) (uOr p q):=⟨λr A s n Hf Q I⟨H,b,S,i,R,E,o⟩=>JV z.h y.h r A s n Hf Q I ⟨H,b,S,i,R,E,OU.bind o λk P f e h N v j d=>by cases k with|true=>rw[if_pos rfl]at d⊢;exact d f e h (.refl f) (Q_ e) j|false=>rw[if_neg (by simp)]at d⊢;exact⟨f,e,P,i,j,E.mono N v,d⟩⟩⟩
theorem CP(i:ο.Nodup)(h:ο[b]?=Z e)(j:ο[k]?=Z e):b=k:=by
 obtain⟨l,a⟩:=G_.mp h;obtain⟨f,g⟩:=G_.mp j;have d:=VV.mp i;rcases Y4 b k with z|z|z;·exact(d b k l f z (a.trans g.symm)).elim
 ·exact z
 ·exact(d k b f l z (g.trans a.symm)).elim
theorem Ķ.ne{b:O}{o:HO}{c:ñ}(a:Ķ q h ο Β e c)(g:e≠b):Ķ q h ο (Þ Β b o) e c:=by match c,a with|.lst ds,⟨i,f,d⟩=>exact⟨i,by rw[ax g];exact f,d⟩|.obj k fs,⟨C,m,j,f,d⟩=>exact⟨C,m,j,by rw[ax g];exact f,d⟩
theorem Ķ.pre{b:List O}{c:ñ}(a:Ķ q h ο Β e c)(p:ο<+:b):Ķ q h b Β e c:=by match c,a with|.lst ds,a=>exact a|.obj k fs,⟨C,m,d,j,i,g,f⟩=>exact⟨C,m,d,j,i,g.mono (.refl h) p,f⟩
theorem SR.put{o:HO}{c:ñ}(R:SR q h ο p Β)(g:ο[b]?=Z e)(r:Ķ q h ο (Þ Β e o) e c):SR q h ο (p.set b c) (Þ Β e o):=by
 have m:e∈ο:=TV g;refine⟨by rw[Uc];exact R.len,R.nd,R.fr,λd u a=>?_,λj s a=>?_⟩
 · have:d≠e:=λz=>by rw[z,R.fr e m]at a;cases a
   rw[ax this];exact R.up d u a
 · by_cases i:b=j
   · subst i;have n:b<p.length:=by rw[<-R.len];exact(G_.mp g).1
     rw[w_ n]at a;cases a;exact⟨e,g,r⟩
   ·rw[on i]at a;obtain⟨d,k,f⟩:=R.at' j s a;exact⟨d,k,f.ne λz=>i (CP R.nd g (z▸k))⟩
theorem SR.fresh(R:SR q h ο p Β)(d:Β e=U):e∉ο/\h e=U:=by
 refine⟨λz=>?_,?_⟩;·rcases R.cell z with⟨f,a⟩|⟨C,g,fs,a⟩<;>·rw[d]at a;cases a
 ·cases b:h e with|none=>rfl|some u=>have:=R.up e u b;rw[d]at this;cases this
theorem SR.push{o:HO}{c:ñ}(R:SR q h ο p Β)(m:Β e=U)(s:Ķ q h (ο++[e]) (Þ Β e o) e c):SR q h (ο++[e]) (p++[c]) (Þ Β e o):=by
 obtain⟨g,k⟩:=R.fresh m;refine⟨by simp[R.len],?_,λa d=>?_,λb u d=>?_,λn w d=>?_⟩
 · rw[V4];refine⟨R.nd,by simp,λa d b v=>?_⟩;have:b=e:=by simpa using v
   subst this;exactλz=>g (z▸d)
 · rcases TH.mp d with d|d;·exact R.fr a d
   · have:a=e:=by simpa using d
     subst this;exact k
 · have:b≠e:=λz=>by rw[z,k]at d;cases d
   rw[ax this];exact R.up b u d
 · by_cases i:n<p.length;·rw[I_ i]at d;obtain⟨a,j,f⟩:=R.at' n w d;refine⟨a,by rw[I_ (by rw[R.len];exact i)];exact j,(f.ne (b:=e) λ(z:a=e)=>g (by rw[<-z];exact TV j)).pre (Xn ο [e])⟩
   · have r:n=p.length:=by have:=(G_.mp d).1;simp at this;omega
     subst r;rw[K_ (pi _),WA]at d;cases d;exact⟨e,by rw[<-R.len,K_ (pi _),WA];rfl,s⟩
noncomputable def ins:List Uv->Option (List Q)|[]=>Z []|.inl d::us=>(ins us).map (d::·)|.inr _::_=>U
theorem pD{K:d_}{H:Hp}{m:List O}:∀{us:List Uv}{a:List V}{ds:List Q},ins us=Z ds->ä K H m us a->S K H ds a|[],a,ds,h,r=>by cases h;exact r|.inr _::_,_,_,h,_=>by cases h|.inl d::us,a,ds,h,⟨v,j,e,g,f⟩=>by subst e;unfold ins at h;cases b:ins us with|none=>rw[b]at h;cases h|some i=>rw[b]at h;cases h;exact .cons g (pD b f)
def xb(d:mC):é:=λS b=>jC (d S b) λus a=>match ins us with|some ds=>if ds.length<=100000 then Z (.ok (.inr a.length) (a++[.lst ds]))else U|none=>U
theorem SR.newL(R:SR a.K h ο p Β)(d:S a.K h E η)(g:Β e=U)(o:OU a h ο (Z (.ok (.inr p.length) (p++[.lst E]))) λu i f b=>∀v,Ć a.K i f u v->Ê v b):Ê (.ref e) (Þ Β e (.lst η)):=o h (ο++[e]) _ (.refl h) (Xn ο [e]) (R.push g ⟨η,av,d⟩) (.ref e) ⟨e,by rw[<-R.len,K_ (pi _),WA];rfl,rfl⟩
theorem Mt{g:mC}(n:UA a w g):UE a (.List w m) (xb g):=⟨λq s h v Q I⟨H,b,S,i,R,E,o⟩=>xL n.h q s h v Q I ⟨H,b,S,i,R,E,OU.bind o λus S1 H1 N y P A u d z j=>by match f:ins us with
 |none=>simp[f]at d;exact d.elim|some ds=>
 simp only[f]at d;by_cases e:ds.length<=100000;·rw[if_pos e]at d;have r:=pD f j;exact⟨by rw[r.length];exact ce e,λp k=>u.newL r k d⟩
 ·rw[if_neg e]at d;exact d.elim⟩⟩
def CQ(f:é)(e:mC):é:=λS a=>jC (f S a) λu b=>match u with|.inr n=>(match b[n]? with|some (.lst _)=>jC (e b a) λus S2=>(match ins us,S2[n]? with|some [d],Z (.lst ds)=>if ds.length<100000 then Z (.ok (.inl .non) (S2.set n (.lst (ds++[d]))))else U|_,_=>U)|_=>U)|_=>U
theorem Mu{gs:mC}(ho:UE a u Η)(ha:UA a [g] gs)(N:Uy u "append" a.env (eval u a.env)=eval u a.env:=by lk)(b':((TW v (k_ [g] a.env)).all (λx=>!x.1)&&(Vy v (UN [] a.env)).all (λx=>x.1.isSome)&&t_ ([g].length+([]:List VI).length+(if([]:List VI).isEmpty then 0 else 1)<30))=L:=by lk)(A:(m.endLine==v.line)=L:=by lk)(hs:k_ [g] a.env=(D,eval g a.env)::k_ [] a.env:=by lk)(y:(TW v (k_ [] a.env)).any (·.1)=D:=by lk):UE a (.Call (.Attribute u "append" m) [g] [] v) (CQ Η gs):=⟨λf' s σ Hf Q I⟨H,f,S,ρ,R,E,u⟩=>BB Wj WL Y_ qM ho.h ha.h N b' A hs y f' s σ Hf Q I ⟨H,f,S,ρ,R,E,OU.bind u λe S1 H1 m1 h' e1 p1 R1 o i r=>by match e,r,o with|.inl d,_,o=>exact o.elim|.inr n,⟨h,ha,hv⟩,o=>subst hv;dsimp only at o;match q:S1[n]? with|none=>rw[q]at o;exact o.elim|some (.obj k fs)=>rw[q]at o;exact o.elim|some (.lst e')=>rw[q]at o;dsimp only at o;obtain⟨b,P,c',q1,q2⟩:=R1.at' n _ q;rw[ha]at P;cases P;refine⟨.inl ⟨rfl,c',ă.of q1⟩,H1,m1,S1,ρ,R1,E.mono e1 p1,OU.bind o λus S2 H2 m2 g' e2 p2 R2 j vs rs=>?_⟩;match z:ins us,p:S2[n]? with
 |some [d],Z (.lst ds)=>
 rw[z,p]at j;dsimp only at j;by_cases hl:ds.length<100000
 · rw[if_pos hl]at j;obtain⟨b,P,xs,q3,q4⟩:=R2.at' n _ p;have a':=pC p2 ha;rw[a']at P;cases P;obtain⟨w,rfl,d'⟩:=eP (pD z rs);have hz:xs.length<sizeLine:=by have:=q4.length;have h2:=ce (b:=xs.length+1) (by omega);omega
   exact⟨h,xs,w,rfl,rfl,q3,hz,j H2 m2 _ (.refl H2) (Q_ m2) (R2.put a' ⟨_,av,q4.append ⟨w,[],rfl,d',rfl⟩⟩) .non rfl⟩
 ·rw[if_neg hl]at j;exact j.elim|none,_=>simp[z]at j;exact j.elim|some [],_=>simp[z]at j;exact j.elim|some (_::_::_),_=>simp[z]at j;exact j.elim|some [d],U=>simp[z,p]at j;exact j.elim|some [d],Z (.obj _ _)=>simp[z,p]at j;exact j.elim⟩⟩
noncomputable def Mv(f:é):é:=λS b=>jC (f S b) λu a=>match u with|.inr n=>(match a[n]? with|some (.lst ds)=>(match ds[ds.length-1]? with|some d=>Z (.ok (.inl d) (a.set n (.lst ds.dropLast)))|none=>U)|_=>U)|_=>U
theorem Mw(ho:UE a g Η)(p:Uy g "pop" a.env (eval g a.env)=eval g a.env:=by lk)(o:(m.endLine==v.line)=L:=by lk):UE a (.Call (.Attribute g "pop" m) [] [] v) (Mv Η):=⟨λf' s σ Hf Q I⟨H,e,S,ρ,R,E,g⟩=>Kn Wj aaH PySem.F.type_list_pop Ko ho.h p o f' s σ Hf Q I ⟨H,e,S,ρ,R,E,OU.bind g λu S1 H1 N a' e1 p1 R1 i h r=>by match u,r,i with|.inl d,_,i=>exact i.elim|.inr n,⟨f,ha,hv⟩,i=>subst hv;dsimp only at i;match j:S1[n]? with|none=>rw[j]at i;exact i.elim|some (.obj k fs)=>rw[j]at i;exact i.elim|some (.lst ds)=>rw[j]at i;dsimp only at i;obtain⟨b,P,z,A,q⟩:=R1.at' n _ j;rw[ha]at P;cases P;match w:ds[ds.length-1]? with|none=>rw[w]at i;exact i.elim|some d=>rw[w]at i;obtain⟨y,h1,h2⟩:=q.get' w;rw[<-q.length]at h1;refine⟨.inl ⟨rfl,z,ă.of A⟩,f,z,y,rfl,rfl,A,h1,?_⟩;refine i H1 N _ (.refl H1) (Q_ N) (R1.put ha ⟨_,av,?_⟩) y h2;rw[Z3,Z3,q.length];exact q.take _⟩⟩
inductive Ť where|nx(ρ:í)(S:Ú)|rt(u:Uv)(S:Ú)|exc(c:Nat)(S:Ú)
abbrev ci:=Ú->í->Option Ť
def OV(X:C)(H:Hp)(m:List O)(r:Option Ť)(a:uE):Prop:=match r with|none=>False|some (.exc c S)=>XU X c H m S|some (.rt u S)=>∀v d b e,Ð H d->m<+:b->SR X.K d b S e->Ć X.K d b u v->a.rt v e|some (.nx g S)=>∀f d b e,Ð H d->m<+:b->SR X.K d b S e->ó X.K d b f g->a.nx f e
def tVU(X:C)(f:ci):TS:=λa d e=>∃H m S b,SR X.K H m S e/\ó X.K H m d b/\OV X H m (f S b) a
structure US(X:C)(st:Us)(f:ci):Prop where h:PS X st (tVU X f)
structure Ő(X:C)(st:List Us)(f:ci):Prop where h:Ļ X st (tVU X f)
def EM(o:Option (Ru ε))(k:ε->Ú->Option Ť):Option Ť:=match o with|none=>U|some (.exc c S)=>Z (.exc c S)|some (.ok a S)=>k a S
noncomputable def sqV(o:Option Ť)(k:Ú->í->Option Ť):Option Ť:=match o with|some (.nx a S)=>k S a|o=>o
theorem OV.mono{m:List O}{d:uE}{r:Option Ť}(b:OV a h ο r d)(e:Ð h Β)(p:ο<+:m):OV a Β m r d:=by match r,b with|none,b=>exact b|some (.exc c S),b=>exact XU.mono b e p|some (.rt u S),b=>exactλv k g j i f=>b v k g j (e.trans i) (p.trans f)|some (.nx n S),b=>exactλv k g j i f=>b v k g j (e.trans i) (p.trans f)
theorem OU.bindV{e:uE}{o:Option (Ru ε)}{k:ε->Ú->Option Ť}{P:ε->Hp->List O->Hp->Prop}(b:OV a h ο (EM o k) e)(p:∀d S i f g,Ð h i->ο<+:f->SR a.K i f S g->OV a i f (k d S) e->P d i f g):OU a h ο o P:=by match o,b with|none,b=>exact b|some (.exc c S),b=>exact b|some (.ok d S),b=>exactλq n g m j R=>p d S q n g m j R (OV.mono b m j)
noncomputable def nu:ci:=λS a=>Z (.nx a S)
def eK(f g:ci):ci:=λS a=>sqV (f S a) g
noncomputable def li(i:Nat)(f:é):ci:=λS a=>EM (f S a) λu b=>Z (.nx (a.set i (Z u)) b)
noncomputable def lA(f:é):ci:=λS a=>EM (f S a) λ_ b=>Z (.nx a b)
noncomputable def jv(f:é):ci:=λS a=>EM (f S a) λu b=>Z (.rt u b)
noncomputable def Ğ(p:nq)(f g:ci):ci:=λS a=>EM (p S a) λb d=>if b=L then f d a else g d a
def QC(f:Û):ci:=λS a=>match f (õ S a)with|some (.exc c)=>Z (.exc c S)|_=>U
theorem HS:Ő a [] nu:=⟨λf s d e b I⟨H,m,S,g,R,E,o⟩=>sK f s d e b I (o d H m e (.refl H) (Q_ m) R E)⟩
variable{Â:ci}
theorem HU(b:US a Δ Â):Ő a [Δ] Â:=⟨oQ b.h⟩
theorem CS{G:ci}(n:US a Δ Â)(k:Ő a Ψ G):Ő a (Δ::Ψ) (eK Â G):=⟨λp s h v b I⟨H,m,S,g,R,E,o⟩=>by refine gC n.h k.h p s h v b I ⟨H,m,S,g,R,E,?_⟩;unfold eK sqV at o;match d:Â S g with|none=>rw[d]at o;exact o.elim|some (.exc c e)=>rw[d]at o;exact o|some (.rt u e)=>rw[d]at o;exact o|some (.nx f e)=>rw[d]at o;exactλz w j A q i r y=>⟨w,j,e,f,r,y,OV.mono o q i⟩⟩
theorem Mx(i:Nat){x:Str}(P:a.N.Nodup)(z:a.N[i]?=Z x)(w:Ł a.env.scope x)(N:UE a g Η)(y:Ux g (Z (.Name x v)) m.line a.env=pure D:=by lk)(A:a.fn x=L\/a.env.scope.names.lookup x=Z .local:=by first|exact .inl rfl|exact .inr rfl|assumption):US a (.Assign [.Name x v] g m) (li i Η):=⟨λf' s k Hf d I⟨H,b,S,n,R,E,o⟩=>nK P z w N.h y A f' s k Hf d I ⟨H,b,S,n,R,E,OU.bindV o λu S1 j h f e1 p R1 q e r=>q _ j h f (.refl j) (Q_ h) R1 ((E.mono e1 p).set r)⟩⟩
theorem HV(q:UE a g Η)(p:Ux g U m.line a.env=pure D:=by lk):US a (.Expr g m) (lA Η):=⟨λw s i A d I⟨H,b,S,j,R,E,o⟩=>sL q.h p w s i A d I ⟨H,b,S,j,R,E,OU.bindV o λu N h f e y k z n v r=>n _ h f e (.refl h) (Q_ f) z (E.mono y k)⟩⟩
theorem My(n:UE a g Η):US a (.Return (Z g) m) (jv Η):=⟨λp s i w d I⟨H,b,S,j,R,E,o⟩=>xu n.h p s i w d I ⟨H,b,S,j,R,E,OU.bindV o λu A h f e z y q k v r=>k v h f e (.refl h) (Q_ f) q r⟩⟩
theorem QD{n:List Us}{p:nq}{G:ci}(w:UT a g p)(z:Ő a Ψ Â)(y:Ő a n G):US a (.If g Ψ n m) (Ğ p Â G):=⟨λA s v N d I⟨H,b,S,f,R,E,o⟩=>Bs w.h z.h y.h A s v N d I ⟨H,b,S,f,R,E,OU.bindV o λk q u i P j h r e=>by cases k with|true=>rw[if_pos rfl]at e⊢;exact⟨u,i,q,f,r,E.mono j h,e⟩|false=>rw[if_neg (by simp)]at e⊢;exact⟨u,i,q,f,r,E.mono j h,e⟩⟩⟩
theorem Mz(h:FS a Δ Ρ):US a Δ (QC Ρ):=⟨λi s g j b I⟨H,m,S,f,R,E,o⟩=>by refine h.h i s g j b I ⟨õ S f,R.envs E,?_⟩;unfold QC at o;match e:Ρ (õ S f)with|none=>rw[e]at o;exact o.elim|some (.rt d)=>rw[e]at o;exact o.elim|some (.nx _)=>rw[e]at o;exact o.elim|some (.exc c)=>rw[e]at o;exact XU.xw o R⟩
def wD(k j:Nat)(w:Uv)(a:List Uv):Option (List Uv):=if j<a.length then Z (a.set j w)else if j=a.length/\a.length<(ď k).length then Z (a++[w])else U
def xf(k j:Nat)(o f:é):ci:=λS a=>EM (f S a) λw e=>EM (o e a) λu S2=>match u with|.inr n=>(match S2[n]? with|some (.obj d fs)=>if d=k then(match wD k j w fs with|some b=>Z (.nx a (S2.set n (.obj k b)))|none=>U)else U|_=>U)|_=>U
theorem MB{f:é}(c:CK a.K b e)(c':(ď b)[k]?=Z d)(ho:UE a u f)(he:UE a g Η)(hs:Ux g (Z (.Attribute u d v)) m.line a.env=pure D:=by lk):US a (.Assign [.Attribute u d v] g m) (xf b k f Η):=⟨λf' s σ Hf o I⟨H,i,S,ρ,R,E,u⟩=>Kf ho.h he.h hs f' s σ Hf o I ⟨H,i,S,ρ,R,E,OU.bindV u λw S1 H1 m1 i' e1 p1 R1 o1 y ry=>⟨H1,m1,S1,ρ,R1,E.mono e1 p1,OU.bindV o1 λh S2 H2 m2 h' e2 p2 R2 N p r=>by match h,r,N with
 |.inl q,_,N=>exact N.elim|.inr n,⟨j,ha,hv⟩,N=>subst hv;dsimp only at N;match a':S2[n]? with
 |none=>rw[a']at N;exact N.elim|some (.lst ds)=>rw[a']at N;exact N.elim|some (.obj k' fs)=>
 rw[a']at N;dsimp only at N;by_cases hk:k'=b
 · subst hk;rw[if_pos rfl]at N;obtain⟨z,d',C',dx,vs,h1,h2,h3,h4⟩:=R2.at' n _ a';rw[ha]at d';cases d';rw[rJ c h2]at h1;have lv:=h3.length;refine⟨j,e,dx,_,rfl,h1,c.c,c.a d (TV c'),?_,?_⟩
   · have:(ď k').length<1000:=by unfold ď;split<;>decide
     rw[List.length_zip];omega
   ·match A:wD k' k w fs with
     |none=>rw[A]at N;exact N.elim|some g'=>
     rw[A]at N;dsimp only at N;have b':Ć a.K H2 m2 w y:=ry.mono e2 p2;refine N σ H2 m2 _ (.refl H2) (Q_ m2) (R2.put ha ⟨e,dx,if k<vs.length then vs.set k y else vs++[y],?_,by rw[<-rJ c h2];exact h2,?_,?_⟩) ((E.mono e1 p1).mono e2 p2)
     · rw[av];unfold wD at A;have e':k<=vs.length:=by
        by_cases hj:k<fs.length;·omega
        · rw[if_neg hj]at A;by_cases P:k=fs.length/\fs.length<(ď k').length;·omega
          ·rw[if_neg P]at A;cases A
       rw[vn (zN k') c' e' (by omega)]
     · unfold wD at A;by_cases hj:k<fs.length;·rw[if_pos hj]at A;cases A;rw[if_pos (by omega)];exact h3.set k b'
       · rw[if_neg hj]at A;by_cases P:k=fs.length/\fs.length<(ď k').length;·rw[if_pos P]at A;cases A;rw[if_neg (by omega)];exact h3.append ⟨y,[],rfl,b',rfl⟩
         ·rw[if_neg P]at A;cases A
     · unfold wD at A;by_cases hj:k<fs.length;·rw[if_pos hj]at A;cases A;rw[Uc];exact h4
       · rw[if_neg hj]at A;by_cases P:k=fs.length/\fs.length<(ď k').length;·rw[if_pos P]at A;cases A;rw[T_];simp;omega
         ·rw[if_neg P]at A;cases A
 ·rw[if_neg hk]at N;exact N.elim⟩⟩⟩
noncomputable def HW(b:List Nat)(a:í):í:=b.foldl (λr j=>r.set j U) a
theorem ó.fgt1(j:Nat)(E:ó q h ο Ι υ):ó q h ο Ι (υ.set j U):=by
 refine⟨by rw[Uc];exact E.len,λi d a=>?_⟩;by_cases b:j=i
 · subst b;by_cases e:j<υ.length;·rw[w_ e]at a;cases a
   ·rw[Uw (by rw[Uc];omega)]at a;cases a
 ·rw[on b]at a;exact E.at' i d a
theorem ó.fgt{H:Hp}{m:List O}{K:d_}{d:L2.St}:∀(b:List Nat){a:í},ó K H m d a->ó K H m d (HW b a)|[],_,E=>E|j::b,a,E=>ó.fgt b (E.fgt1 j)
abbrev Ċ:=Ú->List Uv->Option (Ru Uv)
noncomputable def ng(n:Nat)(b:ci):Ċ:=λS us=>match b S (us.map Z++N_ (n-us.length) U)with|some (.nx _ a)=>Z (.ok (.inl .non) a)|some (.rt u a)=>Z (.ok u a)|some (.exc c a)=>Z (.exc c a)|none=>U
def ŭ(K:d_)(F:Ċ)(n:Nat):Sp:=λf g Q E=>∃H m S us,SR K H m S g/\ä K H m us f/\us.length=n/\match F S us with|some (.ok u e)=>∀v d b a,Ð H d->m<+:b->SR K d b e a->Ć K d b u v->Q v a|some (.exc c e)=>∀C d b a,Um K B_ (Ħ c)=Z (Z (.ref C))->Ð H d->m<+:b->SR K d b e a->E (.ref C) U a|none=>False
theorem QE{n:List Env}{E:XK}(m:∀C v u o,Um q B_ (Ħ b)=Z (Z (.ref C))->Ð Β v->ο<+:u->SR q v u p o->E (.ref C) U o):XU (oX (Ĺ s r) s r q Θ I A d ξ e ω N n f h E) b Β ο p:=by intro f' σ v u H s1 ev e1 p1 R1 g⟨k,C,he,hC,F⟩;subst he;have F':Ů (λa=>f.heap.get? a=U) H k (.ref C) s1.heap:=F.imp λa ha=>ha.1;refine qW g rfl rfl rfl F' λh' Ts F2 A2 y=>?_;have P:=Í.aft (P:=[]) (g.pins_of (pins':=[]) λj w=>nomatch w) A2 rfl λi z=>⟨(y i z).1,(y i z).2.1,λj w=>absurd (show j∈([]:List (O×Obj))from w) (by simp),(y i z).2.2⟩;exact⟨k,.ref C,H,rfl,g.os,g.bare,P.base,P.hok,F2,m C v u H hC e1 p1 R1⟩
theorem oF{b:List Uv}(r:ä q h ο b η):ó q h ο (L2.start A η) (b.map Z++N_ (A.length-b.length) U):=by
 have g:=r.length;refine⟨by unfold L2.start;rw[T_,T_,P_,P_,U8,U8,g],λi d a=>?_⟩;by_cases f:i<b.length
 ·rw[I_ (by simpa using f),L_]at a;match e:b[i]? with|none=>rw[e]at a;cases a|some u=>rw[e]at a;cases a;obtain⟨v,k,j⟩:=r.get e;refine⟨v,?_,j⟩;unfold L2.start;rw[I_ (by rw[P_,g];exact f),L_,k];rfl
 ·rw[K_ (by simpa using f)]at a;have:=TV a;rw[List.mem_replicate]at this;cases this.2
variable{È:Ċ}
theorem zT(N z:List Str)(fb:ci)(hF:È=ng N.length fb)(hn:k=z.length)(Fn:ļ q d o Δ e Ã)(Sc:ij N z (aq Δ))(hb:∀(n:B)(A:C_)(j:List Env)(f:ge)(H:Hp)(E:XK),Ý b (A.deeper (Wy o (aq Δ) f.heap.objs.size e n))->Ő (oX (Ĺ s r) s r q Θ I N o (aq Δ) e n A j f H E) (bU Δ) fb):ì s r q Θ I (Ĺ s r) (b+1) e Ã z (ŭ q È k):=by
 subst hF hn;obtain⟨oc,od,kV,d',pm,an,n,ct,c',rfl,lk,a'⟩:=Fn.ex;refine Bx lk a' Sc (λvs H Q E h=>?_) λA j f Hf vs Q E hr h=>?_;·obtain⟨H,m,S,us,R,g,hl,_⟩:=h;rw[g.length,hl]
 ·obtain⟨H,m,S,us,R,g,hl,a⟩:=h;refine⟨_,(hb n A j f Hf E hr).h,H,m,S,us.map Z++N_ (N.length-us.length) U,R,oF g,?_⟩;unfold ng at a;match y:fb S (us.map Z++N_ (N.length-us.length) U)with|none=>rw[y]at a;exact a.elim|some (.exc c S1)=>rw[y]at a;exact QE a|some (.rt u S1)=>rw[y]at a;exactλv H' P w i p R' r'=>a v H' P w i p R' r'|some (.nx ρ S1)=>rw[y]at a;exactλb' H' P w i p R' _=>a .non H' P w i p R' rfl
noncomputable def CT(F:Ċ)(n:Nat)(b:mC):é:=λS a=>jC (b S a) λus d=>if us.length=n then F d us else U
theorem vp{i:List Uv}(R:SR a.K h ο p Β)(q:ä a.K h ο i η)(s:i.length=b)(o:OU a h ο (È p i) λu k j g=>∀v,Ć a.K k j u v->Ê v g):ŭ a.K È b η Β Ê (EX a):=by refine⟨h,ο,p,i,R,q,s,?_⟩;match m:È p i with|none=>rw[m]at o;exact o.elim|some (.ok u w)=>rw[m]at o;exactλv k j g e d n r=>o k j g e d n v r|some (.exc c w)=>rw[m]at o;exactλf k j g hC e d n=>⟨c,f,rfl,hC,XU.xw (XU.mono o e d) n⟩
theorem HX{r:mC}(G:ì a.prog a.w a.K a.mg a.base (Ĺ a.prog a.w) b e Ã A (ŭ a.K È k))(P:Ý b a.A)(n:a.ex=[])(hg:Gl a d)(hm:a.mg d=Z (.ref e))(hk:UK a.K (.ref e)=L)(hb:î a.K Ã A [])(ha:UA a (g::w) r)(p:(d==("__debug__":Str))=D:=by lk)(he:k_ (g::w) a.env=(D,eval g a.env)::k_ w a.env:=by lk)(j:(TW v (k_ w a.env)).any (·.1)=D:=by lk):UE a (.Call (.Name d m) (g::w) [] v) (CT È k r):=⟨λf' s u Hf Q I⟨H,f,S,y,R,E,o⟩=>oV G P hg hm hk hb .nil (wm n) ha.h p he j f' s u Hf Q I ⟨H,f,S,y,R,E,OU.bind o λus S1 H1 m1 q e1 p1 R1 h z N=>by
 show ŭ a.K È k (z++[]) q Q (EX a);rw[VE];by_cases i:us.length=k;·rw[if_pos i]at h;exact vp R1 N i h
 ·rw[if_neg i]at h;exact h.elim⟩⟩
structure zU(P:n_)(w:x_)(K:d_)(mg:Str->Option B)(base:TC)(k:Nat)(C:O)(m:Str)(lv n:Nat)(F:Ċ):Prop where
 c:CK K k C
 h:m∉ď k
 f:∃f fd ps,Jt K C m f/\ì P w K mg base (Ĺ P w) lv f fd ps (ŭ K F (n+1))/\î K fd ps []
noncomputable def cH(k:Nat)(F:Ċ)(n:Nat)(g:é)(e:mC):é:=λS a=>jC (g S a) λu b=>match u with|.inr c=>(match b[c]? with|some (.obj d _)=>if d=k then jC (e b a) λus S2=>(if us.length=n then F S2 (.inr c::us)else U)else U|_=>U)|_=>U
theorem HY{z:Nat}{gs:mC}{pl:Sem Bool}(h:zU a.prog a.w a.K a.mg a.base b e d ι k È)(hr:Ý z a.A)(hk:ι<=z)(b':a.ex=[])(ho:UE a g Η)(ha:UA a (u::w) gs)(ht:MC a g d (u::w) v m pl)(he:k_ (u::w) a.env=(D,eval u a.env)::k_ w a.env:=by lk)(a':(TW m (k_ w a.env)).any (·.1)=D:=by lk):UE a (.Call (.Attribute g d v) (u::w) [] m) (cH b È k Η gs):=by obtain⟨f,fd,ps,hm,G,hb⟩:=h.f;refine⟨λf' s σ Hf Q I⟨H,n,S,ρ,R,E,g⟩=>FZ (p:=pl) ho.h h.c.c hm (G.mono hk) hr hb .nil (wm b') ha.h he a' ht f' s σ Hf Q I ⟨H,n,S,ρ,R,E,OU.bind g λj S1 H1 m1 d' e1 p1 R1 y o r=>?_⟩⟩;match j,r,y with
 |.inl p,_,y=>exact y.elim|.inr n',⟨i,ha,hv⟩,y=>subst hv;dsimp only at y;match hs:S1[n']? with
 |none=>rw[hs]at y;exact y.elim|some (.lst ds)=>rw[hs]at y;exact y.elim|some (.obj k' fs)=>
 rw[hs]at y;dsimp only at y;by_cases A:k'=b
 · subst A;rw[if_pos rfl]at y;obtain⟨q,N,C',dx,vs,h1,h2,h3,h4⟩:=R1.at' n' _ hs;rw[ha]at N;cases N;rw[rJ h.c h2]at h1;refine⟨i,dx,_,rfl,h1,iT h.h,H1,m1,S1,ρ,R1,E.mono e1 p1,OU.bind y λus S2 H2 m2 c' e2 p2 R2 P ws rs=>?_⟩;show ŭ a.K È (k+1) (.ref i::(ws++[])) c' Q (EX a);rw[VE];by_cases hl:us.length=k;·rw[if_pos hl]at P;exact vp (i:=.inr n'::us) R2 ⟨.ref i,ws,rfl,⟨i,pC p2 ha,rfl⟩,rs⟩ (by rw[TQ,hl]) P
   ·rw[if_neg hl]at P;exact P.elim
 ·rw[if_neg A]at y;exact y.elim
theorem CU{pl:Sem Bool}(h:zU a.prog a.w a.K a.mg a.base b e d k 0 È)(hr:Ý ι a.A)(hk:k<=ι)(N:a.ex=[])(ho:UE a g Η)(ht:MC a g d [] v m pl):UE a (.Call (.Attribute g d v) [] [] m) (cH b È 0 Η fu):=by obtain⟨f,fd,ps,hm,G,hb⟩:=h.f;refine⟨λf' s σ Hf Q I⟨H,j,S,ρ,R,E,g⟩=>oW (k:=pl) ho.h h.c.c hm (G.mono hk) hr hb .nil (wm N) ht f' s σ Hf Q I ⟨H,j,S,ρ,R,E,OU.bind g λu S1 H1 m1 P e1 p1 R1 q n r=>?_⟩⟩;match u,r,q with|.inl o,_,q=>exact q.elim|.inr A,⟨i,ha,hv⟩,q=>subst hv;dsimp only at q;match z:S1[A]? with
 |none=>rw[z]at q;exact q.elim|some (.lst ds)=>rw[z]at q;exact q.elim|some (.obj k' fs)=>
 rw[z]at q;dsimp only at q;by_cases w:k'=b;·subst w;rw[if_pos rfl]at q;obtain⟨p,y,C',dx,vs,h1,h2,h3,h4⟩:=R1.at' A _ z;rw[ha]at y;cases y;rw[rJ h.c h2]at h1;refine⟨i,dx,_,rfl,h1,iT h.h,?_⟩;show ŭ a.K È (0+1) [.ref i] P Q (EX a);exact vp (i:=[.inr A]) R1 ⟨.ref i,[],rfl,⟨i,ha,rfl⟩,rfl⟩ rfl q
 ·rw[if_neg w]at q;exact q.elim
structure MD(P:n_)(w:x_)(K:d_)(mg:Str->Option B)(base:TC)(k:Nat)(C:O)(lv n:Nat)(F:Ċ):Prop where
 c:CK K k C
 g:mg (Ŝ k)=Z (.ref C)f:∃f fd ps,Mk K C f/\ì P w K mg base (Ĺ P w) lv f fd ps (ŭ K F (n+1))/\î K fd ps []
noncomputable def zV(k:Nat)(F:Ċ)(n:Nat)(d:mC):é:=λS b=>jC (d S b) λus a=>if us.length=n then jC (F (a++[.obj k []]) (.inr a.length::us)) λu S2=>(match u with|.inl .non=>Z (.ok (.inr a.length) S2)|_=>U)else U
theorem HZ{y:Nat}{gs:mC}(h:MD a.prog a.w a.K a.mg a.base b e ι k È)(a':Ý y a.A)(hk:ι+1<=y)(c':a.ex=[])(hg:Gl a (Ŝ b))(ha:UA a (g::w) gs)(e':(Ŝ b==("__debug__":Str))=D)(he:k_ (g::w) a.env=(D,eval g a.env)::k_ w a.env:=by lk)(b':(TW v (k_ w a.env)).any (·.1)=D:=by lk):UE a (.Call (.Name (Ŝ b) m) (g::w) [] v) (zV b È k gs):=by
 obtain⟨f,fd,ps,M,G,hb⟩:=h.f;refine⟨λf' s σ Hf Q I⟨H,j,S,ρ,R,E,o⟩=>F0 M G (a'.mono hk) hg h.g hb .nil (wm c') ha.h e' he b' f' s σ Hf Q I ⟨H,j,S,ρ,R,E,OU.bind o λus S1 H1 N i' e1 p1 R1 A vs rs=>?_⟩⟩;by_cases P:us.length=k
 · rw[if_pos P]at A;intro i dx ha d' z;obtain⟨H2,e2,R2,_⟩:=R1.grow (aH d' (.own i));have g':Þ i' dx (.own i) i=U:=by rw[ax (by first|exact z|exact Uq z)];exact ha
   have R3:=R2.push (o:=.ins e dx []) (c:=.obj b []) g' ⟨e,dx,[],by rw[av];simp,h.c.n,rfl,Ua _⟩;have p:(N++[i])[S1.length]?=Z i:=by rw[<-R1.len,K_ (pi _),WA];rfl
   show ŭ a.K È (k+1) (.ref i::(vs++[])) _ _ (EX a);rw[VE];refine vp (i:=.inr S1.length::us) R3 ⟨.ref i,vs,rfl,⟨i,p,rfl⟩,rs.mono e2 (Xn N [i])⟩ (by rw[TQ,P]) (OU.bind (A.mono e2 (Xn N [i])) λu S4 H4 m4 h' e4 p4 R4 q n r=>?_);match u,r,q with|.inr _,_,q=>exact q.elim|.inl d,r,q=>cases d with|non=>exact⟨r,q H4 m4 h' (.refl H4) (Q_ m4) R4 (.ref i) ⟨i,pC p4 p,rfl⟩⟩|_=>exact q.elim
 ·rw[if_neg P]at A;exact A.elim
def EN(k N:Nat)(F:ci)(g:Ò):ci:=λS b=>match F S b with|some (.rt u a)=>Z (.rt u a)|some (.exc c a)=>if c=k then(match g (N_ N U)with|some (.ok d)=>if FD.pl d=L then Z (.rt (.inl d) a)else U|_=>U)else U|_=>U
theorem ME{r':Pos}(k N:Nat)(c':a.ex=[])(t':a.stack=a.env::a.outer)(w':a.env.frame=Z a.env.locals)(v':Gl a d)(g':a.mg d=Z (.ref e))(KJ:excIn a.K e ŧ "ValueError.__new__"=L)(hk:nsIn a.K B_ (Ħ k)=Z (Z (.ref e)))(u':mroIn a.K e (.ref e)=Z L)(y':a.N.length=N)(hb:∀pl E',Ő (Jv a pl E') Ψ Â)(hh:∀pl f,FE (wn a pl f) g y)(x':(d==("__debug__":Str))=D:=by lk):US a (.Try Ψ [.ExceptHandler (Z (.Name d m)) U [.Return (Z g) v] Τ] [] [] r') (EN k N Â y):=by
 constructor;intro f' s σ Hf w I⟨H,A,S,ρ,R,E,o⟩;refine wpAny_Try_except ?_;have e':=λE'(h:OV (Jv a f' E') H A (Â S ρ) {nx:=λ_ _=>False,rt:=w.rt})=>(hb f' E').h [] s σ Hf {nx:=λ_ _=>False,rt:=w.rt} (GF I) ⟨H,A,S,ρ,R,E,h⟩;refine Uj (e' (λf m'=>u_ (D_ a.prog a.w) a.A (aa9 f a.env) (λ_ l'=>u_ (D_ a.prog a.w) a.A (setFlight f U) (λ_ k'=>u_ (D_ a.prog a.w) a.A (handleBy f a.env [.ExceptHandler (Z (.Name d m)) U [.Return (Z g) v] Τ]) (SP a f' w) a.xe k') a.xe l') a.xe m') ?_) (λfl s1 hs=>?_) λf s1 hs=>hs
 ·unfold EN at o;match hf:Â S ρ with
  |none=>rw[hf]at o;exact o.elim|some (.nx _ _)=>rw[hf]at o;exact o.elim|some (.rt u S1)=>rw[hf]at o;exact o|some (.exc c S1)=>
  rw[hf]at o;dsimp only at o;by_cases d':c=k
  · rw[if_pos d']at o;subst d';intro ps a' H0 m0 H1 s1 ev same pre R1 I1⟨f,P,he,hC,Â⟩;subst he;have z':P=e:=by rw[hC]at hk;cases hk;rfl
    subst z';have fe:H1 f=U:=Â.1;have fn:=Â.2.1;refine BV (a:=Jv a f' _) I1 c' t' w' Â (E1:=a.xe) (E2:=a.xe) λh2 Ts a0 k1 k2 k3 k4 k5=>?_;have i':=I1.pins_of (pins':=[]) λp hp=>absurd hp (by simp);have h':∀b,b=f\/b∈Ts->H1 b=U/\a.s₀.heap.get? b=U/\(∀p∈(a.pn++f')++[],p.1≠b)/\∃o vs,s1.heap.get? b=Z o/\o.data=.fields vs:=λb hb=>⟨(k5 b hb).1,(k5 b hb).2.1.1,λp hp=>(k5 b hb).2.1.2 p (by simpa using hp),(k5 b hb).2.2⟩;have I2:=Í.aft i' (uR I1 k1 k4) c' h';have J2:Í (wn a f' f) [] a' H1 {s1 with heap:=h2}:=uS (mi I2);have s':=k3;obtain⟨oe,vs,T,oT,ts,t1,⟨t2,t3⟩,t4,_⟩:=s';refine wpAny_handleBy_cons (codeAny_handlers_test (kA (a:=wn a f' f) J2 v' g' ?_ x')) (by intro z;cases z);refine yt (Θ:=λ_=>Z (.ref P)) (d:=d) J2.kIn (yr J2.kIn rfl KJ) (yr J2.kIn g' KJ) t1 t2 u' ?_;show WN _ _ (.handlers (.ref f) [.ExceptHandler U U [.Return (Z g) v] Τ] a.env) _ _;refine codeAny_handlers_suite ?_;refine X1 (s:={s1 with heap:=h2}) k1 k2 k3.at λh3 m1 m2 m3 m4=>?_;have A3:Aft (Jv a f' _) f Ts s1.heap h3:=uR I1 m1 λb o q n=>by obtain⟨sl,q'⟩:=k4 b o q n;exact⟨sl,m4 b _ q' n⟩
    have I3:=Í.aft i' A3 c' h';have J4:Í (wn a f' f) [] a' H1 {s1 with heap:=h3}:=uS (mi I3);have E5:Ü a.K H1 a' (N_ N U):=by
     refine⟨?_,λj n hj=>?_⟩;·rw[I1.len,U8];exact y'
     ·rw[Wp]at hj;split at hj<;>cases hj
    match hg:y (N_ N U)with
    |none=>rw[hg]at o;exact o.elim|some (.exc c2)=>rw[hg]at o;exact o.elim|some (.ok n)=>
     rw[hg]at o;dsimp only at o;by_cases b':FD.pl n=L
     ·rw[if_pos b']at o;have n':=(xX (Ei (m:=v) (hh f' f))).h [] _ _ _ {nx:=λ_ _=>False,rt:=w.rt} J4 ⟨_,E5,(by unfold aL;rw[hg];intro i H' e1 r;obtain⟨H2,e2,R2,dn⟩:=R1.grow e1;exact o i H2 m0 H' (same.trans e2) pre R2 (dn n i b' r))⟩;refine Uj n' (λfl s6 hs=>?_) λ_ _ z=>z.elim;cases fl with|ret u=>obtain⟨i,o',H6,J6,rv,q6⟩:=hs;have J7:Í a f' o' H6 s6:=wo I.ok J6;exact⟨i,_,H6,J7,rv,q6⟩|next=>obtain⟨_,_,_,z⟩:=hs;exact Uf z|brk=>obtain⟨_,_,_,z⟩:=hs;exact Uf z|cont=>obtain⟨_,_,_,z⟩:=hs;exact Uf z
     ·rw[if_neg b']at o;exact o.elim
  ·rw[if_neg d']at o;exact o.elim
 ·cases fl with|ret u=>obtain⟨i,p',H',I',rv,q⟩:=hs;exact⟨i,p',H',mi I',rv,q⟩|next=>obtain⟨_,_,_,z⟩:=hs;exact Uf z|brk=>obtain⟨_,_,_,z⟩:=hs;exact Uf z|cont=>obtain⟨_,_,_,z⟩:=hs;exact Uf z
abbrev oG:=List (Str×Nat×Nat×Ċ)
structure QF(P:n_)(w:x_)(K:d_)(mg:Str->Option B)(base:TC)(x:Str)(lv n:Nat)(F:Ċ):Prop where f:∃f fd ps,ì P w K mg base (Ĺ P w) lv f fd ps (ŭ K F n)/\mg x=Z (.ref f)/\UK K (.ref f)=L/\î K fd ps []
structure G'(P:n_)(w:x_)(K:d_)(mg:Str->Option B)(base:TC)(T:oG):Prop where h:∀x e,T.lookup x=Z e->QF P w K mg base x e.1 e.2.1 e.2.2
structure Ĝ(P:n_)(w:x_)(K:d_)(mg:Str->Option B)(base:TC)(k:Nat)(C:O)(T:oG):Prop where h:∀m e,T.lookup m=Z e->zU P w K mg base k C m e.1 e.2.1 e.2.2
theorem Ia:G' s r q Θ I []:=⟨λ_ _ h=>by cases h⟩
theorem CV{T:oG}(h:QF s r q Θ I d b k È)(t:G' s r q Θ I T):G' s r q Θ I ((d,b,k,È)::T):=⟨λd e z=>by
 rcases gV z with⟨rfl,rfl⟩|z;·exact h
 ·exact t.h d e z⟩
theorem Ib:Ĝ s r q Θ I b e []:=⟨λ_ _ h=>by cases h⟩
theorem fL{T:oG}(h:zU s r q Θ I b e d k ι È)(t:Ĝ s r q Θ I b e T):Ĝ s r q Θ I b e ((d,k,ι,È)::T):=⟨λx a z=>by
 rcases gV z with⟨rfl,rfl⟩|z;·exact h
 ·exact t.h x a z⟩
theorem Ic{h:TC}(w:q.In h)(y:h.Ns B_ Θ)(N g:List Str)(j:ci)(A:Af q d Δ e)(m:OK d Δ g)(u:∀(i:B)(A:C_)(f:List Env)(a:ge)(H:Hp)(E:XK),Ý b (A.deeper (Wy d (aq Δ) a.heap.objs.size e i))->Ő (oX (Ĺ s r) s r q Θ I N d (aq Δ) e i A f a H E) (bU Δ) j)(v:È=ng N.length j:=by lk)(o:ż N g (aq Δ)=L:=by lk)(p:k=g.length:=by lk):QF s r q Θ I d (b+1) k È:=let⟨_,n⟩:=A.F;⟨_,_,g,zT N g j v p n (Hu o) u,WG w y A.a,A.k,n.binds m⟩
theorem fN(c:CK q b e)(N g:List Str)(i:ci)(A:Am q e o d Δ z)(j:BdQ d o Δ g)(v:∀(h:B)(A:C_)(f:List Env)(a:ge)(H:Hp)(E:XK),Ý k (A.deeper (Wy o (aq Δ) a.heap.objs.size z h))->Ő (oX (Ĺ s r) s r q Θ I N o (aq Δ) z h A f a H E) (bU Δ) i)(w:È=ng N.length i:=by lk)(n:ż N g (aq Δ)=L:=by lk)(p:ι+1=g.length:=by lk)(u:noB b d=L:=by lk):zU s r q Θ I b e d (k+1) ι È:=let⟨_,m⟩:=A.F;⟨c,Ml u,_,_,g,A.t,zT N g i w p m (Hu n) v,m.binds j⟩
theorem Ie{h:TC}(y:q.In h)(P:h.Ns B_ Θ)(c:CK q b e)(M:Mk q e z)(N g:List Str)(j:ci)(A:∃w,ļ q "__init__" d Δ z w)(m:BdQ "__init__" d Δ g)(u:∀(i:B)(A:C_)(f:List Env)(a:ge)(H:Hp)(E:XK),Ý k (A.deeper (Wy d (aq Δ) a.heap.objs.size z i))->Ő (oX (Ĺ s r) s r q Θ I N d (aq Δ) z i A f a H E) (bU Δ) j)(v:È=ng N.length j:=by lk)(o:ż N g (aq Δ)=L:=by lk)(p:ι+1=g.length:=by lk):MD s r q Θ I b e (k+1) ι È:=let⟨_,n⟩:=A;⟨c,WG y P c.n,_,_,g,M,zT N g j v p n (Hu o) u,n.binds m⟩
noncomputable def OL(n:Nat)(a:ci):Ö:=λds=>match a [] ((ds.map λd=>Z (.inl d))++N_ (n-ds.length) U)with|some (.rt (.inl d) _)=>Z (.ok d)|_=>U
theorem vq{K:d_}{H:Hp}{m:List O}:∀{ds:List Q}{a:List V},S K H ds a->ä K H m (ds.map .inl) a|[],a,r=>r|d::ds,a,r=>by obtain⟨v,us,e,f,b⟩:∃v us,a=v::us/\Ô K H d v/\S K H ds us:=r;exact⟨v,us,e,f,vq b⟩
theorem MF(N w:List Str)(y:ci)(hF:À=OL N.length y)(hn:k=w.length)(Fn:ļ q d o Δ e Ã)(Sc:ij N w (aq Δ))(hb:∀(n:B)(A:C_)(m:List Env)(a:ge)(H:Hp)(E:XK),Ý b (A.deeper (Wy o (aq Δ) a.heap.objs.size e n))->Ő (oX į s r q Θ I N o (aq Δ) e n A m a H E).nox (bU Δ) y):ì s r q Θ I į (b+1) e Ã w (Ņ q À k):=by
 subst hF hn;obtain⟨oc,od,kV,b',pm,an,n,ct,a',rfl,lk,P⟩:=Fn.ex;refine Bx lk P Sc (λvs H Q E h=>?_) λA m a H vs Q E hr h=>?_;·obtain⟨ds,f,hl,_⟩:=h;rw[f.length,hl]
 ·obtain⟨ds,f,hl,z⟩:=h;have i:=oF (A:=N) (vq (m:=[]) f);rw[UQ,P_]at i;refine⟨_,(hb n A m a H E hr).h.nox,H,[],[],_,⟨rfl,aad,(λ_ z=>by cases z),.refl H,(λ_ _ z=>by simp at z)⟩,i,?_⟩;unfold OL at z;have e0:(ds.map λg=>Z (X7 g:Uv))=ds.map (Z∘X7):=rfl;rw[e0]at z;match u:y [] (ds.map (Z∘X7)++N_ (N.length-ds.length) U)with|none=>rw[u]at z;exact z.elim|some (.exc c S)=>rw[u]at z;exact z.elim|some (.nx ρ S)=>rw[u]at z;exact z.elim|some (.rt (.inr _) S)=>rw[u]at z;exact z.elim|some (.rt (.inl g) S)=>rw[u]at z;exactλv H' m' Hf j p R r'=>z v Hf (j.trans R.up) (Ô.mono R.up _ _ r')
theorem Ig(h:PE a g (xq b)):UE a g (da b):=Mm b h
theorem Ih(c:CK a.K k e)(f:UE a g Η)(h:(ď k)[b]?=Z d:=by lk)(i:Uy g d a.env (eval g a.env)=eval g a.env:=by lk):UE a (.Attribute g d m) (Bl k b Η):=Mn c h f i
theorem Ii(j:UE a g Η)(k:ģ a.N=L:=by lk)(h:a.N[b]?=Z d:=by lk)(e:jA a.env.scope d=L:=by lk)(i:a.fn d=L:=by lk)(f:Ux g (Z (.Name d v)) m.line a.env=pure D:=by lk):US a (.Assign [.Name d v] g m) (li b Η):=Mx b (iN k) h (fq e) j f (.inl i)
theorem Ij{f:é}(c:CK a.K k e)(j:UE a g f)(n:UE a u Η)(h:(ď k)[b]?=Z d:=by lk)(i:Ux u (Z (.Attribute g d v)) m.line a.env=pure D:=by lk):US a (.Assign [.Attribute g d v] u m) (xf k b f Η):=MB c h j n i
theorem CW{T:oG}{r:mC}(H:G' a.prog a.w a.K a.mg a.base T)(s:Ý k a.A)(h:(T.lookup d).map (λq=>q.2.2)=Z È)(o:a.ex=[])(E:UA a (g::w) r)(e:((T.lookup d).all λq=>YD q.1 k&&WB b q.2.1)=L:=by lk)(y:a.env.kindOf d=Z .globalImplicit:=by lk)(p:(d==("__debug__":Str))=D:=by lk)(z:k_ (g::w) a.env=(D,eval g a.env)::k_ w a.env:=by lk)(j:(TW m (k_ w a.env)).any (·.1)=D:=by lk):UE a (.Call (.Name d v) (g::w) [] m) (CT È b r):=by cases i:T.lookup d with|none=>rw[i]at h;cases h|some q=>rw[i]at h e;cases h;rw[Vk,m_]at e;obtain rfl:=Uu e.2;obtain⟨f,N,I,G,u,n,A⟩:=(H.h d q i).f;exact HX (G.mono (Ut e.1)) s o (ĭ y) u n A E p z j
theorem CY{T:oG}{o:mC}(A:Ĝ a.prog a.w a.K a.mg a.base b e T)(r:Ý ι a.A)(h:(T.lookup d).map (λq=>q.2.2)=Z È)(n:a.ex=[])(s:UE a g Η)(z:UA a (u::w) o)(f:((T.lookup d).all λq=>YD q.1 ι&&WB k q.2.1)=L:=by lk)(p:MC a g d (u::w) v m (Mj g a.env):=by delta MC;lk)(y:k_ (u::w) a.env=(D,eval u a.env)::k_ w a.env:=by lk)(j:(TW m (k_ w a.env)).any (·.1)=D:=by lk):UE a (.Call (.Attribute g d v) (u::w) [] m) (cH b È k Η o):=by cases i:T.lookup d with|none=>rw[i]at h;cases h|some q=>rw[i]at h f;cases h;rw[Vk,m_]at f;obtain rfl:=Uu f.2;exact HY (A.h d q i) r (Ut f.1) n s z p y j
theorem zW{T:oG}(s:Ĝ a.prog a.w a.K a.mg a.base b e T)(p:Ý k a.A)(i:(T.lookup d).map (λq=>q.2.2)=Z È)(n:a.ex=[])(r:UE a g Η)(f:((T.lookup d).all λq=>YD q.1 k&&WB 0 q.2.1)=L:=by lk)(o:MC a g d [] v m (Mj g a.env):=by delta MC;lk):UE a (.Call (.Attribute g d v) [] [] m) (cH b È 0 Η fu):=by cases j:T.lookup d with|none=>rw[j]at i;cases i|some q=>rw[j]at i f;cases i;rw[Vk,m_]at f;have h:=s.h d q j;rw[<-Uu f.2]at h;exact CU h p (Ut f.1) n r o
theorem CZ{f:Nat}{q:mC}(h:MD a.prog a.w a.K a.mg a.base b e ι k È)(i:Ý f a.A)(n:a.ex=[])(y:UA a (g::w) q)(p:Ŝ b=d:=by lk)(r:YD (ι+1) f=L:=by lk)(s:a.env.kindOf d=Z .globalImplicit:=by lk)(o:(d==("__debug__":Str))=D:=by lk)(u:k_ (g::w) a.env=(D,eval g a.env)::k_ w a.env:=by lk)(j:(TW m (k_ w a.env)).any (·.1)=D:=by lk):UE a (.Call (.Name d v) (g::w) [] m) (zV b È k q):=by subst p;exact HZ h i (Ut r) n (ĭ s) y o u j
theorem MG(b:a.A.units+64<cLine)(f:UE a g Η)(e:FE a u y)(d:TF .Eq u=D:=by lk):UE a (.Compare g [.Eq] [u] m) (fw ß Η y):=zR (Gu b) Gx f e d
theorem MH(e:UE a g Η)(d:FE a u y)(b:TF .In u=D:=by lk):UE a (.Compare g [.In] [u] m) (fw ı Η y):=zR Pu Pv e d b
theorem MI(b:a.A.units+64<cLine)(f:UE a g Η)(e:FE a u y)(d:TF .NotEq u=D:=by lk):UT a (.Compare g [.NotEq] [u] m) (uB (fw ċ Η y)):=HR (Lb b) Lc f e d
noncomputable def Itd(a:Int)(n:Nat):It:=⟨λi _=>i<n,λi H x b=>b=H/\x=.int (a+(i:Int)*(-1)),λi _=>n<=i⟩
theorem zX(d:O)(m:Int)(n:Nat):w6 s r q g (Itd m n) [d] d (λi h=>aaa h d (m+(i:Nat)*(-1)) ((n:Int)-(i:Nat)) (-1))where
 mem:=by simp
 obj:=λi h st b f=>by cases M_.mp f;exact⟨_,st,λv z=>nomatch(show UY _=Data.cell v from z)⟩
 keep:=λi h P st k=>k d (by simp) _ st;item:=by intro X A u N y i f' a σ H E I p st w;subst A u N;obtain⟨f0,f1,_,f3,f4,f5⟩:=p d (by simp);refine(Walks.range (prog:=X.prog) (w:=X.w) (I.ok.hd y) d m (-1) n).item i a _ _ w st λv P tk⟨t,hv⟩j kk=>?_;subst hv;exact⟨_,rfl,xz (f:={a with heap:=P,toks:=tk}) (n:="range_iterator") j rfl rfl (by decide) ⟨.int (m+(i:Int)*(-1)),H,I.turned (λb o f e=>kk b o (by simpa using f) e) f0 f1 f3 f4 f5,⟨t,rfl⟩,⟨rfl,rfl⟩,j,λb f=>(p b f).1⟩⟩
 done:=by intro X A u N y i f' a σ H E I p st w;subst A u N;obtain⟨f0,f1,_,f3,f4,f5⟩:=p d (by simp);exact Zs (I.ok.hd y) st (by have:n<=i:=w;omega) λP eb=>⟨rfl,I.turned (t':=a.toks) (λb o f e=>eb b o f e) f0 f1 f3 f4 f5⟩
 self:=λ_ _ _ _ _ st h=>Zt st h
theorem lj(a b:Int):Wl a b (-1)=((a-b).toNat:Int):=by unfold Wl;rw[if_neg (by decide),Int.neg_neg,Int.ediv_one];split<;>omega
structure Lk(J:It)(a c:Int)(n:Nat):Prop where
 go:∀i H,i<n->J.go i H
 yld:∀i H x H',J.yld i H x H'->H'=H/\x=.int (a+(i:Int)*c)stop:∀i H,n<=i->J.stop i H
abbrev Ś:=Ev->Option (Int×Int×Nat)
structure UI(X:C)(tg iter:s_)(w:Ś):Prop where h:PI X tg iter λσ H R=>∃ρ a c n,Ü X.K H σ ρ/\w ρ=Z (a,c,n)/\∀J H',Ð H H'->Lk J a c n->R J H'
abbrev ū(n:Int):Prop:=-(2^62)<=n/\n<2^62
noncomputable def iU1(b:à):Ś:=λa=>match b a with|some (.ok [.int n])=>if ū n then Z (0,1,n.toNat)else U|_=>U
noncomputable def iU2(e:à):Ś:=λd=>match e d with|some (.ok [.int a,.int b])=>if ū a/\ū b then Z (a,1,(b-a).toNat)else U|_=>U
noncomputable def iU3(e:à):Ś:=λd=>match e d with|some (.ok [.int a,.int b,.int (-1)])=>if ū a/\ū b then Z (a,-1,(a-b).toNat)else U|_=>U
theorem MJ(a:Int)(n:Nat):Lk (Itr a n) a 1 n:=⟨λ_ _ h=>h,λi H x b⟨h,e⟩=>⟨h,by rw[e,Int.mul_one]⟩,λ_ _ h=>h⟩
theorem SW(q:Gl a "range")(p:a.mg "range"=U)(r:FA a [u] ν)(k:k_ [u] a.env=[(D,eval u a.env)]:=by lk):UI a g (.Call (.Name "range" m) [u] [] v) (iU1 ν):=⟨λy s f H R I⟨h,a',P,N,E,d,w⟩=>by
 refine qB q p r.h k y s f H R I ⟨h,E,?_⟩;unfold iU1 at d;split at d
 · rename_i n o;rw[o];split at d;·rename_i e;cases d;intro A Hg z j;obtain⟨b,rfl,i⟩:=eP j;exact⟨n,by rw[show b=.int n from i],e.1,e.2,w _ _ z (MJ 0 _)⟩
   ·cases d
 ·cases d⟩
theorem SX(N:Gl a "range")(A:a.mg "range"=U)(P:FA a [u,Á] ν)(y:k_ [u,Á] a.env=[(D,eval u a.env),(D,eval Á a.env)]:=by lk)(k:k_ [Á] a.env=[(D,eval Á a.env)]:=by lk):UI a g (.Call (.Name "range" m) [u,Á] [] v) (iU2 ν):=⟨λf' s n H R I⟨o,h,c',n',E,e,hR⟩=>by
 refine qC N A P.h y k f' s n H R I ⟨o,E,?_⟩;unfold iU2 at e;split at e
 · rename_i i j z;rw[z];split at e;·rename_i f;cases e;intro vs Hg eg r;obtain⟨b,us,rfl,p,w⟩:=r;obtain⟨d,rfl,q⟩:=eP w;exact⟨h,j,by rw[show b=.int h from p,show d=.int j from q],⟨f.1.1,f.1.2,f.2.1,f.2.2⟩,hR _ _ eg (MJ h _)⟩
   ·cases e
 ·cases e⟩
theorem SY{c:s_}(hg:Gl a "range")(hm:a.mg "range"=U)(ha:FA a [u,Á,c] ν)(hs:k_ [u,Á,c] a.env=(D,eval u a.env)::k_ [Á,c] a.env:=by lk)(P:(TW v (k_ [Á,c] a.env)).any (·.1)=D:=by lk):UI a g (.Call (.Name "range" m) [u,Á,c] [] v) (iU3 ν):=⟨λf' s σ H R I⟨ρ,f,c',n',E,k,hR⟩=>by
 unfold iU3 at k;split at k
 · rename_i i j hq;split at k
   ·rename_i hn;cases k;refine Call_ (iP I hg hm boot_range (UC (ã (ha.h v f' s σ H (λw q=>w=[.int f,.int j,.int (-1)]/\Ð H q) I ⟨ρ,E,by rw[hq];intro w Hg eg rs;obtain⟨b,us,rfl,rv,r2⟩:=rs;obtain⟨d,us,rfl,ru,z⟩:=r2;obtain⟨y,rfl,ry⟩:=eP z;exact⟨by rw[show b=.int f from rv,show d=.int j from ru,show y=.int (-1)from ry],eg⟩⟩) λus n⟨w,q,I1,r1,e1,q1⟩=>?_) hs P));subst e1;cases r1 with|cons r p=>cases p with|cons r' p=>cases p with|cons z p=>
    cases p;obtain⟨t,rfl⟩:=r;obtain⟨t',rfl⟩:=r';obtain⟨t3,rfl⟩:=z;refine call_range_3 (by decide) ?_ (.inl (ZF (by decide)));have N:aan f j (-1)=L:=by obtain⟨⟨h1,h2⟩,h3,h4⟩:=hn;unfold aan;rw[lj];simp only[Builtin.Range.rangeFitsLong,m_,ZV,decide_eq_true_eq,beq_iff_eq,show¬((-1:Int)>0)by decide,if_false];omega
    refine wpAny_pyIter_range (IsRange.new ..) N ?_;have A:Í a f' σ q {n with heap:=n.heap.push {cls:=.type "range",data:=.fields #[.int f t,.int j t',.int (-1) t3]}}:=I1.kept (t':=n.toks) λÁ o e=>j_ _ e;refine⟨_,[(n.heap.push {cls:=.type "range",data:=.fields #[.int f t,.int j t',.int (-1) t3]}).objs.size],_,_,q,rfl,A.kept (t':=n.toks) λÁ o e=>j_ _ e,zX _ f (f-j).toNat,?_,λÁ hb=>?_,hR _ _ q1 ⟨λ_ _ h=>h,λ_ _ _ _ h=>h,λ_ _ h=>h⟩⟩;·show aaa _ _ (f+((0:Nat):Int)*(-1)) ((((f-j).toNat:Nat):Int)-((0:Nat):Int)) (-1);rw[show f+((0:Nat):Int)*(-1)=f by omega,show(((f-j).toNat:Nat):Int)-((0:Nat):Int)=Wl f j (-1)by rw[lj];omega];exact v_ _ rfl
    ·cases M_.mp hb;exact A.fpOk (pi _) (A.hok.fresh (pi _))
   ·cases k
 ·cases k⟩
def lB(i:Nat)(d:List Nat)(F:ci)(a c:Int):Nat->Nat->Ú->í->Option Ť|0,_,S,b=>Z (.nx (HW d b) S)|n+1,k,S,b=>match F S ((HW d b).set i (Z (.inl (.int (a+(k:Int)*c)))))with|some (.nx e f)=>lB i d F a c n (k+1) f e|o=>o
def rK(i:Nat)(d:List Nat)(w:Ś)(F:ci):ci:=λS b=>match w (õ S b)with|some (a,c,n)=>lB i d F a c n 0 S b|none=>U
theorem Ik{w:Ś}(i:Nat)(N:List Nat)(hp:WH (D_ a.prog a.w) a.A a.env a.xe)(hc:a.calm=L)(hi:UI a g u w)(hn:PG a g (sM i))(hb:Ő a Ψ Â)(g':∀x,TM u a.env x=pure x:=by intro _;lk):US a (.For g u Ψ [] m) (rK i N w Â):=⟨λf' s σ Hf f I⟨H,d,S,ρ,R,E,o⟩=>by unfold rK at o;match hq:w (õ S ρ)with
 |none=>rw[hq]at o;exact o.elim|some (b,c,n)=>
 rw[hq]at o;dsimp only at o;refine qE hp hc hi.h hn hb.h g' f' s σ Hf f I ⟨õ S ρ,b,c,n,R.envs E,hq,λJ Hg eg e=>?_⟩;obtain⟨H0,e0,R0,_⟩:=R.grow eg;refine⟨λk q a' b'=>q=n-k/\k<=n/\∃z A S' j,SR a.K z A S' b'/\ó a.K z A a' j/\OV a z A (lB i N Â b c (n-k) k S' j) f,⟨n,by simp,Ua _,H0,d,S,ρ,R0,E.mono e0 (Q_ d),by simpa using o.mono e0 (Q_ d)⟩,?_⟩;rintro k q a' b'⟨rfl,hk,z,A,S',j,R',E',h⟩;by_cases c':k<n;·refine .inr ⟨e.go k _ c',λP d'=>∃H2 m2 S2 p,SR a.K H2 m2 S2 d'/\ó a.K H2 m2 P p/\OV a H2 m2 (lB i N Â b c (n-(k+1)) (k+1) S2 p) f,λP d' q=>⟨n-(k+1),by omega,rfl,c',q⟩,λx H2 y=>?_⟩;obtain⟨rfl,rfl⟩:=e.yld k _ x H2 y;rw[show n-k=(n-(k+1))+1 by omega]at h;unfold lB at h;show tVU a Â _ _ _;refine⟨z,A,S',(HW N j).set i (Z (.inl (.int (b+(k:Int)*c)))),R',(ó.fgt N E').set (show Ô a.K z (.int (b+(k:Int)*c)) (.int (b+(k:Int)*c))from rfl),?_⟩;match v:Â S' ((HW N j).set i (Z (.inl (.int (b+(k:Int)*c)))))with|none=>rw[v]at h;exact h|some (.exc c _)=>rw[v]at h;exact h|some (.rt r _)=>rw[v]at h;exact h|some (.nx p S2)=>rw[v]at h;exactλP H3 m3 h' e3 p3 R3 E3=>⟨H3,m3,S2,p,R3,E3,OV.mono h e3 p3⟩
 · have e':k=n:=by omega
   subst e';rw[WA]at h;exact .inl ⟨e.stop k _ (pi _),h a' z A b' (.refl z) (Q_ A) R' (ó.fgt N E')⟩⟩
noncomputable def C9(b:List (Str×Nat))(a:í):í:=b.map λc=>(a[c.2]?).join
theorem Da(g:List (Str×Nat))(E:ó q h ο Ι υ):ó q h ο (l8 1 g Ι) (U::C9 g υ):=by refine⟨by simp[l8,C9],λi d b=>?_⟩;obtain⟨k,rfl,e⟩:=mf (b:=1) b;rw[L_]at e;cases f:g[k]? with|none=>rw[f]at e;simp at e|some c=>
 rw[f]at e;simp only[VY,WP]at e;have n:υ[c.2]?=Z (Z d):=by cases a:υ[c.2]? with|none=>rw[a]at e;simp at e|some o=>rw[a]at e;simp at e;rw[e]
 obtain⟨v,m,j⟩:=E.at' c.2 d n;refine⟨v,?_,j⟩;unfold l8;rw[K_ (by simp)];simp[f,m]
noncomputable def EO(f:é)(a c:Int):Nat->Nat->Ú->í->Option (List Q×Ú)|0,_,S,_=>Z ([],S)|n+1,k,S,b=>match f S (Z (.inl (.int (a+(k:Int)*c)))::b)with|some (.ok (.inl d) e)=>(match EO f a c n (k+1) e b with|some (ds,S2)=>Z (d::ds,S2)|none=>U)|_=>U
def wE(e:List (Str×Nat))(w:Ś)(f:é):é:=λS b=>match w (õ S b)with|some (a,c,n)=>if n<=100000 then(match EO f a c n 0 S (C9 e b)with|some (ds,d)=>Z (.ok (.inr d.length) (d++[.lst ds]))|none=>U)else U|none=>U
theorem Il{w:Ś}(g':U_)(N:List Str)(x:Str)(cs:List (Str×Nat))(k':a.env.scope=g')(hN:a.N=N)(ok:io g' ξ cs N)(t':WS ξ a.env=pure (lc ξ.names a.env []))(hc:a.calm=L)(hi:UI a g Á w)(q':∀h s H fp,PG (ao a ([x]++cs.map (·.1)) ξ h s H fp) g (sM 0))(l':∀h s H fp,UE (ao a ([x]++cs.map (·.1)) ξ h s H fp) u Η)(hs:∀x,TM Á a.env x=pure x:=by intro _;lk):UE a (.ListComp u [⟨g,Á,[],0⟩] ξ m) (wE cs w Η):=⟨λf' s σ Hf Q I⟨H,j,k,ρ,y,E,o⟩=>by subst k' hN;unfold wE at o;match hq:w (õ k ρ)with
 |none=>rw[hq]at o;exact o.elim|some (f,c,n)=>
 rw[hq]at o;dsimp only at o;by_cases hn:n<=100000;·rw[if_pos hn]at o;match hm:EO Η f c n 0 k (C9 cs ρ)with
 |none=>rw[hm]at o;exact o.elim|some (ds,Sf)=>
  rw[hm]at o;dsimp only at o;rw[eval_ListComp];refine Xa (use:=U) rfl hs t' ok.kind ok.names (ã (hi.h f' s σ Hf (λJ H'=>Ð Hf H'/\Lk J f c n) I ⟨õ k ρ,f,c,n,y.envs E,hq,λJ H' e l=>⟨e,l⟩⟩) λv s1 h1=>ã h1 λB' s2 h2=>?_);obtain⟨it,fp,tn,J,h',e,I2,T,n',R,v',p⟩:=h2;subst e;obtain⟨H0,e0,R0,_⟩:=y.grow v';refine ow (A:=[x]) cs ok hc I2 T n' R n (λi vs e' c'=>i<=n/\vs.length=i/\∃H' m' S' es zs,Ð H0 H'/\j<+:m'/\SR a.K H' m' S' c'/\ó a.K H' m' e' (U::C9 cs ρ)/\S a.K H' es vs/\EO Η f c (n-i) i S' (C9 cs ρ)=Z (zs,Sf)/\es++zs=ds) (λi vs σ H⟨h1,h2,_⟩=>by omega) ⟨Ua _,rfl,H0,j,k,[],ds,.refl H0,Q_ j,R0,Da cs (E.mono e0 (Q_ j)),rfl,hm,rfl⟩ (λvs a' H5 _=>p.stop n H5 (pi n)) (λi vs a' H5 b' _=>p.go i H5 b') (λh i vs a' H5 xv H7 b'⟨_,p',H',m',S',es,zs,eH,pm,R',E',r',P,hz⟩hy Y hY f' s7 A I7 r7=>?_) (RR:=λx' h=>compPost (D_ a.prog a.w) a.A a.xe U (EP a f' σ Q) x' h) λq h s6 H5 e' vs m6 I6 D5⟨_,_,H',m',S',es,zs,eH,pm,R',_,r',P,hz⟩n6 C6 CD hC=>?_
  · obtain⟨rfl,rfl⟩:=p.yld i _ xv H7 hy;subst hY;refine Uj (q' h s2 h' fp f' s7 a' _ _ A (λd' H8=>d'=a'.set 0 (Z (.int (f+(i:Int)*c)))/\H8=_) I7 r7 ⟨rfl,rfl⟩) (λ_ s8⟨d',H8,I8,e8,u'⟩=>?_) λ_ _ z=>Uf z;subst e8 u';refine wpAny_tests_nil ?_;rw[if_pos rfl];rw[show n-i=(n-(i+1))+1 by omega]at P;unfold EO at P;have E8:ó a.K H' m' (a'.set 0 (Z (.int (f+(i:Int)*c)))) (Z (.inl (.int (f+(i:Int)*c)))::C9 cs ρ):=E'.set (i:=0) (d:=.inl (.int (f+(i:Int)*c))) (show Ô a.K H' (.int (f+(i:Int)*c)) (.int (f+(i:Int)*c))from rfl);split at P
    · rename_i d S1 hf;split at P;·rename_i w' S2 s';cases P;refine Uj ((l' h s2 h' fp).h f' s8 _ _ (λv c'=>∃H1 m1,Ð H' H1/\m'<+:m1/\SR a.K H1 m1 S1 c'/\Ô a.K H1 d v) I8 ⟨H',m',S',_,R',E8,by rw[hf];exactλH1 m1 C' e1 p1 R1 v r=>⟨H1,m1,e1,p1,R1,r⟩⟩) (λw A'⟨yv,z',y',i',H1,m1,e1,p1,R1,r1⟩=>?_) λ_ _ z=>Uf z;exact⟨yv,_,z',y',i',b',by rw[T_,p'];rfl,H1,m1,S1,es++[d],w',eH.trans e1,pm.trans p1,R1,ó.fgt1 (υ:=Z _::C9 cs ρ) 0 (E8.mono e1 p1),(S.mono e1 _ _ r').append ⟨yv,[],rfl,r1,rfl⟩,s',by rw[VB];exact hz⟩
      ·cases P
    ·cases P
  · rw[WA]at P;cases P;rw[VE]at hz;subst hz;refine⟨m6,n6,λh7 o'=>?_⟩;have Cn:(Þ H5 q (.lst vs)) h=U:=by rw[ax CD];exact C6
    obtain⟨q0,q1,q2,q3,q4,q5⟩:=I2.fpOk hC Cn;have I7:Í a f' σ (Þ H5 q (.lst vs)) {s6 with heap:=h7}:=I6.turned (t':=s6.toks) (λb o hb e=>o'.extBut b o hb e) q0 q1 q3 q4 q5;exact⟨.ref q,_,I7,rfl,R'.newL r' D5 (OU.mono o (e0.trans eH) pm)⟩
 ·rw[if_neg hn]at o;exact o.elim⟩
noncomputable def uOk(f:é):é:=λS a=>match f S a with|some (.ok u b)=>Z (.ok u b)|_=>U
theorem Db{T:oG}(hT:Ĝ a.prog a.w a.K a.mg a.base b e T)(hr:Ý k a.A)(y:(T.lookup d).map (λq=>q.2.2)=Z È)(ho:UE a g Η)(hk:((T.lookup d).all λq=>YD q.1 k&&WB 0 q.2.1)=L:=by lk)(ht:MC a g d [] v m (Mj g a.env):=by delta MC;lk):UE a (.Call (.Attribute g d v) [] [] m) (uOk (cH b È 0 Η fu)):=by cases hq:T.lookup d with|none=>rw[hq]at y;cases y|some q=>rw[hq]at y hk;cases y;rw[Vk,m_]at hk;have h:=hT.h d q hq;rw[<-Uu hk.2]at h;obtain⟨f,fd,ps,hm,G,hb⟩:=h.f;refine⟨λf' s σ Hf Q I⟨H,d,S,ρ,R,E,g⟩=>oW (k:=Mj _ a.env) ho.h h.c.c hm (G.mono (Ut hk.1)) hr hb .nil Qy ht f' s σ Hf Q I ⟨H,d,S,ρ,R,E,?_⟩⟩;unfold uOk cH jC at g;match hg:Η S ρ with|none=>rw[hg]at g;exact g.elim|some (.exc c N)=>rw[hg]at g;exact g.elim|some (.ok (.inl o) N)=>rw[hg]at g;exact g.elim|some (.ok (.inr P) N)=>rw[hg]at g;intro H1 m1 c' e1 p1 R1 i⟨j,ha,hv⟩;subst hv;dsimp only at g;match hs:N[P]? with
 |none=>rw[hs]at g;exact g.elim|some (.lst ds)=>rw[hs]at g;exact g.elim|some (.obj k' fs)=>
 rw[hs]at g;dsimp only at g;by_cases a':k'=b
 ·subst a';rw[if_pos rfl]at g;obtain⟨w,b',C',dx,vs,h1,h2,h3,h4⟩:=R1.at' P _ hs;rw[ha]at b';cases b';rw[rJ h.c h2]at h1;refine⟨j,dx,_,rfl,h1,iT h.h,H1,m1,N,[.inr P],R1,⟨.ref j,[],rfl,⟨j,ha,rfl⟩,rfl⟩,rfl,?_⟩;have A:OU a H d (match q.2.2 N [.inr P]with|some (.ok u S')=>Z (.ok u S')|_=>U) λu H' m' z=>∀i,Ć a.K H' m' u i->Q i z:=g;match y:q.2.2 N [.inr P]with|none=>rw[y]at A;exact A.elim|some (.ok u S')=>rw[y]at A;exactλi H' m' z n p R' r=>A H' m' z (e1.trans n) (p1.trans p) R' i r|some (.exc c S')=>rw[y]at A;exact A.elim
 ·rw[if_neg a']at g;exact g.elim
noncomputable def OM(p:nq):nq:=λS a=>jC (p S a) λb d=>Z (.ok (!b) d)
theorem Im{p:nq}(n:UT a g p):UT a (.UnaryOp .Not g m) (OM p):=⟨λq s h u Q I⟨H,b,S,i,R,E,o⟩=>DZ n.h q s h u Q I ⟨H,b,S,i,R,E,OU.bind o λk y f e d w v r j=>j f e d (.refl f) (Q_ e) r⟩⟩
theorem Dc{w:Ś}{f:List Nat}(i:WH (D_ a.prog a.w) a.A a.env a.xe)(k:UI a (.Name d v) g w)(p:Ő a Ψ Â)(o:a.calm=L:=by lk)(q:ģ a.N=L:=by lk)(h:a.N[b]?=Z d:=by lk)(j:jA a.env.scope d=L:=by lk)(n:a.fn d=L:=by lk)(e:∀d,TM g a.env d=pure d:=by intro _;lk):US a (.For (.Name d v) g Ψ [] m) (rK b f w Â):=Ik b f i o k (gL (iN q) h (fq j) (.inl n)) p e
theorem Dd{w:Ś}{e:List (Str×Nat)}(p:UI a (.Name d v) g w)(f:∀b s H n,UE (ao a (d::e.map (·.1)) ξ b s H n) u Η)(h:Hn a.env.scope ξ e a.N=L:=by lk)(j:WS ξ a.env=pure (lc ξ.names a.env []):=by lk)(q:a.calm=L:=by lk)(i:ģ (d::e.map (·.1))=L:=by lk)(k:jA ξ d=L:=by lk)(o:∀d,TM g a.env d=pure d:=by intro _;lk):UE a (.ListComp u [⟨.Name d v,g,[],0⟩] ξ m) (wE e w Η):=Il a.env.scope a.N d e rfl rfl (vj h) j q p (λb s H n=>gL (iN i) rfl (Ž k).1 (Ž k).2) f o
theorem wF{g:Û}(h:Μ δ=Z (.ok L)):br Μ Ρ g δ=Ρ δ:=by unfold br;rw[h];rfl
theorem aX{p:ε->Bool}{l:List ε}(h:l.all p=L){x:ε}(a:x∈l):p x=L:=Ul.mp h x a
end FD
variable{υ:FD.í}{p:FD.Ú}{Η:FD.é}{Â:FD.ci}{È:FD.Ċ}
namespace G
open L2 FD
noncomputable def Ó(i:Nat):Us:=p9_.main.body.getD i (.Pass ⟨0,0,0,0⟩)
section
variable{X:C}{a b c o e:s_}{es:List s_}{fa fb fc fo:Ò}{ga:à}{pos p pt apos cpos:Pos}
theorem MK(e:FE X a fa)(d:FE X b fb):FE X (.BinOp a .Add b pos) (R bX fa fb):=we ž KY e d
theorem ML(e:FE X a fa)(d:FE X b fb):FE X (.BinOp a .Add b pos) (R c9 fa fb):=we Lu Lv e d
theorem MM(e:FE X a fa)(d:FE X b fb):FE X (.BinOp a .Sub b pos) (R kG fa fb):=we J9 Pp e d
theorem MN(e:FE X a fa)(d:FE X b fb):FE X (.BinOp a .Mult b pos) (R kx fa fb):=we Ka Pq e d
theorem MO(e:FE X a fa)(d:FE X b fb):FE X (.BinOp a .Mod b pos) (R jQ fa fb):=we Kb Pr e d
theorem Io(e:FE X a fa)(d:FE X b fb):FE X (.BinOp a .FloorDiv b pos) (R jV fa fb):=we FQ KZ e d
theorem MP(d:X.A.units+64<cLine)(g:FE X a fa)(f:FE X b fb)(e:TF .Eq b=D:=by lk):FT X (.Compare a [.Eq] [b] pos) (fB (R ß fa fb)):=jy (Gu d) Gx g f e
theorem MQ(d:X.A.units+64<cLine)(g:FE X a fa)(f:FE X b fb)(e:TF .NotEq b=D:=by lk):FT X (.Compare a [.NotEq] [b] pos) (fB (R ċ fa fb)):=jy (Lb d) Lc g f e
theorem MR(f:FE X a fa)(e:FE X b fb)(d:TF .Lt b=D:=by lk):FT X (.Compare a [.Lt] [b] pos) (fB (R Ż fa fb)):=jy Ld Le f e d
theorem MS(f:FE X a fa)(e:FE X b fb)(d:TF .Gt b=D:=by lk):FT X (.Compare a [.Gt] [b] pos) (fB (R Ŋ fa fb)):=jy Kd (K1 _) f e d
theorem MT(f:FE X a fa)(e:FE X b fb)(d:TF .Is b=D:=by lk):FT X (.Compare a [.Is] [b] pos) (fB (R Ď fa fb)):=jy Ea K2 f e d
theorem Ip(f:FE X a fa)(e:FE X b fb)(d:TF .IsNot b=D:=by lk):FT X (.Compare a [.IsNot] [b] pos) (fB (R nW fa fb)):=jy xE Em f e d
theorem Iq(d:X.A.units<cLine)(g:FE X a fa)(f:FE X b fb)(e:TF .Eq b=D:=by lk):FT X (.Compare a [.Eq] [b] pos) (fB (R OE fa fb)):=jy (Pz d) PB g f e
theorem MU(d:X.A.units+64<cLine)(g:FE X a fa)(f:FE X b fb)(e:TF .Gt b=D:=by lk):FT X (.Compare a [.Gt] [b] pos) (fB (R gtT fa fb)):=jy (Qs d) Qt g f e
theorem MV(f:FE X a fa)(e:FE X b fb)(d:TF .In b=D:=by lk):FT X (.Compare a [.In] [b] pos) (fB (R ı fa fb)):=jy Pu Pv f e d
theorem zY(f:FE X a fa)(e:FE X b fb)(d:TF .NotIn b=D:=by lk):FT X (.Compare a [.NotIn] [b] pos) (fB (R lh fa fb)):=jy yf yg f e d
theorem MW(d:X.A.units+64<cLine)(g:FE X a fa)(f:FE X b fb)(e:TF .Eq b=D:=by lk):FE X (.Compare a [.Eq] [b] pos) (R ß fa fb):=k9 (Gu d) Gx g f e
theorem MX(f:FE X a fa)(e:FE X b fb)(d:TF .Lt b=D:=by lk):FE X (.Compare a [.Lt] [b] pos) (R Ż fa fb):=k9 Ld Le f e d
theorem MY(f:FE X a fa)(e:FE X b fb)(d:TF .LtE b=D:=by lk):FE X (.Compare a [.LtE] [b] pos) (R Ĳ fa fb):=k9 P6 P7 f e d
theorem MZ(f:FE X a fa)(e:FE X b fb)(d:TF .Gt b=D:=by lk):FE X (.Compare a [.Gt] [b] pos) (R Ŋ fa fb):=k9 Kd (K1 _) f e d
theorem M1(f:FE X a fa)(e:FE X b fb)(d:TF .Is b=D:=by lk):FE X (.Compare a [.Is] [b] pos) (R Ď fa fb):=k9 Ea K2 f e d
theorem Ir(f:FE X a fa)(e:FE X b fb)(d:TF .IsNot b=D:=by lk):FE X (.Compare a [.IsNot] [b] pos) (R nW fa fb):=k9 xE Em f e d
theorem M3(f:FE X a fa)(e:FE X b fb)(d:TF .In b=D:=by lk):FE X (.Compare a [.In] [b] pos) (R ı fa fb):=k9 Pu Pv f e d
theorem zZ(f:FE X a fa)(e:FE X b fb)(d:TF .NotIn b=D:=by lk):FE X (.Compare a [.NotIn] [b] pos) (R lh fa fb):=k9 yf yg f e d
theorem M4(h:X.mg "isinstance"=U)(g:X.mg "int"=U)(j:FE X a fa)(i:X.env.kindOf (b_ "isinstance")=Z .globalImplicit:=by lk)(f:X.env.kindOf (b_ "int")=Z .globalImplicit:=by lk)(d:k_ [a,.Name (b_ "int") pt] X.env=(D,eval a X.env)::k_ [.Name (b_ "int") pt] X.env:=by lk)(b:k_ [.Name (b_ "int") pt] X.env=(D,eval (.Name (b_ "int") pt) X.env)::k_ [] X.env:=by lk)(e:(TW pos (k_ [.Name (b_ "int") pt] X.env)).any (·.1)=D:=by lk):FE X (.Call (.Name "isinstance" p) [a,.Name (b_ "int") pt] [] pos) (f1 (jR qX) fa):=uP (T:="int") GQ LD (by decide+kernel) (by lk) i h f g j d b e
theorem M5(h:X.mg "isinstance"=U)(g:X.mg "str"=U)(j:FE X a fa)(i:X.env.kindOf (b_ "isinstance")=Z .globalImplicit:=by lk)(f:X.env.kindOf (b_ "str")=Z .globalImplicit:=by lk)(d:k_ [a,.Name (b_ "str") pt] X.env=(D,eval a X.env)::k_ [.Name (b_ "str") pt] X.env:=by lk)(b:k_ [.Name (b_ "str") pt] X.env=(D,eval (.Name (b_ "str") pt) X.env)::k_ [] X.env:=by lk)(e:(TW pos (k_ [.Name (b_ "str") pt] X.env)).any (·.1)=D:=by lk):FE X (.Call (.Name "isinstance" p) [a,.Name (b_ "str") pt] [] pos) (f1 (jR qQ) fa):=uP (T:="str") Go K8 (by decide+kernel) (by lk) i h f g j d b e
theorem De(h:X.mg "isinstance"=U)(g:X.mg "tuple"=U)(j:FE X a fa)(i:X.env.kindOf (b_ "isinstance")=Z .globalImplicit:=by lk)(f:X.env.kindOf (b_ "tuple")=Z .globalImplicit:=by lk)(d:k_ [a,.Name (b_ "tuple") pt] X.env=(D,eval a X.env)::k_ [.Name (b_ "tuple") pt] X.env:=by lk)(b:k_ [.Name (b_ "tuple") pt] X.env=(D,eval (.Name (b_ "tuple") pt) X.env)::k_ [] X.env:=by lk)(e:(TW pos (k_ [.Name (b_ "tuple") pt] X.env)).any (·.1)=D:=by lk):FE X (.Call (.Name "isinstance" p) [a,.Name (b_ "tuple") pt] [] pos) (f1 (jR sX) fa):=uP (T:="tuple") Gp BK (by decide+kernel) (by lk) i h f g j d b e
theorem Iu(h:X.mg "isinstance"=U)(g:X.mg "bool"=U)(j:FE X a fa)(i:X.env.kindOf (b_ "isinstance")=Z .globalImplicit:=by lk)(f:X.env.kindOf (b_ "bool")=Z .globalImplicit:=by lk)(d:k_ [a,.Name (b_ "bool") pt] X.env=(D,eval a X.env)::k_ [.Name (b_ "bool") pt] X.env:=by lk)(b:k_ [.Name (b_ "bool") pt] X.env=(D,eval (.Name (b_ "bool") pt) X.env)::k_ [] X.env:=by lk)(e:(TW pos (k_ [.Name (b_ "bool") pt] X.env)).any (·.1)=D:=by lk):FE X (.Call (.Name "isinstance" p) [a,.Name (b_ "bool") pt] [] pos) (f1 (jR fY) fa):=uP (T:="bool") BI Gs (by decide+kernel) (by lk) i h f g j d b e
theorem pE(a:FE X o fo)(b:FA X (e::es) ga)(h:ų X o "startswith" e es apos cpos:=by exact⟨by lk,by lk,by lk,by lk,by lk⟩):FE X (.Call (.Attribute o "startswith" apos) (e::es) [] cpos) (fM (qR Ud) fo ga):=rE PySem.F.slot_str_startswith PySem.F.type_str_startswith Px Er a b h
theorem tH(a:FE X o fo)(b:FA X (e::es) ga)(h:ų X o "endswith" e es apos cpos:=by exact⟨by lk,by lk,by lk,by lk,by lk⟩):FE X (.Call (.Attribute o "endswith" apos) (e::es) [] cpos) (fM (qR Yx) fo ga):=rE PySem.F.slot_str_endswith PySem.F.type_str_endswith Py Er a b h
theorem Df(a:FE X o fo)(b:FA X (e::es) ga)(h:ų X o "split" e es apos cpos:=by exact⟨by lk,by lk,by lk,by lk,by lk⟩):FE X (.Call (.Attribute o "split" apos) (e::es) [] cpos) (fM (iH) fo ga):=rE Xw PySem.F.type_str_split BL Gy a b h
theorem Iw(a:FE X o fo)(b:FA X (e::es) ga)(h:ų X o "join" e es apos cpos:=by exact⟨by lk,by lk,by lk,by lk,by lk⟩):FE X (.Call (.Attribute o "join" apos) (e::es) [] cpos) (fM (BM) fo ga):=rE PySem.F.slot_str_join PySem.F.type_str_join Gz Lg a b h
theorem rL(a:FE X o fo)(b:FA X (e::es) ga)(h:ų X o "partition" e es apos cpos:=by exact⟨by lk,by lk,by lk,by lk,by lk⟩):FE X (.Call (.Attribute o "partition" apos) (e::es) [] cpos) (fM (pb) fo ga):=rE Zi PySem.F.type_str_partition GA Li a b h
theorem Dg(a:FE X o fo)(b:FA X (e::es) ga)(h:ų X o "strip" e es apos cpos:=by exact⟨by lk,by lk,by lk,by lk,by lk⟩):FE X (.Call (.Attribute o "strip" apos) (e::es) [] cpos) (fM (mj) fo ga):=rE PySem.F.slot_str_strip PySem.F.type_str_strip BW GG a b h
theorem Dh(a:FE X o fo)(b:FA X (e::es) ga)(h:ų X o "rfind" e es apos cpos:=by exact⟨by lk,by lk,by lk,by lk,by lk⟩):FE X (.Call (.Attribute o "rfind" apos) (e::es) [] cpos) (fM (OD ab0) fo ga):=rE PySem.F.slot_str_rfind PySem.F.type_str_rfind BJ K7 a b h
theorem M6(a:FE X o fo)(b:FA X (e::es) ga)(h:ų X o "index" e es apos cpos:=by exact⟨by lk,by lk,by lk,by lk,by lk⟩):FE X (.Call (.Attribute o "index" apos) (e::es) [] cpos) (fM Lw fo ga):=rE PySem.F.slot_str_index PySem.F.type_str_index Lx PQ a b h
theorem dN{x:Str}(h:FE X (.Name x p) fa):FE X (.Name x p) fa:=h
theorem dC{k:Const}{n:Nat}(h:FE X (.Constant k n p) fa):FE X (.Constant k n p) fa:=h
theorem dA(h:FA X es ga):FA X es ga:=h
theorem dK{x:Str}{a:List VI}(h:FE X (.Call (.Name x p) es a pos) fa):FE X (.Call (.Name x p) es a pos) fa:=h
theorem dM{x:Str}{a:List VI}(h:FE X (.Call (.Attribute o x p) es a pos) fa):FE X (.Call (.Attribute o x p) es a pos) fa:=h
theorem dB{d:Operator}(h:FE X (.BinOp a d b pos) fa):FE X (.BinOp a d b pos) fa:=h
theorem dQ{b:List P'}(h:FE X (.Compare a b es pos) fa):FE X (.Compare a b es pos) fa:=h
theorem dT{fb:æ}(h:FT X a fb):FT X a fb:=h
theorem dW{fb:æ}(h:FW X a fb):FW X a fb:=h
theorem dE(h:FE X a fa):FE X a fa:=h
theorem dSs{a:List Us}{f:Û}(h:ġ X a f):ġ X a f:=h
theorem dS{a:Us}{f:Û}(h:FS X a f):FS X a f:=h
end
local macro_rules|`(tactic|walk_at"x")=>`(tactic|(first
 |with_reducible((fail_if_success(fail_if_success refine dN ?_));first|exact Ph _ (by lk) (by kernel_rfl!)|exact Pi _ (by lk) (by kernel_rfl!)|exact Qk (by room) (by kernel_rfl!)|exact Ql (by room) (by kernel_rfl!))|with_reducible((fail_if_success(fail_if_success refine dC ?_));first|exact Ku|exact Kx|exact Pj|exact Kw)|with_reducible((fail_if_success(fail_if_success refine dA ?_));first|exact xW|refine sU ?_ ?_)|with_reducible((fail_if_success(fail_if_success refine dK ?_));first|refine Cq (by room) (by room) (by kernel_rfl!) ?_|refine zt (by room) (by room) (by kernel_rfl!) (by lk) ?_|refine yS ?_ (by lk) (ĭ (by lk)) ?_ (ĭ (by lk)) ?_ ?_|refine K4 (ĭ (by lk)) ?_ ?_|refine BN (ĭ (by lk)) ?_ ?_|refine Ce (ĭ (by lk)) ?_ ?_|refine Ha (ĭ (by lk)) ?_ ?_|refine K5 (by lk) (ĭ (by lk)) ?_ ?_|refine LP (by lk) (ĭ (by lk)) ?_ ?_|refine LF (by lk) (ĭ (by lk)) ?_ ?_|refine M4 ?_ ?_ ?_|refine M5 ?_ ?_ ?_|refine De ?_ ?_ ?_|refine Iu ?_ ?_ ?_)|with_reducible((fail_if_success(fail_if_success refine dM ?_));first|refine pE ?_ ?_|refine tH ?_ ?_|refine Df ?_ ?_|refine Iw ?_ ?_|refine rL ?_ ?_|refine Dg ?_ ?_|refine Dh ?_ ?_|refine M6 ?_ ?_|refine BP ?_ ?_|refine zO (by room) (by room) (by kernel_rfl!) (by lk) ?_)|with_reducible((fail_if_success(fail_if_success refine dB ?_));first|refine MK ?_ ?_|refine ML ?_ ?_|refine MM ?_ ?_|refine MN ?_ ?_|refine MO ?_ ?_|refine Io ?_ ?_)|with_reducible((fail_if_success(fail_if_success refine dQ ?_));first|refine MW ?_ ?_ ?_|refine MX ?_ ?_|refine MY ?_ ?_|refine MZ ?_ ?_|refine M1 ?_ ?_|refine Ir ?_ ?_|refine M3 ?_ ?_|refine zZ ?_ ?_)|with_reducible((fail_if_success(fail_if_success refine dT ?_));first|refine MP ?_ ?_ ?_|refine MQ ?_ ?_ ?_|refine MR ?_ ?_|refine MS ?_ ?_|refine MT ?_ ?_|refine Ip ?_ ?_|refine Iq ?_ ?_ ?_|refine MU ?_ ?_ ?_|refine MV ?_ ?_|refine zY ?_ ?_|refine FW.ft (Eh ?_ ?_)|refine FW.ft (KB ?_ ?_)|refine KC ?_|refine Ky ?_)|with_reducible((fail_if_success(fail_if_success refine dW ?_));first|refine Eh ?_ ?_|refine KB ?_ ?_|refine F9 ?_|refine Kz ?_)|with_reducible((fail_if_success(fail_if_success refine dE ?_));first|refine L3 ?_ ?_|refine KM ?_|refine KL ?_|refine KF ?_|refine KG ?_ ?_|refine Pk ?_ ?_|refine KH ?_|refine K0 ?_|refine Pl ?_ ?_ ?_|refine K3 ?_ ?_ ?_|refine GH ?_ ?_ ?_|refine Qm ?_ ?_ ?_|refine Qp ?_ ?_ ?_|refine HM (by room) ?_)|with_reducible((fail_if_success(fail_if_success refine dSs ?_));first|exact Ga|refine zK ?_ ?_ ?_|refine xX ?_|refine Cu ?_ ?_|refine BD ?_ ?_)|with_reducible((fail_if_success(fail_if_success refine dS ?_));first|refine Ei ?_|refine Pn ?_ ?_ ?_|refine Gb ?_|refine Qo ?_ ?_ ?_ (by kernel_rfl!)|refine Ho ?_|refine Lo (by lk) ?_ ?_|refine Hr ?_ ?_ ?_|refine Cv ?_ ?_ ?_|refine BU _ (by with_unfolding_all exact Đ.xc (by assumption) _ (by decide)) (by lk) (by with_unfolding_all exact CA.c (by assumption) (by decide) rfl) (by lk) (by lk) (ĭ (by lk)) ?_)|with_reducible first|exact Gi|refine Gj ?_|exact Cr|refine Ct ?_|intro _ _ _ _|refine xZ (ĭ (by lk)) ?_ ?_|refine ya (ĭ (by lk)) ?_ ?_|refine KQ ?_|refine BR (ĭ (by lk)) ?_ ?_|refine GZ (ĭ (by lk)) ?_ ?_|refine FI.toG ?_|refine HH ?_ ?_ ?_|refine HF ?_|refine HI ?_ ?_ ?_|refine HJ ?_ ?_ ?_|refine zL (by room) (by room) (by kernel_rfl!) ?_ ?_|refine zM (by room) (by room) (by room) (by kernel_rfl!)|refine HK ?_ ?_|refine Qx ?_|refine Cw ?_|exact Lm|exact GN|refine GO ?_|refine B4 ?_ ?_|refine LA ?_|refine Lz ?_ ?_ ?_|refine PY (by lk) ?_ ?_ ?_|refine Ht ?_ (kO (by lk) (by lk) (by lk) (by lk))|refine Cd (by lk) (kO (by lk) (by lk) (by lk) (by lk)) ?_ ?_|refine Hq ?_|refine Hs ?_ ?_ ?_
 |assumption|exact MA.no (by assumption) (by lk)|exact Ý.units (by assumption)|exact Ý.units0 (by assumption)|exact PassesOwn.never|exact PassesOwn.leaving|with_reducible first|exact HS|refine HU ?_|refine CS ?_ ?_|refine Ii ?_|refine HV ?_|refine My ?_|refine QD ?_ ?_ ?_|refine Dc ?_ ?_ ?_|refine SW (ĭ (by lk)) ?_ ?_|refine SX (ĭ (by lk)) ?_ ?_|refine SY (ĭ (by lk)) ?_ ?_|refine Dd ?_ ?_|refine Db (by room) (by room) (by kernel_rfl!) ?_|refine Im ?_|refine Ij (by room) ?_ ?_|refine Mz ?_|refine HN ?_|refine Ig (kO (by lk) (by lk) (by lk) (by lk))|refine Ih (by room) ?_|exact Mp|refine HQ ?_ ?_|refine zW (by room) (by room) (by kernel_rfl!) (by lk) ?_|refine CY (by room) (by room) (by kernel_rfl!) (by lk) ?_ ?_|refine CW (by room) (by room) (by kernel_rfl!) (by lk) ?_|refine CZ (by room) (by room) (by lk) ?_|refine Mu ?_ ?_|refine Mw ?_|refine Mt ?_|refine MG ?_ ?_ ?_|refine MH ?_ ?_|refine MI ?_ ?_ ?_|refine HP ?_|refine UW.ut (Ms ?_ ?_)|refine Ms ?_ ?_|refine Mr ?_|refine Mq ?_|refine ME 5 _ (by lk) (by lk) (by lk) (ĭ (by lk)) (by with_unfolding_all exact CA.c (c:=5) (by assumption) (by decide) rfl) (by with_unfolding_all exact(Đ.at_ (by assumption) 5 (by decide)).2.1) (by with_unfolding_all exact(Đ.at_ (by assumption) 5 (by decide)).1) (by with_unfolding_all exact(Đ.at_ (by assumption) 5 (by decide)).2.2.2.2.1) (by lk) ?_ ?_|intro _ _)<;>walk_at"x")
local macro_rules|`(tactic|fin2)=>`(tactic|(intros;(conv=>arg 2;whnf);walk_at"x"))
def CC:Hm:=[cN "all",cN "any",cN "bool",cN "enumerate",cN "int",cN "isinstance",cN "len",cN "min",cN "range",cN "set",cN "sorted",cN "str",cN "tuple",cN "zip",cI "ASK_HOUSE" 1,cI "ASK_ORIGIN" 3,cI "ASK_PARTS" 4,cI "ASK_PATH" 2,cI "ASK_SAFE" 0,cS "FIGURES" "0123456789",cI "GIVEN_HOUSE" 2,cI "GIVEN_LASTS" 5,cI "GIVEN_NAME" 0,cI "GIVEN_PARTS" 8,cI "GIVEN_PATH" 3,cI "GIVEN_REACH" 7,cI "GIVEN_SAFE" 6,cI "GIVEN_UNTIL" 4,cI "GIVEN_WORTH" 1,cS "LABEL_SIGNS" "abcdefghijklmnopqrstuvwxyz0123456789-",cI "LAST_MOMENT" 9999,cI "LONGEST_LABEL" 8,cI "LONGEST_NOTE_NAME" 10,cI "LONGEST_PATH" 20,cI "LONGEST_WORTH" 12,cI "MOST_FIGURES" 4,cI "MOST_LABELS" 5,cI "MOST_NOTES" 20,cI "MOST_RULES" 8,cI "NOTE_ENDS" 5,cI "NOTE_EXACT" 3,cI "NOTE_HOUSE" 2,cI "NOTE_MADE" 8,cI "NOTE_NAME" 0,cS "NOTE_NAME_SIGNS" "abcdefghijklmnopqrstuvwxyzABCDEFGHIJKLMNOPQRSTUVWXYZ0123456789-_",cI "NOTE_PARTS" 10,cI "NOTE_PATH" 4,cI "NOTE_REACH" 7,cI "NOTE_SAFE" 6,cI "NOTE_USED" 9,cI "NOTE_WORTH" 1,cS "NO_WORTH_SIGNS" ";,=",cS "PATH_SIGNS" "abcdefghijklmnopqrstuvwxyz0123456789-_./"]
section
variable{P:n_}{w:x_}{K:d_}{mg:Str->Option B}{base h:TC}{f:O}{cls:Nat->O}{CJ:O}{C:O}(ck:CK K 1 C)(XI:K.In h)(Gn:h.Ns B_ mg)(M:MA mg CC)(xa:Đ K [0,1,2,3,4,5,6,8] cls CJ)(ca:CA K mg cls CJ [0,1,2,3,4,5,6,8] 9)
include XI Gn M xa ca ck
noncomputable def TO0:JE:=[]
noncomputable def TV0:oG:=[]
noncomputable def TW0:oG:=[]
noncomputable def T0:cg:=[]
noncomputable def TE0:cg:=[]
def iU:Û:=(aK (br (cF (fB (f1 (jR qQ) (Y 0)))) (aL (fC (.bl D))) ê) (aK (br (Ĉ (fB (R Ż (á fJ (al (Y 0))) (Y 2))) (fB (R Ŋ (á fJ (al (Y 0))) (Y 3)))) (aL (fC (.bl D))) ê) (aL (á o8 (al (dq [("signs",1)] (gz (Y 0)) U (R ı (Y 0) (Y 1))))))))
def dz:Ö:=bM 4 iU
def T1:cg:=("is_text_of",1,["thing","signs","least","most"],dz)::T0
theorem pF(A:Af K "is_text_of" (Ó 12) f)(t:HA P w K mg base T0):HA P w K mg base T1:=az (aQ XI Gn ["thing","signs","least","most"] ["thing","signs","least","most"] iU A aI (by delta iU;fin2)) t
def kP:Û:=(aK (br (cF (fB (ag dz 4 (nQ (Y 0) (Ï "abcdefghijklmnopqrstuvwxyz0123456789-") (X 1) (X 8))))) (aL (fC (.bl D))) ê) (aL (jU (OB (fM (qR Ud) (Y 0) (al (Ï "-")))) (OB (fM (qR Yx) (Y 0) (al (Ï "-")))))))
def oH:Ö:=bM 1 kP
def T2:cg:=("is_label",2,["thing"],oH)::T1
theorem tJ(A:Af K "is_label" (Ó 21) f)(t:HA P w K mg base T1):HA P w K mg base T2:=az (aQ XI Gn ["thing"] ["thing"] kP A aI (by delta kP;fin2)) t
def mD:Û:=(aK (br (cF (fB (f1 (jR qQ) (Y 0)))) (aL (fC (.bl D))) ê) (aK (cy 1 (fM (iH) (Y 0) (al (Ï ".")))) (aK (br (Ĉ (fB (R Ŋ (á fJ (al (Y 1))) (X 5))) (cF (fB (á o8 (al (dq [] (gz (Y 1)) U (ag oH 1 (al (Y 0))))))))) (aL (fC (.bl D))) ê) (aL (OB (ag dz 4 (nQ (R Î (Y 1) (f1 Gh (X 1))) (Ï "0123456789") (X 1) (X 8))))))))
def bD:Ö:=bM 2 mD
def T3:cg:=("is_name",3,["thing"],bD)::T2
theorem wG(A:Af K "is_name" (Ó 22) f)(t:HA P w K mg base T2):HA P w K mg base T3:=az (aQ XI Gn ["thing","parts"] ["thing"] mD A aI (by delta mD;fin2)) t
def mE:Û:=(aK (br (cF (fB (f1 (jR qQ) (Y 0)))) (aL (fC (.bl D))) ê) (aK (br (fB (fM (qR Ud) (Y 0) (al (Ï "*.")))) (aL (ag bD 1 (al (uO (Y 0) (eE (X 2)) gM)))) ê) (aK (br (fB (fM (qR Ud) (Y 0) (al (Ï "!")))) (aL (jU (R ı (Ï ".") (Y 0)) (ag bD 1 (al (uO (Y 0) (eE (X 1)) gM))))) ê) (aL (ag bD 1 (al (Y 0)))))))
def rM:Ö:=bM 1 mE
def T4:cg:=("is_rule",4,["thing"],rM)::T3
theorem wH(A:Af K "is_rule" (Ó 23) f)(t:HA P w K mg base T3):HA P w K mg base T4:=az (aQ XI Gn ["thing"] ["thing"] mE A aI (by delta mE;fin2)) t
def kQ:Û:=(aK (br (Ĉ (cF (fB (f1 (jR sX) (Y 0)))) (fB (R Ŋ (á fJ (al (Y 0))) (X 8)))) (aL (fC (.bl D))) ê) (aK (br (cF (fB (á o8 (al (dq [] (gz (Y 0)) U (ag rM 1 (al (Y 0)))))))) (aL (fC (.bl D))) ê) (aL (á o8 (al (dq [("thing",0)] (λa=>Ù ((bJ (X 1) (á fJ (al (Y 0)))) a) Bk) U (R Ż (R Î (Y 1) (R kG (Y 0) (X 1))) (R Î (Y 1) (Y 0)))))))))
def cz:Ö:=bM 1 kQ
def T5:cg:=("is_table",5,["thing"],cz)::T4
theorem tK(A:Af K "is_table" (Ó 24) f)(t:HA P w K mg base T4):HA P w K mg base T5:=az (aQ XI Gn ["thing"] ["thing"] kQ A aI (by delta kQ;fin2)) t
def dP:Û:=(br (cF (fB (ag cz 1 (al (Y 0))))) (gc 1 (Ï "this is no table")) ê)
def aW:Ö:=gA 1 dP
def TE1:cg:=("need_table",6,["thing"],aW)::TE0
theorem pG(A:Af K "need_table" (Ó 26) f)(t:HA P w K mg base T5)(a:ý P w K mg base TE0):ý P w K mg base TE1:=bt (bW XI Gn ["thing"] ["thing"] dP A aI (by delta dP;fin2)) a
def cw:ci:=(eK (lA (aG (aF aW 1 (al (Y 1))))) (eK (xf 1 0 (da 0) (aG (Y 1))) (eK (xf 1 1 (da 0) (aG (eI bZ))) (eK (xf 1 2 (da 0) (xb fu)) (xf 1 3 (da 0) (xb fu))))))
def cx:Ċ:=ng 2 cw
theorem kT(A:∃b,ļ K "__init__" "Desk.__init__" (bF (Ó 122) 0) f b)(a:Mk K C f)(d:ý P w K mg base TE1):MD P w K mg base 1 C 7 1 cx:=Ie XI Gn ck a ["self","table"] ["self","table"] cw A aI (by delta cw;fin2)
def fz:ci:=(eK (Ğ (c8 (fB (R ß (Y 1) (gB bZ)))) (QC (gc 8 (Ï "there is no such step"))) nu) (eK (li 3 (Mv (da 1))) (eK (lA (CQ (da 2) (bg (aG (eI (bJ (R Î (Y 3) (X 0)) (f1 (m7 1 1) (Y 0))))) fu))) (eK (xf 1 1 (da 0) (aG (R Î (Y 3) (X 1)))) (jv (aG (R Î (Y 3) (X 0))))))))
def gH:Ċ:=ng 4 fz
def TV1:oG:=("move",1,2,gH)::TV0
theorem pH(A:Am K C "Desk.move" "move" (bF (Ó 122) 10) f)(a:Ĝ P w K mg base 1 C TV0):Ĝ P w K mg base 1 C TV1:=fL (fN ck ["self","source","target","step"] ["self","source","target"] fz A aI (by delta fz;fin2)) a
def fA:ci:=(jv (cH 1 gH 2 (da 0) (bg (Bl 1 2 (da 0)) (bg (Bl 1 3 (da 0)) fu))))
def bQ:Ċ:=ng 1 fA
def TV2:oG:=("back",2,0,bQ)::TV1
theorem pI(A:Am K C "Desk.back" "back" (bF (Ó 122) 8) f)(a:Ĝ P w K mg base 1 C TV1):Ĝ P w K mg base 1 C TV2:=fL (fN ck ["self"] ["self"] fA A aI (by delta fA;fin2)) a
def dR:ci:=(jv (cH 1 gH 2 (da 0) (bg (Bl 1 3 (da 0)) (bg (Bl 1 2 (da 0)) fu))))
def fP:Ċ:=ng 1 dR
def TV3:oG:=("forth",2,0,fP)::TV2
theorem nv(A:Am K C "Desk.forth" "forth" (bF (Ó 122) 9) f)(a:Ĝ P w K mg base 1 C TV2):Ĝ P w K mg base 1 C TV3:=fL (fN ck ["self"] ["self"] dR A aI (by delta dR;fin2)) a
def ip:Û:=(aL (f1 (m7 1 1) (Y 0)))
def aC:Ö:=gA 1 ip
def TO1:JE:=("notes",1,0,aC)::TO0
theorem pJ(A:Am K C "Desk.notes" "notes" (bF (Ó 122) 1) f)(a:š P w K mg base 1 C TO0):š P w K mg base 1 C TO1:=vo (zP ck ["self"] ["self"] ip A aI (by delta ip;fin2)) a
def fQ:Û:=(aL (eI (bJ (á fJ (al (f1 (m7 1 2) (Y 0)))) (á fJ (al (f1 (m7 1 3) (Y 0)))))))
def aY:Ö:=gA 1 fQ
def TO2:JE:=("steps",1,0,aY)::TO1
theorem pK(A:Am K C "Desk.steps" "steps" (bF (Ó 122) 11) f)(a:š P w K mg base 1 C TO1):š P w K mg base 1 C TO2:=vo (zP ck ["self"] ["self"] fQ A aI (by delta fQ;fin2)) a
def cK:ci:=(eK (lA (CQ (Bl 1 2 (da 0)) (bg (aG (eI (bJ (Y 1) (f1 (m7 1 1) (Y 0))))) fu))) (eK (xf 1 3 (da 0) (xb fu)) (xf 1 1 (da 0) (aG (Y 2)))))
def cf:Ċ:=ng 3 cK
def TV4:oG:=("do_step",1,2,cf)::TV3
theorem lC(A:Am K C "Desk.do_step" "do_step" (bF (Ó 122) 2) f)(a:Ĝ P w K mg base 1 C TV3):Ĝ P w K mg base 1 C TV4:=fL (fN ck ["self","word","notes"] ["self","word","notes"] cK A aI (by delta cK;fin2)) a
def bE:ci:=(eK (li 3 (aG (R kG (á fJ (al (f1 (m7 1 1) (Y 0)))) (á fJ (al (Y 2)))))) (eK (lA (cH 1 cf 2 (da 0) (bg (aG (Y 1)) (bg (aG (Y 2)) fu)))) (jv (aG (Y 3)))))
def bY:Ċ:=ng 4 bE
def TV5:oG:=("do_and_count",2,2,bY)::TV4
theorem iV(A:Am K C "Desk.do_and_count" "do_and_count" (bF (Ó 122) 6) f)(a:Ĝ P w K mg base 1 C TV4):Ĝ P w K mg base 1 C TV5:=fL (fN ck ["self","word","left","gone"] ["self","word","left"] bE A aI (by delta bE;fin2)) a
def Di:Û:=(aL (eI (bN (R Î (Y 0) (X 0)) (R Î (Y 0) (X 2)) (R Î (Y 0) (X 4)))))
def cD:Ö:=bM 1 Di
def T6:cg:=("key",1,["note"],cD)::T5
theorem M7(A:Af K "key" (Ó 97) f)(t:HA P w K mg base T5):HA P w K mg base T6:=az (aQ XI Gn ["note"] ["note"] Di A aI (by delta Di;fin2)) t
def bR:Û:=(aK (cy 1 (c6 1 [] (gz (Y 0)) (gN 0) U (ag cD 1 (al (Y 0))))) (aL (R ß (á mr (al (Y 1))) (á fJ (al (Y 1))))))
def cC:Ö:=bM 2 bR
def T7:cg:=("has_no_key_twice",2,["notes"],cC)::T6
theorem jK(A:Af K "has_no_key_twice" (Ó 103) f)(t:HA P w K mg base T6):HA P w K mg base T7:=az (aQ XI Gn ["notes","keys"] ["notes"] bR A aI (by delta bR;fin2)) t
def iW:Û:=(aL (á o8 (al (dq [("notes",0)] (λa=>Ù ((bJ (X 1) (á fJ (al (Y 0)))) a) Bk) U (R Ĳ (R Î (R Î (Y 1) (R kG (Y 0) (X 1))) (X 8)) (R Î (R Î (Y 1) (Y 0)) (X 8)))))))
def gI:Ö:=bM 1 iW
def T8:cg:=("is_by_made",1,["notes"],gI)::T7
theorem pL(A:Af K "is_by_made" (Ó 102) f)(t:HA P w K mg base T7):HA P w K mg base T8:=az (aQ XI Gn ["notes"] ["notes"] iW A aI (by delta iW;fin2)) t
def aZ:Û:=(aK (br (Ĉ (cF (fB (f1 (jR qX) (Y 0)))) (fB (f1 (jR fY) (Y 0)))) (aL (fC (.bl D))) ê) (aL (jU (R Ĳ (Y 1) (Y 0)) (R Ĳ (Y 0) (Y 2)))))
def aR:Ö:=bM 3 aZ
def T9:cg:=("is_whole_number",1,["thing","least","most"],aR)::T8
theorem j8(A:Af K "is_whole_number" (Ó 13) f)(t:HA P w K mg base T8):HA P w K mg base T9:=az (aQ XI Gn ["thing","least","most"] ["thing","least","most"] aZ A aI (by delta aZ;fin2)) t
def eU:Û:=(aL (ag aR 3 (bN (Y 0) (X 0) (X 9999))))
def bc:Ö:=bM 1 eU
def T10:cg:=("is_moment",2,["thing"],bc)::T9
theorem rN(A:Af K "is_moment" (Ó 47) f)(t:HA P w K mg base T9):HA P w K mg base T10:=az (aQ XI Gn ["thing"] ["thing"] eU A aI (by delta eU;fin2)) t
def bj:Û:=(aL (ĳ (R Ď (Y 0) (fC .non)) (ag bc 1 (al (Y 0)))))
def aA:Ö:=bM 1 bj
def T11:cg:=("is_moment_or_none",3,["thing"],aA)::T10
theorem jw(A:Af K "is_moment_or_none" (Ó 48) f)(t:HA P w K mg base T10):HA P w K mg base T11:=az (aQ XI Gn ["thing"] ["thing"] bj A aI (by delta bj;fin2)) t
def gQ:Û:=(aL (ag dz 4 (nQ (Y 0) (Ï "abcdefghijklmnopqrstuvwxyzABCDEFGHIJKLMNOPQRSTUVWXYZ0123456789-_") (X 1) (X 10))))
def aM:Ö:=bM 1 gQ
def T12:cg:=("is_note_name",2,["thing"],aM)::T11
theorem mF(A:Af K "is_note_name" (Ó 68) f)(t:HA P w K mg base T11):HA P w K mg base T12:=az (aQ XI Gn ["thing"] ["thing"] gQ A aI (by delta gQ;fin2)) t
def mG:Û:=(aL (jU (ag dz 4 (nQ (Y 0) (Ï "abcdefghijklmnopqrstuvwxyz0123456789-_./") (X 1) (X 20))) (fM (qR Ud) (Y 0) (al (Ï "/")))))
def cL:Ö:=bM 1 mG
def T13:cg:=("is_path",2,["thing"],cL)::T12
theorem wI(A:Af K "is_path" (Ó 36) f)(t:HA P w K mg base T12):HA P w K mg base T13:=az (aQ XI Gn ["thing"] ["thing"] mG A aI (by delta mG;fin2)) t
def kU:Û:=(aL (ĳ (R ß (Y 0) (Ï "any")) (R ß (Y 0) (Ï "near"))))
def eV:Ö:=bM 1 kU
def T14:cg:=("is_reach",1,["thing"],eV)::T13
theorem tL(A:Af K "is_reach" (Ó 70) f)(t:HA P w K mg base T13):HA P w K mg base T14:=az (aQ XI Gn ["thing"] ["thing"] kU A aI (by delta kU;fin2)) t
def iq:Û:=(aL (jU (f1 (jR sX) (Y 0)) (R ß (á fJ (al (Y 0))) (Y 1))))
def bS:Ö:=bM 2 iq
def T15:cg:=("is_tuple_of",1,["thing","parts"],bS)::T14
theorem ny(A:Af K "is_tuple_of" (Ó 14) f)(t:HA P w K mg base T14):HA P w K mg base T15:=az (aQ XI Gn ["thing","parts"] ["thing","parts"] iq A aI (by delta iq;fin2)) t
def kW:Û:=(aK (br (Ĉ (cF (fB (f1 (jR qQ) (Y 0)))) (fB (R Ŋ (á fJ (al (Y 0))) (X 12)))) (aL (fC (.bl D))) ê) (aL (á o8 (al (dq [] (gz (Y 0)) U (jU (R Ĳ (Ï "!") (Y 0)) (jU (R Ĳ (Y 0) (Ï "~")) (R lh (Y 0) (Ï ";,=")))))))))
def bK:Ö:=bM 1 kW
def T16:cg:=("is_worth",1,["thing"],bK)::T15
theorem tM(A:Af K "is_worth" (Ó 69) f)(t:HA P w K mg base T15):HA P w K mg base T16:=az (aQ XI Gn ["thing"] ["thing"] kW A aI (by delta kW;fin2)) t
def j9:Û:=(aK (br (cF (fB (ag bS 2 (bJ (Y 0) (X 10))))) (aL (fC (.bl D))) ê) (aK (br (Ĉ (cF (fB (ag bc 1 (al (R Î (Y 0) (X 8)))))) (cF (fB (ag bc 1 (al (R Î (Y 0) (X 9))))))) (aL (fC (.bl D))) ê) (aL (á o8 (al (gB (aP (ag aM 1 (al (R Î (Y 0) (X 0)))) (aP (ag bK 1 (al (R Î (Y 0) (X 1)))) (aP (ag bD 1 (al (R Î (Y 0) (X 2)))) (uL (f1 (jR fY) (R Î (Y 0) (X 3))) (ag cL 1 (al (R Î (Y 0) (X 4)))) (ag aA 1 (al (R Î (Y 0) (X 5)))) (f1 (jR fY) (R Î (Y 0) (X 6))) (ag eV 1 (al (R Î (Y 0) (X 7)))) (R Ĳ (R Î (Y 0) (X 8)) (R Î (Y 0) (X 9)))))))))))))
def gg:Ö:=bM 1 j9
def T17:cg:=("is_note",4,["thing"],gg)::T16
theorem wJ(A:Af K "is_note" (Ó 92) f)(t:HA P w K mg base T16):HA P w K mg base T17:=az (aQ XI Gn ["thing"] ["thing"] j9 A aI (by delta j9;fin2)) t
def ka:Û:=(aK (br (Ĉ (cF (fB (f1 (jR sX) (Y 0)))) (fB (R Ŋ (á fJ (al (Y 0))) (X 20)))) (aL (fC (.bl D))) ê) (aK (br (cF (fB (á o8 (al (dq [] (gz (Y 0)) U (ag gg 1 (al (Y 0)))))))) (aL (fC (.bl D))) ê) (aL (jU (ag gI 1 (al (Y 0))) (ag cC 1 (al (Y 0)))))))
def kc:Ö:=bM 1 ka
def T18:cg:=("is_jar",5,["thing"],kc)::T17
theorem z4(A:Af K "is_jar" (Ó 101) f)(t:HA P w K mg base T17):HA P w K mg base T18:=az (aQ XI Gn ["thing"] ["thing"] ka A aI (by delta ka;fin2)) t
def iu:Û:=(br (cF (fB (ag kc 1 (al (Y 0))))) (gc 5 (Ï "this is no jar")) ê)
def bp:Ö:=gA 1 iu
def TE2:cg:=("need_jar",6,["thing"],bp)::TE1
theorem tN(A:Af K "need_jar" (Ó 104) f)(t:HA P w K mg base T18)(a:ý P w K mg base TE1):ý P w K mg base TE2:=bt (bW XI Gn ["thing"] ["thing"] iu A aI (by delta iu;fin2)) a
def fg:Û:=(br (cF (fB (ag bc 1 (al (Y 0))))) (gc 6 (Ï "this is no moment")) ê)
def bG:Ö:=gA 1 fg
def TE3:cg:=("need_moment",3,["thing"],bG)::TE2
theorem nA(A:Af K "need_moment" (Ó 49) f)(t:HA P w K mg base T18)(a:ý P w K mg base TE2):ý P w K mg base TE3:=bt (bW XI Gn ["thing"] ["thing"] fg A aI (by delta fg;fin2)) a
def iw:Û:=(aL (jU (R nW (R Î (Y 0) (X 5)) (fC .non)) (R Ĳ (R Î (Y 0) (X 5)) (Y 1))))
def bB:Ö:=bM 2 iw
def T19:cg:=("has_ended",1,["note","now"],bB)::T18
theorem rO(A:Af K "has_ended" (Ó 98) f)(t:HA P w K mg base T18):HA P w K mg base T19:=az (aQ XI Gn ["note","now"] ["note","now"] iw A aI (by delta iw;fin2)) t
def cO:Û:=(aL (á gD (al (dq [("now",1)] (gz (Y 0)) (Z (cF (fB (ag bB 2 (bJ (Y 0) (Y 1)))))) (Y 0)))))
def bx:Ö:=bM 2 cO
def T20:cg:=("without_ended",2,["notes","now"],bx)::T19
theorem lD(A:Af K "without_ended" (Ó 107) f)(t:HA P w K mg base T19):HA P w K mg base T20:=az (aQ XI Gn ["notes","now"] ["notes","now"] cO A aI (by delta cO;fin2)) t
def kf:Û:=(aK (eD (aF bp 1 (al (Y 0)))) (aK (eD (aF bG 1 (al (Y 1)))) (aL (ag bx 2 (bJ (Y 0) (Y 1))))))
def kg:Ö:=gA 2 kf
def TE4:cg:=("swept",7,["jar","now"],kg)::TE3
theorem Dj(A:Af K "swept" (Ó 106) f)(t:HA P w K mg base T20)(a:ý P w K mg base TE3):ý P w K mg base TE4:=bt (bW XI Gn ["jar","now"] ["jar","now"] kf A aI (by delta kf;fin2)) a
def dU:ci:=(jv (cH 1 bY 2 (da 0) (bg (aG (Ï "sweep")) (bg (aG (aF kg 2 (bJ (f1 (m7 1 1) (Y 0)) (Y 1)))) fu))))
def cV:Ċ:=ng 2 dU
def TV6:oG:=("sweep",8,1,cV)::TV5
theorem nB(A:Am K C "Desk.sweep" "sweep" (bF (Ó 122) 4) f)(b:ý P w K mg base TE4)(a:Ĝ P w K mg base 1 C TV5):Ĝ P w K mg base 1 C TV6:=fL (fN ck ["self","now"] ["self","now"] dU A aI (by delta dU;fin2)) a
def gh:Û:=(aK (br (fB (R OE (Y 0) (gB bZ))) (aL (R kx (X 7) (Y 1))) ê) (aL (R bX (R Î (Y 0) (R jQ (Y 1) (á fJ (al (Y 0))))) (R kx (X 6553) (R jV (Y 1) (á fJ (al (Y 0))))))))
def dr:Ö:=bM 2 gh
def T21:cg:=("_law_cell",1,["_law_script","_law_k"],dr)::T20
theorem rP(A:Af K "_law_cell" (Ó 124) f)(t:HA P w K mg base T20):HA P w K mg base T21:=az (aQ XI Gn ["_law_script","_law_k"] ["_law_script","_law_k"] gh A aI (by delta gh;fin2)) t
def dD:Û:=(aK (cy 3 (R jQ (R bX (R kx (R jQ (ag dr 2 (bJ (Y 0) (Y 1))) (X 2147483563)) (X 69069)) (R kx (X 104723) (R bX (Y 1) (X 1)))) (X 2147483563))) (aK (cy 3 (R jQ (R bX (R kx (Y 3) (Y 3)) (R jV (Y 3) (X 3))) (X 2147483399))) (aL (R jQ (R jV (R jQ (R bX (R kx (Y 3) (Y 3)) (R jV (Y 3) (X 7))) (X 2147483647)) (X 11)) (Y 2)))))
def ac:Ö:=bM 4 dD
def T22:cg:=("_law_drawn",2,["_law_script","_law_k","_law_many"],ac)::T21
theorem pM(A:Af K "_law_drawn" (Ó 125) f)(t:HA P w K mg base T21):HA P w K mg base T22:=az (aQ XI Gn ["_law_script","_law_k","_law_many","_law_cell_here"] ["_law_script","_law_k","_law_many"] dD A aI (by delta dD;fin2)) t
def iy:Û:=(aL (ĳ (R ß (Y 0) (Y 1)) (fM (qR Yx) (Y 0) (al (R bX (Ï ".") (Y 1))))))
def aD:Ö:=bM 2 iy
def T23:cg:=("lies_within",1,["one","other"],aD)::T22
theorem nF(A:Af K "lies_within" (Ó 27) f)(t:HA P w K mg base T22):HA P w K mg base T23:=az (aQ XI Gn ["one","other"] ["one","other"] iy A aI (by delta iy;fin2)) t
def gJ:Û:=(br (cF (fB (ag bD 1 (al (Y 0))))) (gc 0 (Ï "this is no name")) ê)
def fD:Ö:=gA 1 gJ
def TE5:cg:=("need_name",4,["thing"],fD)::TE4
theorem rQ(A:Af K "need_name" (Ó 25) f)(t:HA P w K mg base T23)(a:ý P w K mg base TE4):ý P w K mg base TE5:=bt (bW XI Gn ["thing"] ["thing"] gJ A aI (by delta gJ;fin2)) a
def fE:Û:=(aK (eD (aF bp 1 (al (Y 0)))) (aK (eD (aF fD 1 (al (Y 1)))) (aL (á gD (al (dq [("house",1)] (gz (Y 0)) (Z (cF (fB (ag aD 2 (bJ (R Î (Y 0) (X 2)) (Y 1)))))) (Y 0)))))))
def fF:Ö:=gA 2 fE
def TE6:cg:=("forgotten",7,["jar","house"],fF)::TE5
theorem rR(A:Af K "forgotten" (Ó 108) f)(t:HA P w K mg base T23)(a:ý P w K mg base TE5):ý P w K mg base TE6:=bt (bW XI Gn ["jar","house"] ["jar","house"] fE A aI (by delta fE;fin2)) a
def dh:ci:=(jv (cH 1 bY 2 (da 0) (bg (aG (Ï "forget")) (bg (aG (aF fF 2 (bJ (f1 (m7 1 1) (Y 0)) (Y 1)))) fu))))
def di:Ċ:=ng 2 dh
def TV7:oG:=("forget",8,1,di)::TV6
theorem mH(A:Am K C "Desk.forget" "forget" (bF (Ó 122) 5) f)(b:ý P w K mg base TE6)(a:Ĝ P w K mg base 1 C TV6):Ĝ P w K mg base 1 C TV7:=fL (fN ck ["self","house"] ["self","house"] dh A aI (by delta dh;fin2)) a
def aj:Û:=(br (fB (R Ŋ (á fJ (al (Y 0))) (X 20))) (gc 5 (Ï "these are more notes than a jar has")) ê)
def ah:Ö:=gA 1 aj
def TE7:cg:=("need_no_more_than_a_jar_has",1,["notes"],ah)::TE6
theorem fG(A:Af K "need_no_more_than_a_jar_has" (Ó 105) f)(a:ý P w K mg base TE6):ý P w K mg base TE7:=bt (bW XI Gn ["notes"] ["notes"] aj A aI (by delta aj;fin2)) a
def kh:Û:=(aK (br (cF (fB (ag bS 2 (bJ (Y 0) (X 4))))) (aL (fC (.bl D))) ê) (aL (á o8 (al (gB (nQ (f1 (jR fY) (R Î (Y 0) (X 0))) (ag bD 1 (al (R Î (Y 0) (X 1)))) (ag cL 1 (al (R Î (Y 0) (X 2)))) (ĳ (R Ď (R Î (Y 0) (X 3)) (fC .non)) (ag bD 1 (al (R Î (Y 0) (X 3)))))))))))
def iz:Ö:=bM 1 kh
def T24:cg:=("is_ask",4,["thing"],iz)::T23
theorem z9(A:Af K "is_ask" (Ó 50) f)(t:HA P w K mg base T23):HA P w K mg base T24:=az (aQ XI Gn ["thing"] ["thing"] kh A aI (by delta kh;fin2)) t
def iA:Û:=(br (cF (fB (ag iz 1 (al (Y 0))))) (gc 3 (Ï "this is no ask")) ê)
def cP:Ö:=gA 1 iA
def TE8:cg:=("need_ask",5,["thing"],cP)::TE7
theorem tP(A:Af K "need_ask" (Ó 51) f)(t:HA P w K mg base T24)(a:ý P w K mg base TE7):ý P w K mg base TE8:=bt (bW XI Gn ["thing"] ["thing"] iA A aI (by delta iA;fin2)) a
def dt:Û:=(aL (ag dz 4 (nQ (Y 0) (Ï "0123456789") (X 1) (X 4))))
def du:Ö:=bM 1 dt
def T25:cg:=("is_written_moment",2,["text"],du)::T24
theorem jx(A:Af K "is_written_moment" (Ó 73) f)(t:HA P w K mg base T24):HA P w K mg base T25:=az (aQ XI Gn ["text"] ["text"] dt A aI (by delta dt;fin2)) t
def gR:Û:=(aK (br (fB (R ß (Y 0) (Ï "safe"))) (aL (eI (bJ (X 6) (fC (.bl L))))) ê) (aK (br (fB (ag eV 1 (al (Y 0)))) (aL (eI (bJ (X 7) (Y 0)))) ê) (aK (cy 1 (fM (pb) (Y 0) (al (Ï " ")))) (aK (cy 2 (R Î (Y 1) (X 0))) (aK (cy 3 (R Î (Y 1) (X 2))) (aK (br (l7 (fB (R ß (Y 2) (Ï "for"))) (fB (ag bD 1 (al (Y 3))))) (aL (eI (bJ (X 2) (Y 3)))) ê) (aK (br (l7 (fB (R ß (Y 2) (Ï "under"))) (fB (ag cL 1 (al (Y 3))))) (aL (eI (bJ (X 3) (Y 3)))) ê) (aK (br (l7 (fB (R ß (Y 2) (Ï "until"))) (fB (ag du 1 (al (Y 3))))) (aL (eI (bJ (X 4) (á OJ (al (Y 3)))))) ê) (aK (br (l7 (fB (R ß (Y 2) (Ï "lasts"))) (fB (ag du 1 (al (Y 3))))) (aL (eI (bJ (X 5) (á OJ (al (Y 3)))))) ê) (aL (fC .non)))))))))))
def bH:Ö:=bM 4 gR
def T26:cg:=("what_is_told",4,["part"],bH)::T25
theorem mI(A:Af K "what_is_told" (Ó 74) f)(t:HA P w K mg base T25):HA P w K mg base T26:=az (aQ XI Gn ["part","pieces","word","rest"] ["part"] gR A aI (by delta gR;fin2)) t
def bu:jY:=(fU (gE 5 (ag bH 1 (al (Y 4)))) (oIf (fB (R nW (Y 5) (fC .non))) (u0 (R Î (Y 5) (X 0)) (R Î (Y 5) (X 1))) Jz))
def dZ:Û:=(aK (br (cF (fB (f1 (jR qQ) (Y 0)))) (gc 4 (Ï "this is no text")) ê) (aK (cy 1 (c6 1 [] (gz (fM (iH) (Y 0) (al (Ï ";")))) (gN 0) U (fM (mj) (Y 0) (al (Ï " "))))) (aK (cy 2 (fM (pb) (R Î (Y 1) (X 0)) (al (Ï "=")))) (aK (br (Ĉ (fB (R ß (R Î (Y 2) (X 1)) (Ï ""))) (Ĉ (cF (fB (ag aM 1 (al (R Î (Y 2) (X 0)))))) (cF (fB (ag bK 1 (al (R Î (Y 2) (X 2)))))))) (gc 4 (Ï "the first part is no note's name, = and worth")) ê) (yy 3 (aP (R Î (Y 2) (X 0)) (aP (R Î (Y 2) (X 2)) (uL (fC .non) (fC .non) (fC .non) (fC .non) (fC (.bl D)) (Ï "any")))) (fU (yz 4 [4,5] (gz (uO (Y 1) (eE (X 1)) gM)) bu) (yw 3 (á gD (al (Y 3))))))))))
def aT:Ö:=gA 6 dZ
def TE9:cg:=("read_given",5,["text"],aT)::TE8
theorem pN(A:Af K "read_given" (Ó 75) f)(t:HA P w K mg base T26)(a:ý P w K mg base TE8):ý P w K mg base TE9:=bt (bW XI Gn ["text","parts","first","given","part","told"] ["text"] dZ A aI (by delta dZ bu;fin2)) a
def bz:Û:=(aK (eD (aF aW 1 (al (Y 0)))) (aK (eD (aF bp 1 (al (Y 1)))) (aK (eD (aF cP 1 (al (Y 2)))) (aK (cy 5 (aF aT 1 (al (Y 3)))) (aK (eD (aF bG 1 (al (Y 4)))) (aL (Y 5)))))))
def aw:Ö:=gA 6 bz
def QG:cg:=("read_what_is_given",7,["table","jar","ask","text","now"],aw)::TE9
theorem iX(A:Af K "read_what_is_given" (Ó 110) f)(a:ý P w K mg base TE9):ý P w K mg base QG:=bt (bW XI Gn ["table","jar","ask","text","now","given"] ["table","jar","ask","text","now"] bz A aI (by delta bz;fin2)) a
def iY:Û:=(aK (br (fB (R Ď (R Î (Y 0) (X 5)) (fC .non))) (aL (R Î (Y 0) (X 4))) ê) (aL (á OI (bJ (R bX (Y 1) (R Î (Y 0) (X 5))) (X 9999)))))
def iZ:Ö:=bM 2 iY
def T27:cg:=("end_for",1,["given","now"],iZ)::T26
theorem wK(A:Af K "end_for" (Ó 95) f)(t:HA P w K mg base T26):HA P w K mg base T27:=az (aQ XI Gn ["given","now"] ["given","now"] iY A aI (by delta iY;fin2)) t
def gk:Û:=(aK (br (fB (R Ď (R Î (Y 1) (X 2)) (fC .non))) (aL (R Î (Y 0) (X 1))) ê) (aL (R Î (Y 1) (X 2))))
def gl:Ö:=bM 2 gk
def T28:cg:=("house_for",1,["ask","given"],gl)::T27
theorem rS(A:Af K "house_for" (Ó 93) f)(t:HA P w K mg base T27):HA P w K mg base T28:=az (aQ XI Gn ["ask","given"] ["ask","given"] gk A aI (by delta gk;fin2)) t
def d5:Û:=(aL (R Î (fM (pb) (Y 0) (al (Ï "."))) (X 2)))
def ef:Ö:=bM 1 d5
def T29:cg:=("behind_first_dot",1,["end"],ef)::T28
theorem jL(A:Af K "behind_first_dot" (Ó 29) f)(t:HA P w K mg base T28):HA P w K mg base T29:=az (aQ XI Gn ["end"] ["end"] d5 A aI (by delta d5;fin2)) t
def db:Û:=(aK (cy 1 (fM (iH) (Y 0) (al (Ï ".")))) (aL (dq [("parts",1)] (λa=>Ù ((al (á fJ (al (Y 1)))) a) w8) U (fM (BM) (Ï ".") (al (uO (Y 1) (eE (Y 0)) gM))))))
def dc:Ö:=bM 2 db
def T30:cg:=("ends_longest_first",1,["name"],dc)::T29
theorem i5(A:Af K "ends_longest_first" (Ó 28) f)(t:HA P w K mg base T29):HA P w K mg base T30:=az (aQ XI Gn ["name","parts"] ["name"] db A aI (by delta db;fin2)) t
def gS:Û:=(aK (br (fB (R ı (Y 1) (Y 0))) (aL (fC (.bl L))) ê) (aL (jU (R ı (Ï ".") (Y 1)) (R ı (R bX (Ï "*.") (ag ef 1 (al (Y 1)))) (Y 0)))))
def jE:Ö:=bM 2 gS
def T31:cg:=("is_told_open",2,["table","end"],jE)::T30
theorem mJ(A:Af K "is_told_open" (Ó 30) f)(t:HA P w K mg base T30):HA P w K mg base T31:=az (aQ XI Gn ["table","end"] ["table","end"] gS A aI (by delta gS;fin2)) t
def gW:Û:=(br (fB (R ı (R bX (Ï "!") (Y 3)) (Y 0))) (aL (ag ef 1 (al (Y 3)))) ê)
def gX:Û:=(br (fB (ag jE 2 (bJ (Y 0) (Y 3)))) (aL (Y 3)) ê)
def gm:Û:=(aK (cy 2 (ag dc 1 (al (Y 1)))) (aK (KR 3 [] (gz (Y 2)) gW) (aK (KR 3 [3] (gz (Y 2)) gX) (aL (R Î (Y 2) (f1 Gh (X 1)))))))
def cQ:Ö:=bM 4 gm
def T32:cg:=("find_open_end",3,["table","name"],cQ)::T31
theorem lE(A:Af K "find_open_end" (Ó 31) f)(t:HA P w K mg base T31):HA P w K mg base T32:=az (aQ XI Gn ["table","name","ends","end"] ["table","name"] gm A aI (by delta gm gW gX;fin2)) t
def ki:Û:=(aL (R ß (ag cQ 2 (bJ (Y 0) (Y 1))) (Y 1)))
def gp:Ö:=bM 2 ki
def T33:cg:=("is_open",4,["table","house"],gp)::T32
theorem wL(A:Af K "is_open" (Ó 88) f)(t:HA P w K mg base T32):HA P w K mg base T33:=az (aQ XI Gn ["table","house"] ["table","house"] ki A aI (by delta ki;fin2)) t
def gY:Û:=(aK (cy 3 (R Î (Y 2) (X 2))) (aK (br (fB (R Ď (Y 3) (fC .non))) (aL (fC (.bl L))) ê) (aL (jU (R ß (Y 3) (R Î (Y 1) (X 1))) (ag gp 2 (bJ (Y 0) (Y 3)))))))
def cW:Ö:=bM 4 gY
def T34:cg:=("is_exact",5,["table","ask","given"],cW)::T33
theorem tQ(A:Af K "is_exact" (Ó 89) f)(t:HA P w K mg base T33):HA P w K mg base T34:=az (aQ XI Gn ["table","ask","given","house"] ["table","ask","given"] gY A aI (by delta gY;fin2)) t
def jq:Û:=(aK (br (cF (fB (ag bS 2 (bJ (Y 0) (X 8))))) (aL (fC (.bl D))) ê) (aL (á o8 (al (gB (aP (ag aM 1 (al (R Î (Y 0) (X 0)))) (aP (ag bK 1 (al (R Î (Y 0) (X 1)))) (uL (ĳ (R Ď (R Î (Y 0) (X 2)) (fC .non)) (ag bD 1 (al (R Î (Y 0) (X 2))))) (ĳ (R Ď (R Î (Y 0) (X 3)) (fC .non)) (ag cL 1 (al (R Î (Y 0) (X 3))))) (ag aA 1 (al (R Î (Y 0) (X 4)))) (ag aA 1 (al (R Î (Y 0) (X 5)))) (f1 (jR fY) (R Î (Y 0) (X 6))) (ag eV 1 (al (R Î (Y 0) (X 7))))))))))))
def gZ:Ö:=bM 1 jq
def T35:cg:=("is_given",4,["thing"],gZ)::T34
theorem tW(A:Af K "is_given" (Ó 71) f)(t:HA P w K mg base T34):HA P w K mg base T35:=az (aQ XI Gn ["thing"] ["thing"] jq A aI (by delta jq;fin2)) t
def fR:Û:=(br (cF (fB (ag gZ 1 (al (Y 0))))) (gc 4 (Ï "this can't be given")) ê)
def cX:Ö:=gA 1 fR
def QH:cg:=("need_given",5,["thing"],cX)::QG
theorem pO(A:Af K "need_given" (Ó 72) f)(t:HA P w K mg base T35)(a:ý P w K mg base QG):ý P w K mg base QH:=bt (bW XI Gn ["thing"] ["thing"] fR A aI (by delta fR;fin2)) a
def i7:Û:=(br (cF (fB (ag cL 1 (al (Y 0))))) (gc 2 (Ï "this is no path")) ê)
def ll:Ö:=gA 1 i7
def QI:cg:=("need_path",3,["thing"],ll)::QH
theorem rT(A:Af K "need_path" (Ó 37) f)(t:HA P w K mg base T35)(a:ý P w K mg base QH):ý P w K mg base QI:=bt (bW XI Gn ["thing"] ["thing"] i7 A aI (by delta i7;fin2)) a
def mK:Û:=(aK (eD (aF ll 1 (al (Y 0)))) (aK (cy 1 (fM (OD ab0) (Y 0) (al (Ï "/")))) (aK (br (fB (R ß (Y 1) (X 0))) (aL (Ï "/")) ê) (aL (uO (Y 0) gM (eE (Y 1)))))))
def kj:Ö:=gA 2 mK
def QJ:cg:=("folder",4,["path"],kj)::QI
theorem Aa(A:Af K "folder" (Ó 38) f)(a:ý P w K mg base QI):ý P w K mg base QJ:=bt (bW XI Gn ["path","place"] ["path"] mK A aI (by delta mK;fin2)) a
def gq:Û:=(aK (br (fB (R Ď (R Î (Y 1) (X 3)) (fC .non))) (aL (aF kj 1 (al (R Î (Y 0) (X 2))))) ê) (aL (R Î (Y 1) (X 3))))
def eW:Ö:=gA 2 gq
def QK:cg:=("path_for",5,["ask","given"],eW)::QJ
theorem tX(A:Af K "path_for" (Ó 94) f)(a:ý P w K mg base QJ):ý P w K mg base QK:=bt (bW XI Gn ["ask","given"] ["ask","given"] gq A aI (by delta gq;fin2)) a
def gT:Û:=(aK (cy 2 (ag cQ 2 (bJ (Y 0) (Y 1)))) (aK (cy 3 (ag dc 1 (al (Y 1)))) (aK (cy 4 (fML PC (Y 3) (al (Y 2)))) (aK (br (fB (R ß (Y 4) (X 0))) (aL (fC .non)) ê) (aL (R Î (Y 3) (R kG (Y 4) (X 1))))))))
def dj:Ö:=bM 5 gT
def T36:cg:=("find_own_end",4,["table","name"],dj)::T35
theorem mL(A:Af K "find_own_end" (Ó 32) f)(t:HA P w K mg base T35):HA P w K mg base T36:=az (aQ XI Gn ["table","name","end","ends","place"] ["table","name"] gT A aI (by delta gT;fin2)) t
def ba:Û:=(aK (cy 2 (R Î (Y 1) (X 1))) (aK (cy 3 (R Î (Y 1) (X 3))) (aK (br (Ĉ (fB (R Ď (Y 3) (fC .non))) (fB (R ß (Y 3) (Y 2)))) (aL (fC (.bl L))) ê) (aK (cy 4 (ag dj 2 (bJ (Y 0) (Y 2)))) (aL (jU (R nW (Y 4) (fC .non)) (R ß (Y 4) (ag dj 2 (bJ (Y 0) (Y 3))))))))))
def aS:Ö:=bM 5 ba
def T37:cg:=("comes_from_near",5,["table","ask"],aS)::T36
theorem kl(A:Af K "comes_from_near" (Ó 52) f)(t:HA P w K mg base T36):HA P w K mg base T37:=az (aQ XI Gn ["table","ask","house","origin","own"] ["table","ask"] ba A aI (by delta ba;fin2)) t
def bO:Û:=(aK (cy 3 (R Î (Y 2) (X 0))) (aK (br (fB (fM (qR Ud) (Y 3) (al (Ï "safe-")))) (aL (R Î (Y 2) (X 6))) ê) (aK (br (fB (fM (qR Ud) (Y 3) (al (Ï "own-")))) (aL (jU (R Î (Y 2) (X 6)) (jU (ag cW 3 (bN (Y 0) (Y 1) (Y 2))) (R ß (R Î (Y 2) (X 3)) (Ï "/"))))) ê) (aL (fC (.bl L))))))
def bh:Ö:=bM 4 bO
def T38:cg:=("keeps_its_mark",6,["table","ask","given"],bh)::T37
theorem kX(A:Af K "keeps_its_mark" (Ó 90) f)(t:HA P w K mg base T37):HA P w K mg base T38:=az (aQ XI Gn ["table","ask","given","name"] ["table","ask","given"] bO A aI (by delta bO;fin2)) t
def fj:Û:=(aK (eD (aF aW 1 (al (Y 0)))) (aK (eD (aF cP 1 (al (Y 1)))) (aK (eD (aF cX 1 (al (Y 2)))) (aK (cy 3 (R Î (Y 2) (X 2))) (aK (br (l7 (fB (R nW (Y 3) (fC .non))) (cF (fB (ag aD 2 (bJ (R Î (Y 1) (X 1)) (Y 3)))))) (aL (Ï "foreign")) ê) (aK (br (l7 (fB (R nW (Y 3) (fC .non))) (l7 (fB (R ċ (Y 3) (R Î (Y 1) (X 1)))) (fB (ag gp 2 (bJ (Y 0) (Y 3)))))) (aL (Ï "open")) ê) (aK (br (l7 (fB (R Î (Y 2) (X 6))) (cF (fB (R Î (Y 1) (X 0))))) (aL (Ï "unsafe")) ê) (aK (br (cF (fB (ag bh 3 (bN (Y 0) (Y 1) (Y 2))))) (aL (Ï "marked")) ê) (aK (br (l7 (fB (R ß (R Î (Y 2) (X 7)) (Ï "near"))) (cF (fB (ag aS 2 (bJ (Y 0) (Y 1)))))) (aL (Ï "far")) ê) (aL (fC .non)))))))))))
def bw:Ö:=gA 4 fj
def QL:cg:=("why_refused",7,["table","ask","given"],bw)::QK
theorem nG(A:Af K "why_refused" (Ó 91) f)(t:HA P w K mg base T38)(a:ý P w K mg base QK):ý P w K mg base QL:=bt (bW XI Gn ["table","ask","given","house"] ["table","ask","given"] fj A aI (by delta fj;fin2)) a
def pP:Û:=(aK (eD (aF aW 1 (al (Y 0)))) (aK (eD (aF cP 1 (al (Y 1)))) (aK (eD (aF cX 1 (al (Y 2)))) (aK (eD (aF bG 1 (al (Y 3)))) (aK (br (fB (R nW (aF bw 3 (bN (Y 0) (Y 1) (Y 2))) (fC .non))) (gc 4 (Ï "this may not be given by this ask")) ê) (aL (eI (aP (R Î (Y 2) (X 0)) (aP (R Î (Y 2) (X 1)) (aP (ag gl 2 (bJ (Y 1) (Y 2))) (aP (ag cW 3 (bN (Y 0) (Y 1) (Y 2))) (uL (aF eW 2 (bJ (Y 1) (Y 2))) (ag iZ 2 (bJ (Y 2) (Y 3))) (R Î (Y 2) (X 6)) (R Î (Y 2) (X 7)) (Y 3) (Y 3)))))))))))))
def dv:Ö:=gA 4 pP
def QM:cg:=("made",8,["table","ask","given","now"],dv)::QL
theorem Ix(A:Af K "made" (Ó 96) f)(t:HA P w K mg base T38)(a:ý P w K mg base QL):ý P w K mg base QM:=bt (bW XI Gn ["table","ask","given","now"] ["table","ask","given","now"] pP A aI (by delta pP;fin2)) a
def tY:Û:=(aK (cy 2 (c6 1 [("note",1)] (gz (Y 0)) (gN 0) (Z (fB (R ß (ag cD 1 (al (Y 0))) (ag cD 1 (al (Y 1)))))) (Y 0))) (aK (br (fB (R ß (Y 2) (gB bZ))) (aL (R c9 (Y 0) (eI (al (Y 1))))) ê) (aK (cy 3 (R c9 (R c9 (lz (Y 1) gM (eE (X 8))) (eI (al (R Î (R Î (Y 2) (X 0)) (X 8))))) (lz (Y 1) (eE (R c9 (X 8) (X 1))) gM))) (aL (á gD (al (dq [("note",1),("newer",3)] (gz (Y 0)) U (Ŀ (fB (R ß (ag cD 1 (al (Y 0))) (ag cD 1 (al (Y 1))))) (Y 2) (Y 0)))))))))
def Dk:Ö:=bM 4 tY
def T39:cg:=("put",2,["jar","note"],Dk)::T38
theorem M8(A:Af K "put" (Ó 109) f)(t:HA P w K mg base T38):HA P w K mg base T39:=az (aQ XI Gn ["jar","note","same","newer"] ["jar","note"] tY A aI (by delta tY;fin2)) t
def jc:Û:=(aK (br (fB (R ß (Y 0) (Y 1))) (aL (fC (.bl L))) ê) (aK (br (cF (fB (fM (qR Ud) (Y 0) (al (Y 1))))) (aL (fC (.bl D))) ê) (aL (ĳ (fM (qR Yx) (Y 1) (al (Ï "/"))) (R ß (R Î (Y 0) (á fJ (al (Y 1)))) (Ï "/"))))))
def bT:Ö:=bM 2 jc
def T40:cg:=("lies_under",1,["path","top"],bT)::T39
theorem pQ(A:Af K "lies_under" (Ó 39) f)(t:HA P w K mg base T39):HA P w K mg base T40:=az (aQ XI Gn ["path","top"] ["path","top"] jc A aI (by delta jc;fin2)) t
def jd:Û:=(aK (br (Ĉ (cF (fB (R Î (Y 0) (X 6)))) (Ĉ (fB (ag bB 2 (bJ (Y 0) (Y 2)))) (fB (R ċ (R Î (Y 0) (X 0)) (R Î (Y 1) (X 0)))))) (aL (fC (.bl D))) ê) (aK (br (l7 (cF (fB (ag aD 2 (bJ (R Î (Y 1) (X 2)) (R Î (Y 0) (X 2)))))) (cF (fB (ag aD 2 (bJ (R Î (Y 0) (X 2)) (R Î (Y 1) (X 2))))))) (aL (fC (.bl D))) ê) (aL (ag bT 2 (bJ (R Î (Y 1) (X 4)) (R Î (Y 0) (X 4)))))))
def je:Ö:=bM 3 jd
def T41:cg:=("shadows",2,["old","note","now"],je)::T40
theorem wM(A:Af K "shadows" (Ó 113) f)(t:HA P w K mg base T40):HA P w K mg base T41:=az (aQ XI Gn ["old","note","now"] ["old","note","now"] jd A aI (by delta jd;fin2)) t
def eY:Û:=(aK (cy 5 (aF bw 3 (bN (Y 0) (Y 2) (Y 3)))) (aK (br (fB (R nW (Y 5) (fC .non))) (aL (Y 5)) ê) (aK (cy 6 (aF dv 4 (nQ (Y 0) (Y 2) (Y 3) (Y 4)))) (aK (br (l7 (cF (fB (R Î (Y 2) (X 0)))) (fB (á Hb (al (dq [("now",4),("note",6)] (gz (Y 1)) U (ag je 3 (bN (Y 0) (Y 2) (Y 1)))))))) (aL (Ï "shadowed")) ê) (aK (br (fB (ag bB 2 (bJ (Y 6) (Y 4)))) (aL (Ï "gone")) ê) (aL (Ï "kept")))))))
def bq:Ö:=gA 7 eY
def QN:cg:=("word_of",9,["table","jar","ask","given","now"],bq)::QM
theorem wN(A:Af K "word_of" (Ó 112) f)(t:HA P w K mg base T41)(a:ý P w K mg base QM):ý P w K mg base QN:=bt (bW XI Gn ["table","jar","ask","given","now","refused","note"] ["table","jar","ask","given","now"] eY A aI (by delta eY;fin2)) a
def cY:Û:=(aK (cy 5 (aF bq 5 (ni (Y 0) (Y 1) (Y 2) (Y 3) (Y 4)))) (aK (cy 6 (ag bx 2 (bJ (Y 1) (Y 4)))) (aK (br (fB (R ß (Y 5) (Ï "kept"))) (aL (ag Dk 2 (bJ (Y 6) (aF dv 4 (nQ (Y 0) (Y 2) (Y 3) (Y 4)))))) ê) (aK (br (fB (R ß (Y 5) (Ï "gone"))) (aK (cy 7 (ag cD 1 (al (aF dv 4 (nQ (Y 0) (Y 2) (Y 3) (Y 4)))))) (aL (á gD (al (dq [("ended",7)] (gz (Y 6)) (Z (fB (R ċ (ag cD 1 (al (Y 0))) (Y 1)))) (Y 0)))))) ê) (aL (Y 6))))))
def bP:Ö:=gA 8 cY
def QO:cg:=("take_in",10,["table","jar","ask","given","now"],bP)::QN
theorem wO(A:Af K "take_in" (Ó 115) f)(t:HA P w K mg base T41)(a:ý P w K mg base QN):ý P w K mg base QO:=bt (bW XI Gn ["table","jar","ask","given","now","word","notes","ended"] ["table","jar","ask","given","now"] cY A aI (by delta cY;fin2)) a
def iB:Û:=(aK (cy 5 (aF aw 5 (ni (Y 0) (Y 1) (Y 2) (Y 3) (Y 4)))) (aK (br (fB (á Hb (al (dq [("now",4)] (gz (Y 1)) U (R Ŋ (R Î (Y 0) (X 9)) (Y 1)))))) (gc 6 (Ï "some note was used later than this moment")) ê) (aK (cy 6 (aF bP 5 (ni (Y 0) (Y 1) (Y 2) (Y 5) (Y 4)))) (aK (eD (aF ah 1 (al (Y 6)))) (aL (Y 6))))))
def fm:Ö:=gA 7 iB
def QP:cg:=("taken",11,["table","jar","ask","text","now"],fm)::QO
theorem Dl(A:Af K "taken" (Ó 114) f)(a:ý P w K mg base QO):ý P w K mg base QP:=bt (bW XI Gn ["table","jar","ask","text","now","given","notes"] ["table","jar","ask","text","now"] iB A aI (by delta iB;fin2)) a
def hU:Û:=(aK (cy 5 (aF aw 5 (ni (Y 0) (Y 1) (Y 2) (Y 3) (Y 4)))) (aL (aF bq 5 (ni (Y 0) (Y 1) (Y 2) (Y 5) (Y 4)))))
def fV:Ö:=gA 6 hU
def ON:cg:=("verdict",10,["table","jar","ask","text","now"],fV)::QP
theorem wP(A:Af K "verdict" (Ó 111) f)(a:ý P w K mg base QP):ý P w K mg base ON:=bt (bW XI Gn ["table","jar","ask","text","now","given"] ["table","jar","ask","text","now"] hU A aI (by delta hU;fin2)) a
def cR:ci:=(eK (li 4 (aG (aF fm 5 (ni (f1 (m7 1 0) (Y 0)) (f1 (m7 1 1) (Y 0)) (Y 1) (Y 2) (Y 3))))) (eK (li 5 (aG (aF fV 5 (ni (f1 (m7 1 0) (Y 0)) (f1 (m7 1 1) (Y 0)) (Y 1) (Y 2) (Y 3))))) (eK (lA (cH 1 cf 2 (da 0) (bg (aG (Ï "give")) (bg (aG (Y 4)) fu)))) (jv (aG (Y 5))))))
def dF:Ċ:=ng 6 cR
def TV8:oG:=("give",12,3,dF)::TV7
theorem pR(A:Am K C "Desk.give" "give" (bF (Ó 122) 3) f)(b:ý P w K mg base ON)(a:Ĝ P w K mg base 1 C TV7):Ĝ P w K mg base 1 C TV8:=fL (fN ck ["self","ask","text","now","notes","word"] ["self","ask","text","now"] cR A aI (by delta cR;fin2)) a
def iC:Û:=(aL (eI (bJ (R Î (Y 0) (X 9)) (R Î (Y 0) (X 8)))))
def cq:Ö:=bM 1 iC
def T42:cg:=("when_last",1,["note"],cq)::T41
theorem rV(A:Af K "when_last" (Ó 120) f)(t:HA P w K mg base T41):HA P w K mg base T42:=az (aQ XI Gn ["note"] ["note"] iC A aI (by delta iC;fin2)) t
def hX:Û:=(aK (br (fB (R gtT (ag cq 1 (al (Y 1))) (ag cq 1 (al (Y 0))))) (aL (Y 1)) ê) (aL (Y 0)))
def hZ:Ö:=bM 2 hX
def T43:cg:=("later_of",2,["mine","its"],hZ)::T42
theorem tZ(A:Af K "later_of" (Ó 119) f)(t:HA P w K mg base T42):HA P w K mg base T43:=az (aQ XI Gn ["mine","its"] ["mine","its"] hX A aI (by delta hX;fin2)) t
def ib:Û:=(aL (eI (bJ (R Î (Y 0) (X 8)) (ag cD 1 (al (Y 0))))))
def dG:Ö:=bM 1 ib
def T44:cg:=("place_of",2,["note"],dG)::T43
theorem ua(A:Af K "place_of" (Ó 118) f)(t:HA P w K mg base T43):HA P w K mg base T44:=az (aQ XI Gn ["note"] ["note"] ib A aI (by delta ib;fin2)) t
def dH:ł:=(HC (ag cD 1 (al (Y 3))) (vE (Y 3)))
def dI:ł:=(HC (ag cD 1 (al (Y 3))) (oA hZ (HB (ag cD 1 (al (Y 3))) (Y 3)) (Y 3)))
def jf:Û:=(aK (eD (aF bp 1 (al (Y 0)))) (aK (eD (aF bp 1 (al (Y 1)))) (zD 2 (HE 3 (Y 0) dH) (HE 3 (Y 1) dI) (Md 4 (oE dG) (aK (eD (aF ah 1 (al (Y 4)))) (aL (á gD (al (Y 4)))))))))
def ei:Ö:=gA 5 jf
def R6:cg:=("merged",7,["one","other"],ei)::ON
theorem Ab(A:Af K "merged" (Ó 117) f)(t:HA P w K mg base T44)(a:ý P w K mg base ON):ý P w K mg base R6:=bt (bW XI Gn ["one","other","chosen","note","notes"] ["one","other"] jf A aI (by delta jf dH dI;fin2)) a
def cr:ci:=(eK (li 2 (aG (aF ei 2 (bJ (f1 (m7 1 1) (Y 0)) (Y 1))))) (eK (lA (cH 1 cf 2 (da 0) (bg (aG (Ï "merge")) (bg (aG (Y 2)) fu)))) (jv (aG (á fJ (al (Y 2)))))))
def el:Ċ:=ng 3 cr
def TV9:oG:=("merge",8,1,el)::TV8
theorem nH(A:Am K C "Desk.merge" "merge" (bF (Ó 122) 7) f)(b:ý P w K mg base R6)(a:Ĝ P w K mg base 1 C TV8):Ĝ P w K mg base 1 C TV9:=fL (fN ck ["self","jar","notes"] ["self","jar"] cr A aI (by delta cr;fin2)) a
def jM:Û:=(aK (cy 2 (gB (aP (Ï "a.b") (aP (Ï "b") (uL (Ï "x.a.b") (Ï "y.x.a.b") (Ï "c.uk") (Ï "uk") (Ï "d.c.uk") (Ï "e.d.c.uk")))))) (aK (cy 2 (R bX (Y 2) (gB (uL (Ï "w.ck") (Ï "v.w.ck") (Ï "ck") (Ï "g-1.a.b") (Ï "7.b") (Ï "p.q"))))) (aL (R Î (Y 2) (ag ac 3 (bN (Y 0) (Y 1) (á fJ (al (Y 2)))))))))
def aN:Ö:=bM 3 jM
def T45:cg:=("_law_name",3,["_law_script","_law_at"],aN)::T44
theorem rW(A:Af K "_law_name" (Ó 126) f)(t:HA P w K mg base T44):HA P w K mg base T45:=az (aQ XI Gn ["_law_script","_law_at","_law_some"] ["_law_script","_law_at"] jM A aI (by delta jM;fin2)) t
def jN:Û:=(aK (cy 2 (gB (aP (Ï "/") (aP (Ï "/x") (aP (Ï "/x/") (uL (Ï "/x/y") (Ï "/xy") (Ï "/x/y/z.q") (Ï "//") (Ï "/-_.9") (Ï "/x/y/"))))))) (aL (R Î (Y 2) (ag ac 3 (bN (Y 0) (Y 1) (á fJ (al (Y 2))))))))
def cu:Ö:=bM 3 jN
def T46:cg:=("_law_path",3,["_law_script","_law_at"],cu)::T45
theorem rX(A:Af K "_law_path" (Ó 128) f)(t:HA P w K mg base T45):HA P w K mg base T46:=az (aQ XI Gn ["_law_script","_law_at","_law_some"] ["_law_script","_law_at"] jN A aI (by delta jN;fin2)) t
def ic:Û:=(aK (cy 2 (R Î (gB (bN (fC .non) (ag aN 2 (bJ (Y 0) (R bX (Y 1) (X 3)))) (ag aN 2 (bJ (Y 0) (R bX (Y 1) (X 3)))))) (ag ac 3 (bN (Y 0) (R bX (Y 1) (X 2)) (X 3))))) (aL (eI (nQ (R ß (ag ac 3 (bN (Y 0) (Y 1) (X 2))) (X 0)) (ag aN 2 (bJ (Y 0) (R bX (Y 1) (X 1)))) (ag cu 2 (bJ (Y 0) (R bX (Y 1) (X 4)))) (Y 2)))))
def ie:Ö:=bM 3 ic
def T47:cg:=("_law_ask",4,["_law_script","_law_at"],ie)::T46
theorem ub(A:Af K "_law_ask" (Ó 129) f)(t:HA P w K mg base T46):HA P w K mg base T47:=az (aQ XI Gn ["_law_script","_law_at","_law_origin"] ["_law_script","_law_at"] ic A aI (by delta ic;fin2)) t
def gK:Û:=(aK (cy 3 (R Î (gB (aP (Ï "n") (uL (Ï "safe-a") (Ï "own-b") (Ï "N_2") (Ï "m-1") (Ï "safe-") (Ï "n")))) (ag ac 3 (bN (Y 0) (Y 1) (X 7))))) (aK (cy 4 (R Î (gB (ni (Ï "5") (Ï "") (Ï "a!b~") (Ï "x/y?z") (Ï "123456789012"))) (ag ac 3 (bN (Y 0) (R bX (Y 1) (X 1)) (X 5))))) (yy 5 (ni (fC .non) (fC .non) (Y 2) (R Î (fM (iH) (Y 2) (al (Ï "."))) (f1 Gh (X 1))) (ag aN 2 (bJ (Y 0) (R bX (Y 1) (X 3))))) (fU (B0 (Ŀ (fB (R ı (Ï ".") (Y 2))) (uO (Y 2) (eE (R bX (fM Lw (Y 2) (al (Ï "."))) (X 1))) gM) (Y 2))) (fU (gE 6 (R Î (gB (bN (fC .non) (Ï "/") (ag cu 2 (bJ (Y 0) (R bX (Y 1) (X 5)))))) (ag ac 3 (bN (Y 0) (R bX (Y 1) (X 4)) (X 3))))) (fU (gE 7 (R Î (gB (bN (fC .non) (fC .non) (ag ac 3 (bN (Y 0) (R bX (Y 1) (X 7)) (X 60))))) (ag ac 3 (bN (Y 0) (R bX (Y 1) (X 6)) (X 3))))) (fU (gE 8 (R Î (gB (bN (fC .non) (fC .non) (ag ac 3 (bN (Y 0) (R bX (Y 1) (X 9)) (X 30))))) (ag ac 3 (bN (Y 0) (R bX (Y 1) (X 8)) (X 3))))) (fU (gE 9 (R Î (gB (bJ (Ï "any") (Ï "near"))) (ag ac 3 (bN (Y 0) (R bX (Y 1) (X 11)) (X 2))))) (fU (gE 10 (R ß (ag ac 3 (bN (Y 0) (R bX (Y 1) (X 10)) (X 2))) (X 0))) (yw 5 (eI (aP (Y 3) (aP (Y 4) (uL (R Î (Y 5) (ag ac 3 (bN (Y 0) (R bX (Y 1) (X 2)) (X 6)))) (Y 6) (Y 7) (Y 8) (Y 10) (Y 9)))))))))))))))
def dJ:Ö:=bM 11 gK
def T48:cg:=("_law_given",4,["_law_script","_law_at","_law_house"],dJ)::T47
theorem pS(A:Af K "_law_given" (Ó 131) f)(t:HA P w K mg base T47):HA P w K mg base T48:=az (aQ XI Gn ["_law_script","_law_at","_law_house","_law_name_here","_law_worth","_law_some","_law_path_here","_law_until","_law_lasts","_law_reach","_law_safe"] ["_law_script","_law_at","_law_house"] gK A aI (by delta gK;fin2)) t
def bI:jY:=(fU (gE 6 (R c9 (R c9 (Y 1) (X 1)) (R kx (X 14) (Y 5)))) (fU (gE 4 (R c9 (Y 4) (ag ac 3 (bN (Y 0) (Y 6) (X 4))))) (fU (gE 7 (R Î (gB (nQ (Ï "n") (Ï "m-1") (Ï "safe-a") (Ï "N_2"))) (ag ac 3 (bN (Y 0) (R c9 (Y 6) (X 1)) (X 4))))) (fU (gE 8 (R Î (gB (bN (Ï "5") (Ï "") (Ï "a!b~"))) (ag ac 3 (bN (Y 0) (R c9 (Y 6) (X 2)) (X 3))))) (fU (gE 9 (R Î (gB (bJ (fC .non) (ag ac 3 (bN (Y 0) (R c9 (Y 6) (X 7)) (X 60))))) (ag ac 3 (bN (Y 0) (R c9 (Y 6) (X 6)) (X 2))))) (fU (gE 10 (R ß (ag ac 3 (bN (Y 0) (R c9 (Y 6) (X 4)) (X 2))) (X 0))) (fU (gE 11 (eI (ni (Y 7) (Y 8) (ag aN 2 (bJ (Y 0) (R c9 (Y 6) (X 3)))) (Y 10) (ag cu 2 (bJ (Y 0) (R c9 (Y 6) (X 5))))))) (fU (gE 12 (R Î (gB (bN (Ï "any") (Ï "any") (Ï "near"))) (ag ac 3 (bN (Y 0) (R c9 (Y 6) (X 9)) (X 3))))) (fU (gE 13 (R ß (ag ac 3 (bN (Y 0) (R c9 (Y 6) (X 8)) (X 2))) (X 0))) (fU (gE 14 (R c9 (Y 4) (ag ac 3 (bN (Y 0) (R c9 (Y 6) (X 10)) (X 5))))) (fU (gE 15 (R c9 (Y 11) (eI (ni (Y 9) (Y 13) (Y 12) (Y 4) (Y 14))))) (GM 3 (fB (R ß (dq [("_law_note",15)] (gz (Y 3)) (Z (fB (R ß (eI (bN (R Î (Y 0) (X 0)) (R Î (Y 0) (X 2)) (R Î (Y 0) (X 4)))) (eI (bN (R Î (Y 1) (X 0)) (R Î (Y 1) (X 2)) (R Î (Y 1) (X 4))))))) (Y 0)) (gB bZ))) (B0 (Y 15)) Jz))))))))))))
def kY:Û:=(yy 3 bZ (fU (gE 4 (X 0)) (fU (yz 5 [5,6,7,8,9,10,11,12,13,14,15] (λa=>Ù ((al (ag ac 3 (bN (Y 0) (Y 1) (R c9 (Y 2) (X 1))))) a) w8) bI) (yw 3 (á gD (al (Y 3)))))))
def fW:Ö:=bM 16 kY
def T49:cg:=("_law_jar",4,["_law_script","_law_at","_law_many"],fW)::T48
theorem uc(A:Af K "_law_jar" (Ó 130) f)(t:HA P w K mg base T48):HA P w K mg base T49:=az (aQ XI Gn ["_law_script","_law_at","_law_many","_law_found","_law_now","_law_k","_law_here","_law_name_here","_law_worth","_law_ends","_law_exact","_law_head","_law_reach","_law_safe","_law_late","_law_note"] ["_law_script","_law_at","_law_many"] kY A aI (by delta kY bI;fin2)) t
def aJ:Û:=(br (fB (R nW (Y 11) (fC .non))) (cy 9 (R c9 (R c9 (R c9 (R c9 (Y 9) (Ï "; ")) (Y 10)) (Ï " ")) (á JD (al (Y 11))))) ê)
def gu:Û:=(aK (Ln [1,2,3,4] (lz (Y 0) gM (eE (X 4)))) (aK (Ln [5,6,7,8] (lz (Y 0) (eE (X 4)) gM)) (aK (cy 9 (R c9 (R c9 (Y 1) (Ï "=")) (Y 2))) (aK (wu (gP 10 11) [11,10] (λa=>Ù ((bJ (eI (nQ (Ï "for") (Ï "under") (Ï "until") (Ï "lasts"))) (lz (Y 0) (eE (X 2)) (eE (X 6)))) a) JC) aJ) (aL (R c9 (R c9 (Y 9) (Ŀ (fB (Y 7)) (Ï "; safe") (Ï ""))) (Ŀ (fB (R ß (Y 8) (Ï "near"))) (Ï "; near") (Ï ""))))))))
def cT:Ö:=bM 12 gu
def T50:cg:=("_law_text",1,["_law_given_here"],cT)::T49
theorem rY(A:Af K "_law_text" (Ó 132) f)(t:HA P w K mg base T49):HA P w K mg base T50:=az (aQ XI Gn ["_law_given_here","_law_name_here","_law_worth","_law_house","_law_path_here","_law_until","_law_lasts","_law_safe","_law_reach","_law_text_here","_law_word","_law_thing"] ["_law_given_here"] gu A aI (by delta gu aJ;fin2)) t
def bf:ci:=(eK (Ğ (c8 (fB (R Ż (Y 4) (X 3)))) (eK (li 7 (aG (ag ie 2 (bJ (Y 0) (R bX (Y 1) (X 1)))))) (eK (li 8 (aG (ag dJ 3 (bN (Y 0) (R bX (Y 1) (X 8)) (R Î (Y 7) (X 1)))))) (jv (fw ı (cH 1 dF 3 (da 2) (bg (aG (Y 7)) (bg (aG (ag cT 1 (al (Y 8)))) (bg (aG (Y 3)) fu)))) (Y 6))))) nu) (eK (Ğ (c8 (fB (R ß (Y 4) (X 3)))) (jv (fw ß (cH 1 cV 1 (da 2) (bg (aG (Y 3)) fu)) (R kG (Y 5) (á fJ (al (dO 1 aC 0 (Y 2) bZ)))))) nu) (eK (Ğ (c8 (fB (R ß (Y 4) (X 4)))) (jv (fw ß (cH 1 di 1 (da 2) (bg (aG (ag aN 2 (bJ (Y 0) (R bX (Y 1) (X 2))))) fu)) (R kG (Y 5) (á fJ (al (dO 1 aC 0 (Y 2) bZ)))))) nu) (jv (fw ß (cH 1 el 1 (da 2) (bg (aG (ag fW 3 (bN (Y 0) (R bX (Y 1) (X 25)) (X 3)))) fu)) (á fJ (al (dO 1 aC 0 (Y 2) bZ))))))))
def fH:ci:=(eK (li 4 (aG (ag ac 3 (bN (Y 0) (Y 1) (X 6))))) (eK (li 5 (aG (á fJ (al (dO 1 aC 0 (Y 2) bZ))))) (eK (li 6 (aG (eI (aP (Ï "foreign") (aP (Ï "open") (uL (Ï "unsafe") (Ï "marked") (Ï "far") (Ï "shadowed") (Ï "gone") (Ï "kept"))))))) (EN 5 9 bf (fC (.bl L))))))
def fI:Ċ:=ng 9 fH
def TW1:oG:=("_law_step",13,4,fI)::TW0
theorem pU(A:Af K "_law_step" (Ó 133) f)(t:HA P w K mg base T50)(d:š P w K mg base 1 C TO2)(b:Ĝ P w K mg base 1 C TV9)(a:G' P w K mg base TW0):G' P w K mg base TW1:=CV (Ic XI Gn ["_law_script","_law_at","_law_desk","_law_now","_law_way","_law_before","_law_words","_law_ask_here","_law_given_here"] ["_law_script","_law_at","_law_desk","_law_now"] fH A aI (by delta fH bf;fin2)) a
def jg:Û:=(aK (cy 2 (gB (aP (Ï "!w.ck") (aP (Ï "*.ck") (uL (Ï "*.uk") (Ï "a.b") (Ï "b") (Ï "c.uk") (Ï "q") (Ï "uk")))))) (aL (á gD (al (c6 2 [("_law_script",0),("_law_at",1)] (λa=>Ù ((al (Y 2)) a) BQ) (gP 0 1) (Z (fB (R ß (ag ac 3 (bN (Y 2) (R bX (Y 3) (Y 0)) (X 2))) (X 0)))) (Y 1))))))
def dL:Ö:=bM 3 jg
def T51:cg:=("_law_table",3,["_law_script","_law_at"],dL)::T50
theorem pV(A:Af K "_law_table" (Ó 127) f)(t:HA P w K mg base T50):HA P w K mg base T51:=az (aQ XI Gn ["_law_script","_law_at","_law_some"] ["_law_script","_law_at"] jg A aI (by delta jg;fin2)) t
def Ac:æ:=(fB (R ċ (dO 1 aY 0 (Y 1) bZ) (Y 5)))
def ud:ci:=(Ğ (OM (uB (CT fI 4 (bg (aG (Y 0)) (bg (aG (R bX (X 30) (R kx (X 90) (Y 4)))) (bg (da 1) (bg (aG (Y 3)) fu))))))) (jv (aG (fC (.bl D)))) nu)
def ue:ci:=(li 5 (aG (dO 1 aY 0 (Y 1) bZ)))
def uf:ci:=(li 3 (aG (R bX (R bX (Y 3) (X 10)) (ag ac 3 (bN (Y 0) (R bX (X 16) (Y 4)) (X 4))))))
def mM:ci:=(eK uf (eK ue (eK ud (Ğ (c8 Ac) (lA (CQ (da 2) (bg (aG (dO 1 aC 0 (Y 1) bZ)) fu))) nu))))
def ug:æ:=(Ĉ (fB (R ċ (dO 1 aC 0 (Y 1) bZ) (R Î (Y 2) (Y 4)))) (fB (R ċ (dO 1 aY 0 (Y 1) bZ) (eI (bJ (Y 4) (R kG (Y 6) (Y 4)))))))
def uh:ci:=(lA (CQ (da 7) (bg (cH 1 bQ 0 (da 1) fu) fu)))
def mO:ci:=(eK uh (Ğ (c8 ug) (jv (aG (fC (.bl D)))) nu))
def Ad:æ:=(fB (R ċ (dq [] (gz (Y 7)) (Z (fB (R lh (Y 0) (eI (nQ (Ï "give") (Ï "sweep") (Ï "forget") (Ï "merge")))))) (Y 0)) (gB bZ)))
def Ae:æ:=(fB (R ċ (dO 1 aC 0 (Y 1) bZ) (R Î (Y 2) (Y 4))))
def Ag:æ:=(fB (R ċ (dO 1 aY 0 (Y 1) bZ) (eI (bJ (Y 4) (R kG (Y 6) (Y 4))))))
def ui:ci:=(Ğ (uOr (uB (fw ċ (cH 1 fP 0 (da 1) fu) (R Î (Y 7) (R kG (Y 6) (Y 4))))) (c8 Ae)) (jv (aG (fC (.bl D)))) nu)
def mP:ci:=(eK ui (Ğ (c8 Ag) (jv (aG (fC (.bl D)))) nu))
def Ah:æ:=(fB (R ċ (dO 1 aY 0 (Y 1) bZ) (eI (bJ (R kG (Y 6) (Y 8)) (Y 8)))))
def Ai:æ:=(fB (R ċ (dO 1 aY 0 (Y 1) bZ) (eI (bJ (R bX (R kG (Y 6) (Y 8)) (X 1)) (X 0)))))
def uj:ci:=(Ğ (uOr (c8 Ai) (uB (fw ċ (cH 1 bQ 0 (da 1) fu) (Ï "sweep")))) (jv (aG (fC (.bl D)))) nu)
def ul:ci:=(lA (cH 1 cV 1 (da 1) (bg (aG (X 0)) fu)))
def um:ci:=(Ğ (c8 Ah) (jv (aG (fC (.bl D)))) nu)
def uo:ci:=(Ğ (uB (fw ċ (wE [("_law_desk",1)] (iU1 (al (Y 8))) (uOk (cH 1 bQ 0 (da 1) fu))) (uO (Y 7) gM (eE (Y 8))))) (jv (aG (fC (.bl D)))) nu)
def uq:ci:=(li 8 (aG (ag ac 3 (bN (Y 0) (X 26) (R bX (Y 6) (X 1))))))
def pW:ci:=(rK 4 [4] (iU2 (bJ (X 1) (R bX (Y 6) (X 1)))) mP)
def pY:ci:=(Ğ (c8 Ad) (jv (aG (fC (.bl D)))) nu)
def pZ:ci:=(rK 4 [] (iU3 (bN (R kG (Y 6) (X 1)) (f1 Gh (X 1)) (f1 Gh (X 1)))) mO)
def p0:ci:=(li 7 (xb fu))
def p8:ci:=(li 6 (aG (R kG (á fJ (al (Y 2))) (X 1))))
def p9:ci:=(rK 4 [5] (iU1 (al (R bX (X 2) (ag ac 3 (bN (Y 0) (X 15) (X 8)))))) mM)
def qc:ci:=(li 3 (aG (X 0)))
def qd:ci:=(li 2 (xb (bg (aG (dO 1 aC 0 (Y 1) bZ)) fu)))
def qe:ci:=(li 1 (zV 1 cx 1 (bg (aG (ag dL 2 (bJ (Y 0) (X 0)))) fu)))
def wQ:ci:=(eK qe (eK qd (eK qc (eK p9 (eK p8 (eK p0 (eK pZ (eK pY (eK pW (eK uq (eK uo (eK um (eK ul (eK uj (jv (aG (jU (R ß (dO 1 aC 0 (Y 1) bZ) (R Î (Y 2) (R kG (Y 6) (Y 8)))) (R ß (dO 1 aY 0 (Y 1) bZ) (eI (bJ (R kG (Y 6) (Y 8)) (X 1)))))))))))))))))))))
def wR:Ö:=OL 9 wQ
theorem M9{a:UD}(A:ļ K "law" "law" (Ó 134) f a)(t:HA P w K mg base T51)(e:š P w K mg base 1 C TO2)(d:Ĝ P w K mg base 1 C TV9)(b:G' P w K mg base TW1)(g:MD P w K mg base 1 C 7 1 cx):ì P w K mg base į 14 f a ["_law_script"] (Ņ K wR 1):=MF ["_law_script","_law_desk","_law_rows","_law_now","_law_k","_law_before","_law_many","_law_words","_law_back"] ["_law_script"] wQ (by lk) (by lk) A (Hu (by lk)) (by delta wQ Ac ud ue uf mM ug uh mO Ad Ae Ag ui mP Ah Ai uj ul um uo uq pW pY pZ p0 p8 p9 qc qd qe;fin2)
end
theorem af{K:d_}{x:Str}{b:Us}(f:O)(m:String:="law_notejar_k74_whole_back")(t:Nat:=1053)(c:Nat:=Nat.pred f)(a:nsM K x=Z (Z (.ref f)):=by lk)(l:K.lookup f=Z ⟨rl "function",U,.func (Vq x x (ik b) (bU b) (aq b) .none .none .none (kS m t) U (kR c) .none),#[]⟩:=by lk)(d:XB K (kR c) x=L:=by lk)(k:UK K (.ref f)=L:=by lk):Af K x b f:=⟨a,⟨_,Ed l d k⟩,k⟩
theorem amf{K:d_}{x q:Str}{a:Us}(f:O)(m:String)(t c:Nat)(l:K.lookup f=Z ⟨rl "function",U,.func (Vq x q (ik a) (bU a) (aq a) .none .none .none (kS m t) U (kR c) .none),#[]⟩:=by lk)(d:XB K (kR c) q=L:=by lk)(k:UK K (.ref f)=L:=by lk):∃b,ļ K x q a f b:=⟨_,Ed l d k⟩
theorem am{K:d_}{C:O}{x q:Str}{b:Us}{f:O}(e:∃d,ļ K x q b f d)(a:UR K (.ref C) x=Z (Z (.ref f)):=by lk)(i:Zx K (.ref f)=L:=by lk)(k:UK K (.ref f)=L:=by lk):Am K C q x b f:=⟨⟨a,i,k⟩,e⟩
theorem all_mk{l:ZO}{w:x_}{K:d_}{h:TC}{g:Str->Option B}{fa:O}(X:K.In h)(G:h.Ns B_ g)(c1:g "law"=Z (.ref fa)){f1 R f3 f4 f5 f6 f7 f8 f9 n4 n3 n2 n1 n0 m9 m8 m6 m4 m3 m2 m1 m0 l9 l6 l5 l3 l2 l1 l0 k5 k4 k3 k2 k1 k0 j2 j1 j0 i9 i8 i3 i1 h9 h8 h7 h6 h5 h4 h3 h2 h1 h0 g0 f0 e9 e8 e7 e6 e5 e4 e3 e2 e1 e0 d9 d8 d7 d6 d4 d3 d2 d1 d0 fl:O}(A1:Af K "is_text_of" (Ó 12) f1)(A2:Af K "is_label" (Ó 21) R)(A3:Af K "is_name" (Ó 22) f3)(A4:Af K "is_rule" (Ó 23) f4)(A5:Af K "is_table" (Ó 24) f5)(A6:Af K "need_table" (Ó 26) f6)(A7:Af K "key" (Ó 97) f7)(A8:Af K "has_no_key_twice" (Ó 103) f8)(A9:Af K "is_by_made" (Ó 102) f9)(x7:Af K "is_whole_number" (Ó 13) n4)(x6:Af K "is_moment" (Ó 47) n3)(x5:Af K "is_moment_or_none" (Ó 48) n2)(x4:Af K "is_note_name" (Ó 68) n1)(x3:Af K "is_path" (Ó 36) n0)(x2:Af K "is_reach" (Ó 70) m9)(x1:Af K "is_tuple_of" (Ó 14) m8)(x0:Af K "is_worth" (Ó 69) m6)(w7:Af K "is_note" (Ó 92) m4)(w3:Af K "is_jar" (Ó 101) m3)(w2:Af K "need_jar" (Ó 104) m2)(w1:Af K "need_moment" (Ó 49) m1)(w0:Af K "has_ended" (Ó 98) m0)(v9:Af K "without_ended" (Ó 107) l9)(v6:Af K "swept" (Ó 106) l6)(v5:Af K "_law_cell" (Ó 124) l5)(v3:Af K "_law_drawn" (Ó 125) l3)(v1:Af K "lies_within" (Ó 27) l2)(v0:Af K "need_name" (Ó 25) l1)(u7:Af K "forgotten" (Ó 108) l0)(u6:Af K "need_no_more_than_a_jar_has" (Ó 105) k5)(u2:Af K "is_ask" (Ó 50) k4)(u1:Af K "need_ask" (Ó 51) k3)(s9:Af K "is_written_moment" (Ó 73) k2)(s8:Af K "what_is_told" (Ó 74) k1)(s7:Af K "read_given" (Ó 75) k0)(s6:Af K "read_what_is_given" (Ó 110) j2)(s5:Af K "end_for" (Ó 95) j1)(s4:Af K "house_for" (Ó 93) j0)(s3:Af K "behind_first_dot" (Ó 29) i9)(s2:Af K "ends_longest_first" (Ó 28) i8)(s1:Af K "is_told_open" (Ó 30) i3)(s0:Af K "find_open_end" (Ó 31) i1)(r8:Af K "is_open" (Ó 88) h9)(r7:Af K "is_exact" (Ó 89) h8)(r6:Af K "is_given" (Ó 71) h7)(r5:Af K "need_given" (Ó 72) h6)(r4:Af K "need_path" (Ó 37) h5)(r3:Af K "folder" (Ó 38) h4)(r2:Af K "path_for" (Ó 94) h3)(r1:Af K "find_own_end" (Ó 32) h2)(r0:Af K "comes_from_near" (Ó 52) h1)(q7:Af K "keeps_its_mark" (Ó 90) h0)(q6:Af K "why_refused" (Ó 91) g0)(q5:Af K "made" (Ó 96) f0)(q4:Af K "put" (Ó 109) e9)(q3:Af K "lies_under" (Ó 39) e8)(q2:Af K "shadows" (Ó 113) e7)(q1:Af K "word_of" (Ó 112) e6)(q0:Af K "take_in" (Ó 115) e5)(p7:Af K "taken" (Ó 114) e4)(p6:Af K "verdict" (Ó 111) e3)(p5:Af K "when_last" (Ó 120) e2)(p4:Af K "later_of" (Ó 119) e1)(p3:Af K "place_of" (Ó 118) e0)(p2:Af K "merged" (Ó 117) d9)(p1:Af K "_law_name" (Ó 126) d8)(o4:Af K "_law_path" (Ó 128) d7)(o3:Af K "_law_ask" (Ó 129) d6)(o2:Af K "_law_given" (Ó 131) d4)(o1:Af K "_law_jar" (Ó 130) d3)(o0:Af K "_law_text" (Ó 132) d2)(n9:Af K "_law_step" (Ó 133) d1)(n8:Af K "_law_table" (Ó 127) d0){C g1 g2 g3 g4 g5 g6 g7 g8 g9 c4 c3 c2:O}(b:CK K 1 C)(G1:∃p,ļ K "__init__" "Desk.__init__" (bF (Ó 122) 0) g1 p)(mk:Mk K C g1)(G2:Am K C "Desk.move" "move" (bF (Ó 122) 10) g2)(G3:Am K C "Desk.back" "back" (bF (Ó 122) 8) g3)(G4:Am K C "Desk.forth" "forth" (bF (Ó 122) 9) g4)(G5:Am K C "Desk.notes" "notes" (bF (Ó 122) 1) g5)(G6:Am K C "Desk.steps" "steps" (bF (Ó 122) 11) g6)(G7:Am K C "Desk.do_step" "do_step" (bF (Ó 122) 2) g7)(G8:Am K C "Desk.do_and_count" "do_and_count" (bF (Ó 122) 6) g8)(G9:Am K C "Desk.sweep" "sweep" (bF (Ó 122) 4) g9)(n7:Am K C "Desk.forget" "forget" (bF (Ó 122) 5) c4)(n6:Am K C "Desk.give" "give" (bF (Ó 122) 3) c3)(n5:Am K C "Desk.merge" "merge" (bF (Ó 122) 7) c2)(AL:Af K "law" (Ó 134) fl)(ma:CC.all (Qj K)=L){C0 C1 C2 C3 C4 C5 C6 C8 CJ:O}(cb:caB K [0,1,2,3,4,5,6,8] [C0,C1,C2,C3,C4,C5,C6,0,C8] CJ 9=L):∃p:UD,(∀(s:ge)(v:B),aaX s p ⟨[v],[]⟩ [("_law_script",v)])/\∀f:TC,K.In f->f.Ns B_ g->ì l.prog w K g f į 14 fa p ["_law_script"] (Ņ K wR 1):=by
 have e:=c1.symm.trans (WG X G AL.a);cases e;have M:=L1 X G CC ma;obtain⟨p,Fn⟩:=AL.F;refine⟨p,?_,λf _ _=>?_⟩;·obtain⟨oc,od,kV,y0,pm,an,y1,ct,x8,rfl,lk,x9⟩:=Fn.ex;exactλs v=>.of_eq rfl
 obtain⟨a,d⟩:=Qq X G cb;have x':š l.prog w K g f 1 C TO0:=HL;have v':Ĝ l.prog w K g f 1 C TV0:=Ib;have m':G' l.prog w K g f TW0:=Ia;have t0:HA l.prog w K g f T0:=L0;have E':ý l.prog w K g f TE0:=Hl;have t1:=pF b X G M a d A1 t0;have t2:=tJ b X G M a d A2 t1;have t3:=wG b X G M a d A3 t2;have t4:=wH b X G M a d A4 t3;have t5:=tK b X G M a d A5 t4;have z:=pG b X G M a d A6 t5 E';have tj:=kT b X G M a d G1 mk z;have u':=pH b X G M a d G2 v';have t':=pI b X G M a d G3 u';have s':=nv b X G M a d G4 t';have w':=pJ b X G M a d G5 x';have r:=pK b X G M a d G6 w';have r':=lC b X G M a d G7 s';have q':=iV b X G M a d G8 r';have t6:=M7 b X G M a d A7 t5;have t7:=jK b X G M a d A8 t6;have t8:=pL b X G M a d A9 t7;have t9:=j8 b X G M a d x7 t8;have c0:=rN b X G M a d x6 t9;have b9:=jw b X G M a d x5 c0;have b8:=mF b X G M a d x4 b9;have b7:=wI b X G M a d x3 b8;have b6:=tL b X G M a d x2 b7;have b5:=ny b X G M a d x1 b6;have b4:=tM b X G M a d x0 b5;have b3:=wJ b X G M a d w7 b4;have o:=z4 b X G M a d w3 b3;have D':=tN b X G M a d w2 o z;have C':=nA b X G M a d w1 o D';have b2:=rO b X G M a d w0 o;have N:=lD b X G M a d v9 b2;have y:=Dj b X G M a d v6 N C';have p':=nB b X G M a d G9 y q';have b1:=rP b X G M a d v5 N;have b0:=pM b X G M a d v3 b1;have n:=nF b X G M a d v1 b0;have B':=rQ b X G M a d v0 n y;have u:=rR b X G M a d u7 n B';have o':=mH b X G M a d n7 u p';have A':=fG b X G M a d u6 u;have I:=z9 b X G M a d u2 n;have z':=tP b X G M a d u1 I A';have a9:=jx b X G M a d s9 I;have H:=mI b X G M a d s8 a9;have y':=pN b X G M a d s7 H z';have k':=iX b X G M a d s6 y';have a8:=wK b X G M a d s5 H;have a7:=rS b X G M a d s4 a8;have a6:=jL b X G M a d s3 a7;have a5:=i5 b X G M a d s2 a6;have a4:=mJ b X G M a d s1 a5;have a3:=lE b X G M a d s0 a4;have a2:=wL b X G M a d r8 a3;have a1:=tQ b X G M a d r7 a2;have m:=tW b X G M a d r6 a1;have i':=pO b X G M a d r5 m k';have h':=rT b X G M a d r4 m i';have g':=Aa b X G M a d r3 h';have f':=tX b X G M a d r2 g';have a0:=mL b X G M a d r1 m;have U':=kl b X G M a d r0 a0;have k:=kX b X G M a d q7 U';have e':=nG b X G M a d q6 k f';have d':=Ix b X G M a d q5 k e';have T':=M8 b X G M a d q4 k;have S':=pQ b X G M a d q3 T';have j:=wM b X G M a d q2 S';have c':=wN b X G M a d q1 j d';have b':=wO b X G M a d q0 j c';have a':=Dl b X G M a d p7 b';have i:=wP b X G M a d p6 a';have n':=pR b X G M a d n6 i o';have R':=rV b X G M a d p5 j;have Q':=tZ b X G M a d p4 R';have E:=ua b X G M a d p3 Q';have P:=Ab b X G M a d p2 E i;have q:=nH b X G M a d n5 P n';have O':=rW b X G M a d p1 E;have N':=rX b X G M a d o4 O';have J':=ub b X G M a d o3 N';have I':=pS b X G M a d o2 J';have H':=uc b X G M a d o1 I';have A:=rY b X G M a d o0 H';have l':=pU b X G M a d n9 A r q m';have F':=pV b X G M a d n8 A;exact M9 b X G M a d Fn F' r q l' tj
end G
set_option maxHeartbeats 4000000
namespace FD
open PySem.StrLaws PySem.Builtin PySem.Builtin.Str
noncomputable def J(S:List Nat):List Nat->List (List Nat)->List Nat|p,[]=>p|p,q::r=>p++(S++J S q r)
theorem Ũ:At d o d.length b↔b+o.length<=d.length/\(d.cps.toList.drop b).take o.length=o.cps.toList:=by unfold At;rw[subAt_eq];simp
theorem Aj{a:List Nat}(f:o.cps.toList=b::a){k:Nat}(h:At d o d.length k):d.cps.toList[k]?=Z b:=by
 obtain⟨_,g⟩:=Ũ.mp h;rw[f]at g;have e:=congrArg (λl=>l[0]?) g;simp only[List.getElem?_cons_zero]at e;have i:0<o.length:=by show 0<o.cps.size;rw[<-UZ,f];simp
 rw[Zd i,YW]at e;simpa using e
theorem Iy{f:List Nat}(n:o.cps.toList=b::f){p i:List Nat}{a k:Nat}(m:d.cps.toList.drop a=p++i)(j:b∉p)(r:a<=k)(q:k<a+p.length):¬At d o d.length k:=by
 intro h;have e:=Aj n h;have g:(d.cps.toList.drop a)[k-a]?=Z b:=by rw[YW,show a+(k-a)=k by omega];exact e
 rw[m,I_ (by omega)]at g;exact j (TV g)
theorem vt{x b:Str}{c:Nat}{w:List Nat}(A:b.cps.toList=c::w):∀(g:List (List Nat))(p:List Nat)(a:Nat)(d:List Nat)(f:Nat),(∀q∈p::g,c∉q)->x.cps.toList.drop a=J b.cps.toList p g->a<=x.length->ChainG x b x.length a d f->(∀k,f<=k->¬At x b x.length k)->(partsFrom x b.length a d).map (λs=>s.cps.toList)=p::g
 |[],p,a,d,f,y,o,ha,u,H=>by
  have i:x.cps.toList.length=x.length:=by simp[YM]
  have I:∀k,a<=k->¬At x b x.length k:=λk hk h=>by
   have e:=Aj A h;have e2:(x.cps.toList.drop a)[k-a]?=Z c:=by rw[YW,show a+(k-a)=k by omega];exact e
   rw[o]at e2;exact y p q_ (TV e2)
  cases d with|nil=>
   show[(strSub x a x.length).cps.toList]=[p];rw[strSub_toList,o];show[p.take (x.length-a)]=[p];have:p.length=x.length-a:=by have:=congrArg Yh o;rw[X4,i]at this;exact this.symm
   rw[XQ (by omega)]|cons k E=>exact absurd u.2.1 (I k u.1)
 |q::r,p,a,d,f,y,o,ha,u,H=>by
  have i:x.cps.toList.length=x.length:=by simp[YM]
  have j:b.cps.toList.length=b.length:=by simp[YM]
  have n:x.cps.toList.drop a=p++(b.cps.toList++J b.cps.toList q r):=o;have m:x.cps.toList.drop (a+p.length)=b.cps.toList++J b.cps.toList q r:=by rw[<-List.drop_drop,n,List.drop_left]
  have N:=congrArg Yh m;rw[X4,i,T_,j]at N;have a':0<b.length:=by rw[<-j,A];simp
  have v:At x b x.length (a+p.length):=Ũ.mpr ⟨by omega,by rw[m,<-j,List.take_left]⟩;have P:∀k,a<=k->k<a+p.length->¬At x b x.length k:=λk h1 h2=>Iy A n (y p q_) h1 h2;cases d with|nil=>exact absurd v (H _ (by have:f=a:=u;omega))|cons k E=>
   obtain⟨g1,g2,g3,g4⟩:=u;have ek:k=a+p.length:=by
    rcases Y4 k (a+p.length)with h|h|h;·exact absurd g2 (P k g1 h)
    ·exact h
    ·exact absurd v (g3 _ (by omega) h)
   subst ek;show(strSub x a (a+p.length)).cps.toList::(partsFrom x b.length (a+p.length+b.length) E).map (λs=>s.cps.toList)=p::q::r;rw[vt A r q (a+p.length+b.length) E f (λz hz=>y z (r_ _ hz)) (by rw[<-List.drop_drop,m,<-j,List.drop_left]) (by omega) g4 H,strSub_toList,n,show a+p.length-a=p.length by omega,List.take_left]
theorem Al(h:d.cps.toList=o.cps.toList):d=o:=by obtain⟨⟨d⟩⟩:=d;obtain⟨⟨o⟩⟩:=o;simp at h;rw[h]
theorem jO:∀{l m:List Str},l.map (λs=>s.cps.toList)=m.map (λs=>s.cps.toList)->l=m|[],[],_=>rfl|a::l,b::m,h=>by simp only[E_,ZU]at h;rw[Al h.1,jO h.2]|[],_::_,h=>by simp at h|_::_,[],h=>by simp at h
theorem ur{i:List Nat}(w:o.cps.toList=b::i)(N:VF o=1){p:Str}{a:List Str}(u:∀q∈p::a,b∉q.cps.toList)(k:d.cps.toList=J o.cps.toList p.cps.toList (a.map λs=>s.cps.toList)):VW d o=p::a:=by
 have g:o.cps.toList.length=o.length:=by simp[YM]
 have j:d.cps.toList.length=d.length:=by simp[YM]
 obtain⟨f,E,z⟩:=occ_tight d o (by rw[<-g,w];simp);have e:=vt w (a.map λs=>s.cps.toList) p.cps.toList 0 _ f (by
  intro q m;rcases uk.mp m with rfl|m;·exact u p q_
  ·obtain⟨s,y,rfl⟩:=R_.mp m;exact u s (r_ _ y)) (by rw[aaf];exact k) (Ua _) E z;have I:1<=VF d:=by unfold VF;split;omega;split<;>omega
 unfold VW;split
 · rename_i v;rw[ZV,decide_eq_true_eq,decide_eq_true_eq]at v;rcases v with h|h;·cases a with|nil=>rw[Al (d:=d) (o:=p) k]|cons q r=>have:=congrArg Yh k;rw[j]at this;simp only[E_,J,T_,g]at this;omega
   ·omega
 · split;·rename_i A;have H:occurrences d o 0 d.length (d.length+1)=[]:=List.isEmpty_iff.mp A;rw[H]at e;have n:[(strSub d 0 d.length).cps.toList]=p.cps.toList::(a.map λs=>s.cps.toList):=e;rw[sub_whole]at n;exact jO (l:=[d]) (m:=p::a) n
   ·rw[partsBetween_eq];exact jO (by rw[e];rfl)
open L2
theorem vv{d:Ò}{e:Ev}{g:Type}(i:g->Q)(f:g->Q):∀{l:List g},(∀a∈l,d (e.set 0 (Z (i a)))=Z (.ok (f a)))->yb U d e (l.map i)=Z (l.map f)|[],_=>rfl|a::l,h=>by have j:=vv (d:=d) (e:=e) i f (l:=l) λb k=>h b (r_ _ k);rw[E_,E_];unfold yb;dsimp only;rw[h a q_,j]
theorem rZ{e:æ}{g:Ò}{d:Ev}{i:Type}(j:i->Q)(p:i->Bool)(f:i->Q):∀{l:List i},(∀a∈l,e (d.set 0 (Z (j a)))=Z (.ok (p a))/\g (d.set 0 (Z (j a)))=Z (.ok (f a)))->yb (Z e) g d (l.map j)=Z ((l.filter p).map f)|[],_=>rfl|a::l,h=>by have k:=rZ (e:=e) (g:=g) (d:=d) j p f (l:=l) λb m=>h b (r_ _ m);obtain⟨o,n⟩:=h a q_;rw[E_];unfold yb;dsimp only;rw[o,k];cases q:p a with|true=>dsimp only;rw[n,Wq q];rfl|false=>dsimp only;rw[VA (by rw[q];decide)]
theorem vx{d:Ò}{e:Ev}{i:Type}(g:i->Q)(f:i->Q):∀{l:List i},(∀a∈l,d (e.set 0 (Z (g a)))=Z (.ok (f a)))->kH (gN 0) U d e (l.map g)=Z (l.map f)|[],_=>rfl|a::l,h=>by have j:=vx (d:=d) (e:=e) g f (l:=l) λb k=>h b (r_ _ k);rw[E_,E_];unfold kH;show(match d (e.set 0 (Z (g a)))with|some (.ok y)=>_|_=>_)=_;rw[h a q_,j]
theorem r9{e:æ}{g:Ò}{d:Ev}{j:Type}(i:j->Q)(p:j->Bool)(f:j->Q):∀{l:List j},(∀a∈l,e (d.set 0 (Z (i a)))=Z (.ok (p a))/\g (d.set 0 (Z (i a)))=Z (.ok (f a)))->kH (gN 0) (Z e) g d (l.map i)=Z ((l.filter p).map f)|[],_=>rfl|a::l,h=>by have k:=r9 (e:=e) (g:=g) (d:=d) i p f (l:=l) λb m=>h b (r_ _ m);obtain⟨o,n⟩:=h a q_;rw[E_];unfold kH;show(match e (d.set 0 (Z (i a)))with|some (.ok L)=>_|some (.ok D)=>_|_=>_)=_;rw[o,k];cases q:p a with|true=>dsimp only;rw[n,Wq q];rfl|false=>dsimp only;rw[VA (by rw[q];decide)]
theorem kn{d:List (Str×Nat)}(b f:ε->Q){l:List ε}(g:ν δ=Z (.ok (l.map b)))(e:l.length<=100000)(h:∀a∈l,y ((Ej d δ).set 0 (Z (b a)))=Z (.ok (f a))):dq d ν U y δ=Z (.ok (.lst (l.map f))):=by unfold dq;rw[g];show(match yb U y (Ej d δ) (l.map b)with|some i=>_|none=>_)=_;rw[vv b f h];dsimp only;rw[if_pos ⟨by simpa using e,by simpa using e⟩]
theorem jh{d:List (Str×Nat)}(b:ε->Q)(p:ε->Bool)(f:ε->Q){l:List ε}(e:ν δ=Z (.ok (l.map b)))(g:l.length<=100000)(h:∀a∈l,Μ ((Ej d δ).set 0 (Z (b a)))=Z (.ok (p a))/\y ((Ej d δ).set 0 (Z (b a)))=Z (.ok (f a))):dq d ν (Z Μ) y δ=Z (.ok (.lst ((l.filter p).map f))):=by unfold dq;rw[e];show(match yb (Z Μ) y (Ej d δ) (l.map b)with|some i=>_|none=>_)=_;rw[rZ b p f h];dsimp only;have:=Vl p l;rw[if_pos ⟨by simp;omega,by simpa using g⟩]
theorem se{d:List (Str×Nat)}(b f:ε->Q){l:List ε}(g:ν δ=Z (.ok (l.map b)))(e:l.length<=100000)(h:∀a∈l,y ((iM 1 d δ).set 0 (Z (b a)))=Z (.ok (f a))):c6 1 d ν (gN 0) U y δ=Z (.ok (.lst (l.map f))):=by unfold c6;rw[g];show(match kH (gN 0) U y (iM 1 d δ) (l.map b)with|some i=>_|none=>_)=_;rw[vx b f h];dsimp only;rw[if_pos ⟨by simpa using e,by simpa using e⟩]
theorem wS{d:List (Str×Nat)}(b:ε->Q)(p:ε->Bool)(f:ε->Q){l:List ε}(e:ν δ=Z (.ok (l.map b)))(g:l.length<=100000)(h:∀a∈l,Μ ((iM 1 d δ).set 0 (Z (b a)))=Z (.ok (p a))/\y ((iM 1 d δ).set 0 (Z (b a)))=Z (.ok (f a))):c6 1 d ν (gN 0) (Z Μ) y δ=Z (.ok (.lst ((l.filter p).map f))):=by unfold c6;rw[e];show(match kH (gN 0) (Z Μ) y (iM 1 d δ) (l.map b)with|some i=>_|none=>_)=_;rw[r9 b p f h];dsimp only;have:=Vl p l;rw[if_pos ⟨by simp;omega,by simpa using g⟩]
theorem Iz(h:-(2^62)<=n/\n<2^62/\-(2^62)<=Ω/\Ω<2^62):Bk [.int n,.int Ω]=Z (.ok (rng n (Ω-n).toNat)):=by rw[Bk,if_pos h]
theorem IA(h:-(2^62)<=n/\n<2^62):w8 [.int n]=Z (.ok (rng 0 n.toNat)):=by rw[w8,if_pos h]
theorem IB(h:b<=1000):-(2^62)<=(1:Int)/\(1:Int)<2^62/\-(2^62)<=(b:Int)/\(b:Int)<2^62:=by omega
theorem Na(h:b<=1000):Bk [.int 1,.int (b:Int)]=Z (.ok (rng 1 ((b:Int)-1).toNat)):=Iz (IB h)
theorem Nb(h:b<=1000):w8 [.int (b:Int)]=Z (.ok (rng 0 b)):=by rw[IA (by omega)];rfl
theorem mQ{b:Type}(p:b->Bool):∀l:List b,jX (l.map λa=>Q.bl (p a))=Z (l.map p)|[]=>rfl|a::l=>by show(match jX (l.map λa=>Q.bl (p a))with|some bs=>Z (p a::bs)|none=>U)=_;rw[mQ p l];rfl
mutual
def ŕ:Q->Bool|.exn _=>D|.obj _ _=>D|.tup ds=>ķ ds|.lst ds=>ķ ds|_=>L
def ķ:List Q->Bool|[]=>L|d::ds=>ŕ d&&ķ ds
end
mutual
theorem qf:∀d:Q,ŕ d=L->UL (fZ d) (fZ d)=L
 |.non,_=>by simp[fZ,UL]|.bl b,_=>by simp[fZ,UL]|.int b,_=>by simp[fZ,UL]|.str b,_=>by simp[fZ,UL]|.tup ds,h=>by simp only[fZ,UL];exact Ě ds (by simpa[ŕ]using h)|.lst ds,h=>by simp only[fZ,UL];exact Ě ds (by simpa[ŕ]using h)|.scr a,_=>by simp only[fZ,UL];induction a with|nil=>simp[Vr]|cons n a f=>simp[Vr,UL];exact f rfl
 |.exn _,h=>by simp[ŕ]at h|.obj _ _,h=>by simp[ŕ]at h
theorem Ě:∀ds:List Q,ķ ds=L->Vr (ò ds) (ò ds)=L
 |[],_=>by simp[ò,Vr]|d::ds,h=>by
  have e:ŕ d=L/\ķ ds=L:=by simpa[ķ]using h
  simp only[ò,Vr,m_];exact⟨qf d e.1,Ě ds e.2⟩end
theorem ko(a b:Str):Ŕ (.str a) (.str b)=Z (seq a b):=rfl
theorem vy(a:Str):Ŕ (.str a) .non=Z D:=rfl
theorem sf(a b:Int):Ŕ (.int a) (.int b)=Z (a==b):=rfl
theorem vz:∀d:Q,Ŕ d d=Z L\/Ŕ d d=U|.non=>.inl rfl|.bl b=>.inl (by cases b<;>rfl)|.int i=>.inl (congrArg Z (by simp))|.str x=>.inl (congrArg Z (by unfold seq;simp))|.tup _=>.inr rfl|.lst _=>.inr rfl|.scr _=>.inr rfl|.exn _=>.inr rfl|.obj _ _=>.inr rfl
theorem uu(b:okP j=L)(a:ŕ j=L):ċ j j=Z (.ok (.bl D)):=by
 unfold ċ;rcases vz j with e|e<;>rw[e];·rfl
 ·show(if(okP j&&okP j)=L then Z (Rs.ok (Q.bl (!UL (fZ j) (fZ j))))else U)=_;rw[b,qf j a];rfl
theorem An(b:okP j=L)(a:ŕ j=L):ß j j=Z (.ok (.bl L)):=by unfold ß;rcases vz j with e|e<;>rw[e];show(if(okP j&&okP j)=L then Z (Rs.ok (Q.bl (UL (fZ j) (fZ j))))else U)=_;rw[b,qf j a];rfl
structure Ę(k:Nat)(d:Q):Prop where
 c:Ue (fZ d)=L
 dp:(fZ d).depth<=k
 p:ŕ d=L
theorem IC{k:Nat}:∀{ds:List Q},(∀d∈ds,Ę k d)->V1 (ò ds)=L/\ZP (ò ds)<=k/\ķ ds=L|[],_=>by simp[ò,V1,ZP,ķ]|d::ds,h=>by obtain⟨f,i,e⟩:=IC (ds:=ds) λg b=>h g (r_ _ b);have a:=h d q_;simp only[ò,V1,ZP,ķ,m_];exact⟨⟨a.c,f⟩,by have:=a.dp;omega,a.p,e⟩
theorem sg(h:∀d∈E,Ę b d):Ę (b+1) (.tup E):=by obtain⟨f,e,a⟩:=IC h;exact⟨by simpa[fZ,Ue]using f,by simp[fZ,XD];exact e,by simpa[ŕ]using a⟩
theorem vA(h:∀d∈E,Ę b d):Ę (b+1) (.lst E):=by obtain⟨f,e,a⟩:=IC h;exact⟨by simpa[fZ,Ue]using f,by simp[fZ,XD];exact e,by simpa[ŕ]using a⟩
theorem Ę.okP(h:Ę b j)(a:b<=64):okP j=L:=by unfold FD.okP SeqAt.shaped;rw[h.c];have:=h.dp;simp;omega
theorem Ę.le(h:Ę b j)(a:b<=k):Ę k j:=⟨h.c,TU h.dp a,h.p⟩
theorem ji(h:Ue (.str d)=L):Ę 0 (.str d):=⟨h,by simp[fZ,XD],rfl⟩
theorem vB:Ę 0 (.int n):=⟨rfl,by simp[fZ,XD],rfl⟩
theorem Nc:Ę 0 (.bl H):=⟨rfl,by simp[fZ,XD],rfl⟩
theorem Nd:Ę 0 .non:=⟨rfl,by simp[fZ,XD],rfl⟩
end FD
namespace G
open L2 FD
theorem lF(h:Ρ (E.map Z++N_ (b-E.length) U)=Z (.rt j)):gA b Ρ E=Z (.ok j):=by unfold gA;rw[h]
theorem QQ(h:Ρ (E.map Z++N_ (b-E.length) U)=Z (.exc k)):gA b Ρ E=Z (.exc k):=by unfold gA;rw[h]
theorem cE(F:Ö){n:Nat}{g:à}{b:Ev}{a:List Q}{r:Option (Rs Q)}(h:g b=Z (.ok a))(d:a.length=n)(e:F a=r):aF F n g b=r:=by unfold aF;rw[h,<-e];exact if_pos d
theorem SZ(h:y δ=Z (.exc b)):eD y δ=Z (.exc b):=by unfold eD;rw[h];rfl
theorem R7{a:Û}(h:Ρ δ=Z (.exc b)):aK Ρ a δ=Z (.exc b):=by unfold aK;rw[h];rfl
theorem EQ(h:Ρ δ=Z (.rt j)):Cj b k ι Ρ y δ=Z (.rt j):=by unfold Cj;rw[h]
theorem Nf{c:Nat}(h:Ρ δ=Z (.exc c))(d:c<b)(a:y ((N_ ι U).set k (Z (.exn c)))=Z (.ok j)):Cj b k ι Ρ y δ=Z (.rt j):=by unfold Cj;rw[h];dsimp only;rw[if_pos d,a]
theorem QR{g:Û}(h:Μ δ=Z (.ok L))(a:Ρ δ=Z (.exc b)):br Μ Ρ g δ=Z (.exc b):=by rw[wF h,a]
theorem ID(a:List Int)(s:a.length<=63)(k:Int):∃c,dr [.scr a,.int k]=Z (.ok (.int c)):=by cases a with|nil=>exact⟨7*k,by lk⟩|cons n r=>
 have v:0<(n::r).length:=by simp
 have b:(0:Int)<((n::r).length:Int):=by omega
 have p:((n::r).length:Int)<1073741824:=by omega
 have o:0<=k%((n::r).length:Int):=VZ _ (by omega);have u:k%((n::r).length:Int)<((n::r).length:Int):=Vo _ b;have m:(k%((n::r).length:Int)).toNat<(n::r).length:=by omega
 refine⟨(n::r)[(k%((n::r).length:Int)).toNat]+6553*(k/((n::r).length:Int)),?_⟩;have f:Ă (n::r) (k%((n::r).length:Int))=Z (n::r)[(k%((n::r).length:Int)).toNat]:=by unfold Ă;rw[if_pos o,F_ m]
 have g:jQ (.int k) (.int ((n::r).length:Int))=Z (.ok (.int (k%((n::r).length:Int)))):=by show(if 0<((n::r).length:Int)then _ else _)=_;rw[if_pos b]
 have j:jV (.int k) (.int ((n::r).length:Int))=Z (.ok (.int (k/((n::r).length:Int)))):=by show(if 0<((n::r).length:Int)/\((n::r).length:Int)<1073741824 then _ else _)=_;rw[if_pos ⟨b,p⟩]
 have h:Î (.scr (n::r)) (.int (k%((n::r).length:Int)))=Z (.ok (.int (n::r)[(k%((n::r).length:Int)).toNat])):=by show(match Ă (n::r) (k%((n::r).length:Int))with|some d=>_|none=>_)=_;rw[f]
 show(match gh [Z (.scr (n::r)),Z (.int k)]with|some (.nx _)=>_|some (.rt d)=>_|_=>_)=_;have e:gh [Z (.scr (n::r)),Z (.int k)]=c5 (Ù (Ù (jQ (.int k) (.int ((n::r).length:Int))) λi=>Î (.scr (n::r)) i) λx=>Ù (Ù (jV (.int k) (.int ((n::r).length:Int))) λq=>kx (.int 6553) q) λy=>bX x y) λd=>Z (.rt d):=by lk
 rw[e,g,j];show(match c5 (Ù (Î (.scr (n::r)) (.int (k%((n::r).length:Int)))) λx=>_) _ with|some (.nx _)=>_|some (.rt d)=>_|_=>_)=_;rw[h];lk
noncomputable def W'(c k:Int):Int:=(c%2147483563*69069+104723*(k+1))%2147483563
noncomputable def dr2(c:Int):Int:=(c*c+c/3)%2147483399
noncomputable def dr3(c m:Int):Int:=(c*c+c/7)%2147483647/11%m
theorem oJ(h:(-18446744073709551616<n/\n<18446744073709551616)\/(-18446744073709551616<Ω/\Ω<18446744073709551616)):kx (.int n) (.int Ω)=Z (.ok (.int (n*Ω))):=by show(if _ then _ else _)=_;rw[if_pos h]
theorem sh(h:0<Ω):jQ (.int n) (.int Ω)=Z (.ok (.int (n%Ω))):=by show(if _ then _ else _)=_;rw[if_pos h]
theorem aU(a:List Int)(j:a.length<=63)(k m:Int)(g:0<m):∃d:Int,0<=d/\d<m/\ac [.scr a,.int k,.int m]=Z (.ok (.int d)):=by
 obtain⟨c,n⟩:=ID a j k;refine⟨dr3 (dr2 (W' c k)) m,VZ _ (by omega),Vo _ g,?_⟩;have v:0<=W' c k/\W' c k<2147483563:=⟨VZ _ (by omega),Vo _ (by omega)⟩;have u:0<=dr2 (W' c k)/\dr2 (W' c k)<2147483399:=⟨VZ _ (by omega),Vo _ (by omega)⟩;have w:0<=c%2147483563/\c%2147483563<2147483563:=⟨VZ _ (by omega),Vo _ (by omega)⟩;show bM 4 dD [.scr a,.int k,.int m]=_;have i:(ag dr 2 (bJ (Y 0) (Y 1))) [Z (.scr a),Z (.int k),Z (.int m),U]=Z (.ok (.int c)):=by show(match dr [.scr a,.int k]with|some (.ok d)=>(Z (.ok d):Option (Rs Q))|_=>U)=_;rw[n]
 have q:(cy 3 (R jQ (R bX (R kx (R jQ (ag dr 2 (bJ (Y 0) (Y 1))) (X 2147483563)) (X 69069)) (R kx (X 104723) (R bX (Y 1) (X 1)))) (X 2147483563))) [Z (.scr a),Z (.int k),Z (.int m),U]=Z (.nx [Z (.scr a),Z (.int k),Z (.int m),Z (.int (W' c k))]):=by show c5 (Ù (Ù (Ù (Ù ((ag dr 2 (bJ (Y 0) (Y 1))) [Z (.scr a),Z (.int k),Z (.int m),U]) λx=>jQ x (.int 2147483563)) λx=>kx x (.int 69069)) λx=>Ù (kx (.int 104723) (.int (k+1))) λy=>bX x y) λx=>jQ x (.int 2147483563)) (λd=>Z (.nx [Z (.scr a),Z (.int k),Z (.int m),Z d]))=_;rw[i];show c5 (Ù (Ù (Ù (jQ (.int c) (.int 2147483563)) λx=>kx x (.int 69069)) λx=>Ù (kx (.int 104723) (.int (k+1))) λy=>bX x y) λx=>jQ x (.int 2147483563)) _=_;rw[sh (by omega),oJ (n:=104723) (.inl (by omega))];show c5 (Ù (Ù (kx (.int (c%2147483563)) (.int 69069)) λx=>bX x (.int (104723*(k+1)))) λx=>jQ x (.int 2147483563)) _=_;rw[oJ (.inl (by omega))];show c5 (jQ (.int (c%2147483563*69069+104723*(k+1))) (.int 2147483563)) _=_;rw[sh (by omega)];rfl
 generalize s:W' c k=f at*;have p:(cy 3 (R jQ (R bX (R kx (Y 3) (Y 3)) (R jV (Y 3) (X 3))) (X 2147483399))) [Z (.scr a),Z (.int k),Z (.int m),Z (.int f)]=Z (.nx [Z (.scr a),Z (.int k),Z (.int m),Z (.int (dr2 f))]):=by show c5 (Ù (Ù (kx (.int f) (.int f)) λx=>bX x (.int (f/3))) λx=>jQ x (.int 2147483399)) (λd=>Z (.nx [Z (.scr a),Z (.int k),Z (.int m),Z d]))=_;rw[oJ (.inl (by omega))];show c5 (jQ (.int (f*f+f/3)) (.int 2147483399)) _=_;rw[sh (by omega)];rfl
 generalize r:dr2 f=b at*;have o:(aL (R jQ (R jV (R jQ (R bX (R kx (Y 3) (Y 3)) (R jV (Y 3) (X 7))) (X 2147483647)) (X 11)) (Y 2))) [Z (.scr a),Z (.int k),Z (.int m),Z (.int b)]=Z (.rt (.int (dr3 b m))):=by show c5 (Ù (Ù (Ù (Ù (kx (.int b) (.int b)) λx=>bX x (.int (b/7))) λx=>jQ x (.int 2147483647)) λx=>jV x (.int 11)) λx=>jQ x (.int m)) (λd=>Z (.rt d))=_;rw[oJ (.inl (by omega))];show c5 (Ù (Ù (jQ (.int (b*b+b/7)) (.int 2147483647)) λx=>jV x (.int 11)) λx=>jQ x (.int m)) _=_;rw[sh (by omega)];show c5 (jQ (.int ((b*b+b/7)%2147483647/11)) (.int m)) _=_;rw[sh g];rfl
 show(match dD [Z (.scr a),Z (.int k),Z (.int m),U]with|some (.nx _)=>_|some (.rt d)=>_|_=>_)=_;have e:dD [Z (.scr a),Z (.int k),Z (.int m),U]=Z (.rt (.int (dr3 b m))):=by show sq ((cy 3 _) _) (λh=>sq ((cy 3 _) h) _)=_;rw[q];show sq ((cy 3 _) [Z (.scr a),Z (.int k),Z (.int m),Z (.int f)]) _=_;rw[p];exact o
 rw[e]
noncomputable def ě:List Str:=[b_ "a.b",b_ "b",b_ "x.a.b",b_ "y.x.a.b",b_ "c.uk",b_ "uk",b_ "d.c.uk",b_ "e.d.c.uk",b_ "w.ck",b_ "v.w.ck",b_ "ck",b_ "g-1.a.b",b_ "7.b",b_ "p.q"]
noncomputable def ë:List Q:=[.str "!w.ck",.str "*.ck",.str "*.uk",.str "a.b",.str "b",.str "c.uk",.str "q",.str "uk"]
noncomputable def kZ:List Q->List (List Q)|[]=>[[]]|x::r=>(kZ r).map (x::·)++kZ r
noncomputable def okO(o:Option (Rs Q)):Option (Rs Q):=match o with|some (.ok d)=>Z (.ok d)|_=>U
theorem iK(b:0<=n)(d:n<E.length):∃x∈E,Î (.lst E) (.int n)=Z (.ok x):=by
 have a:n.toNat<E.length:=by omega
 refine⟨E[n.toNat],W4 a,?_⟩;show(match Ă E n with|some n=>_|none=>_)=_;unfold Ă;rw[if_pos b,F_ a]
def drL(o:Option (Rs Q))(l:List Str):Option (Rs Q):=match c5 (Ù (match o with|some (.ok d)=>(Z (.ok d):Option (Rs Q))|_=>U) λi=>Î (.lst (l.map Q.str)) i) λd=>Z (.rt d)with|some (.nx _)=>Z (.ok .non)|some (.rt d)=>Z (.ok d)|_=>U
theorem ES{o:Option (Rs Q)}(g:0<=n)(f:n<A.length)(d:o=Z (.ok (.int n))):∃p∈A,drL o A=Z (.ok (.str p)):=by obtain⟨x,a,e⟩:=iK (E:=A.map Q.str) g (by rw[P_];exact f);obtain⟨p,b,rfl⟩:=R_.1 a;subst d;refine⟨p,b,?_⟩;unfold drL Ù;dsimp only;rw[e];rfl
theorem mR(a:List Int)(b:a.length<=63)(k:Int):∃p∈ě,aN [.scr a,.int k]=Z (.ok (.str p)):=by obtain⟨d,g,f,e⟩:=aU a b k 14 (by omega);rw[show aN [.scr a,.int k]=drL (ac [.scr a,.int k,.int 14]) ě by lk];exact ES g f e
def IE:æ:=fB (R ß (ag ac 3 (bN (Y 2) (R bX (Y 3) (Y 0)) (X 2))) (X 0))
theorem ET(a:List Int)(g:a.length<=63)(z:Int):∀(l:List Q)(k:Nat),∃t∈kZ l,kH (gP 0 1) (Z IE) (Y 1) [U,U,Z (.scr a),Z (.int z)] (kJ k l)=Z t
 |[],k=>⟨[],by simp[kZ],rfl⟩|x::r,k=>by
  obtain⟨t,f,e⟩:=ET a g z r (k+1);obtain⟨d,o,n,j⟩:=aU a g (z+k) 2 (by omega);have b:IE [Z (.int k),Z x,Z (.scr a),Z (.int z)]=Ù (Ù (okO (ac [.scr a,.int (z+k),.int 2])) λx=>ß x (.int 0)) Ą:=by lk
  have i:kH (gP 0 1) (Z IE) (Y 1) [U,U,Z (.scr a),Z (.int z)] (kJ k (x::r))=(match IE [Z (.int k),Z x,Z (.scr a),Z (.int z)]with|some (.ok L)=>(match kH (gP 0 1) (Z IE) (Y 1) [U,U,Z (.scr a),Z (.int z)] (kJ (k+1) r)with|some h=>Z (x::h)|none=>U)|some (.ok D)=>kH (gP 0 1) (Z IE) (Y 1) [U,U,Z (.scr a),Z (.int z)] (kJ (k+1) r)|_=>U):=by lk
  rw[i,b,j,e];have m:d=0\/d=1:=by omega
  rcases m with rfl|rfl;·exact⟨x::t,by simp[kZ,f],by lk⟩
  ·exact⟨t,by simp[kZ,f],by lk⟩
theorem qg:∀{l t:List Q},t∈kZ l->t.length<=l.length
 |[],t,h=>by simp[kZ]at h;simp[h]|x::r,t,h=>by
  simp only[kZ,TH,R_]at h;rcases h with⟨u,a,rfl⟩|h;·have:=qg a;simp;omega
  ·have:=qg h;simp;omega
theorem Do(a:List Int)(i:a.length<=63):∃t∈kZ ë,dL [.scr a,.int 0]=Z (.ok (.tup t)):=by
 obtain⟨t,g,e⟩:=ET a i 0 ë 0;refine⟨t,g,?_⟩;have f:t.length<=100000:=by have:=qg g;have:ë.length=8:=rfl;omega
 have h:dL [.scr a,.int 0]=(match c5 (Ù (Ù (match kH (gP 0 1) (Z IE) (Y 1) [U,U,Z (.scr a),Z (.int 0)] (kJ 0 ë)with|some b=>if b.length<=100000/\(kJ 0 ë).length<=100000 then(Z (.ok (.lst b)):Option (Rs Q))else U|none=>U) λx=>Ù (Z (.ok [])) λb=>Z (.ok (x::b))) gD) λd=>Z (.rt d)with|some (.nx _)=>Z (.ok .non)|some (.rt d)=>Z (.ok d)|_=>U):=by lk
 rw[h,e];dsimp only;rw[if_pos ⟨f,by decide⟩];rfl
noncomputable def ï:List Str:=[b_ "/",b_ "/x",b_ "/x/",b_ "/x/y",b_ "/xy",b_ "/x/y/z.q",b_ "//",b_ "/-_.9",b_ "/x/y/"]
theorem uv(a:List Int)(b:a.length<=63)(k:Int):∃p∈ï,cu [.scr a,.int k]=Z (.ok (.str p)):=by obtain⟨d,g,f,e⟩:=aU a b k 9 (by omega);rw[show cu [.scr a,.int k]=drL (ac [.scr a,.int k,.int 9]) ï by lk];exact ES g f e
theorem nI(F:Ö){f g k:Ò}{e:Ev}{a b c d:Q}(h:f e=Z (.ok a))(m:g e=Z (.ok b))(i:k e=Z (.ok c))(j:F [a,b,c]=Z (.ok d)):ag F 3 (bN f g k) e=Z (.ok d):=pc (ae h (ae m (ae i au))) rfl j
theorem Dr(a:List Int)(b:a.length<=63)(z:Int):∃s h p O,h∈ě/\p∈ï/\(O=Q.non\/∃o∈ě,O=.str o)/\ie [.scr a,.int z]=Z (.ok (.tup [.bl s,.str h,.str p,O])):=by
 obtain⟨f,H,E,m⟩:=aU a b (z+2) 3 (by omega);obtain⟨o,q,d⟩:=mR a b (z+3);obtain⟨w,A,y,n⟩:=aU a b z 2 (by omega);obtain⟨h,u,j⟩:=mR a b (z+1);obtain⟨p,r,i⟩:=uv a b (z+4);have g:∃O,(O=Q.non\/∃o∈ě,O=.str o)/\Î (.lst [.non,.str o,.str o]) (.int f)=Z (.ok O):=by
  have v:f=0\/f=1\/f=2:=by omega
  rcases v with rfl|rfl|rfl;·exact⟨.non,.inl rfl,rfl⟩
  ·exact⟨.str o,.inr ⟨o,q,rfl⟩,rfl⟩
  ·exact⟨.str o,.inr ⟨o,q,rfl⟩,rfl⟩
 obtain⟨O,g,k⟩:=g;refine⟨(w==0),h,p,O,u,r,g,iI ?_⟩;show ic [Z (.scr a),Z (.int z),U]=_;unfold ic;have e:R Î (gB (bN (fC .non) (ag aN 2 (bJ (Y 0) (R bX (Y 1) (X 3)))) (ag aN 2 (bJ (Y 0) (R bX (Y 1) (X 3)))))) (ag ac 3 (bN (Y 0) (R bX (Y 1) (X 2)) (X 3))) [Z (.scr a),Z (.int z),U]=Z (.ok O):=by rw[bb (yp (ae rfl (ae (gO aN rfl rfl d) (ae (gO aN rfl rfl d) au))) (by show 3<=100000;decide)) (nI ac rfl rfl rfl m)];exact k
 rw[ay (a:=[Z (.scr a),Z (.int z),Z O]) (bV e rfl)];refine eQ (jG (ae ?_ (ae (gO aN rfl rfl j) (ae (gO cu rfl rfl i) (ae rfl au)))) (by show 4<=100000;decide));rw[bb (nI ac rfl rfl rfl n) rfl];rfl
abbrev bo(k:Bool):Option (Rs Q):=Z (.ok (.bl k))
def En:List Str:=ě++[b_ "q"]
theorem iD(h:seq d o=L):d=o:=by unfold seq at h;obtain⟨⟨a⟩⟩:=d;obtain⟨⟨b⟩⟩:=o;simp at h;rw[h]
theorem df{l:List ε}{p:ε->Bool}(n:Nat)(b:(l.take n).all p=L)(a:(l.drop n).all p=L):l.all p=L:=by rw[<-List.take_append_drop n l,List.all_append,b,a];rfl
def QS(t:List Q)(n:Str):Bool:=match cQ [.tup t,.str n],dj [.tup t,.str n]with|some (.ok (.str _)),Z (.ok .non)=>L|some (.ok (.str _)),Z (.ok (.str z))=>Ue (.str z)|_,_=>D
def iO(t:List Q):Bool:=En.all λn=>QS t n
def cZ:Nat->List (List Q)|0=>kZ ë|k+1=>(cZ k).drop 16
theorem S8:((cZ 0).take 16).all iO=L:=by lk
theorem S9:((cZ 1).take 16).all iO=L:=by lk
theorem Ta:((cZ 2).take 16).all iO=L:=by lk
theorem Tc:((cZ 3).take 16).all iO=L:=by lk
theorem Td:((cZ 4).take 16).all iO=L:=by lk
theorem Te:((cZ 5).take 16).all iO=L:=by lk
theorem Tf:((cZ 6).take 16).all iO=L:=by lk
theorem Tg:((cZ 7).take 16).all iO=L:=by lk
theorem Th:((cZ 8).take 16).all iO=L:=by lk
theorem Ti:((cZ 9).take 16).all iO=L:=by lk
theorem QT:((cZ 10).take 16).all iO=L:=by lk
theorem QU:((cZ 11).take 16).all iO=L:=by lk
theorem QV:((cZ 12).take 16).all iO=L:=by lk
theorem QW:((cZ 13).take 16).all iO=L:=by lk
theorem QX:((cZ 14).take 16).all iO=L:=by lk
theorem QY:((cZ 15).take 16).all iO=L:=by lk
theorem Ng:(kZ ë).all iO=L:=(df (l:=cZ 0) 16 S8 (df (l:=cZ 1) 16 S9 (df (l:=cZ 2) 16 Ta (df (l:=cZ 3) 16 Tc (df (l:=cZ 4) 16 Td (df (l:=cZ 5) 16 Te (df (l:=cZ 6) 16 Tf (df (l:=cZ 7) 16 Tg (df (l:=cZ 8) 16 Th (df (l:=cZ 9) 16 Ti (df (l:=cZ 10) 16 QT (df (l:=cZ 11) 16 QU (df (l:=cZ 12) 16 QV (df (l:=cZ 13) 16 QW (df (l:=cZ 14) 16 QX (df (l:=cZ 15) 16 QY (show(cZ 16).all iO=L by lk)))))))))))))))))
theorem IF(d:E∈kZ ë){n:Str}(e:n∈En):∃m o,cQ [.tup E,.str n]=Z (.ok (.str m))/\(o=Q.non\/∃z,o=.str z)/\dj [.tup E,.str n]=Z (.ok o):=by
 have h:=aX (show(En.all λn=>QS E n)=L from aX Ng d) e;unfold QS at h;split at h;·rename_i m b a;exact⟨m,_,b,.inl rfl,a⟩
 ·rename_i m z b a;exact⟨m,_,b,.inr ⟨z,rfl⟩,a⟩
 ·cases h
noncomputable def Ń:Option (Rs Q)->Bool|some (.ok (.bl L))=>L|_=>D
theorem mS{o:Option (Rs Q)}(h:Ń o=L):o=Z (.ok (.bl L)):=by
 unfold Ń at h;split at h;·rfl
 ·cases h
noncomputable def KE:Option (Rs Q)->Bool|some (.ok (.bl _))=>L|_=>D
theorem EU{o:Option (Rs Q)}(h:KE o=L):∃k,o=bo k:=by
 unfold KE at h;split at h;·exact⟨_,rfl⟩
 ·cases h
noncomputable def okF:Option (Rs Q)->Bool|some (.ok (.bl D))=>L|_=>D
theorem Ao:((kZ ë).all λt=>Ń (cz [.tup t]))=L:=by lk
theorem jj(a:E∈kZ ë):cz [.tup E]=bo L:=mS (aX (p:=λE=>Ń (cz [.tup E])) Ao a)
noncomputable def Į:List Str:=[b_ "n",b_ "safe-a",b_ "own-b",b_ "N_2",b_ "m-1",b_ "safe-",b_ "own"]
noncomputable def ĸ:List Str:=[b_ "5",b_ "",b_ "a!b~",b_ "x/y?z",b_ "123456789012",b_ "1"]
theorem Nh:(Į.all λn=>Ń (aM [.str n]))=L:=by lk
theorem Ni:(Į.all λn=>!(Ud n (b_ "safe-")&&Ud n (b_ "own-")))=L:=by lk
theorem Nj:(ĸ.all λn=>Ń (bK [.str n]))=L:=by lk
theorem Nk:(En.all λn=>Ń (bD [.str n]))=L:=by lk
theorem Nl:(ï.all λn=>Ń (cL [.str n]))=L:=by lk
theorem Nm:(En.all λp=>En.all λq=>KE (aD [.str p,.str q]))=L:=by lk
def QZ(p:Str):Bool:=match kj [.str p]with|some (.ok (.str f))=>ï.any (λq=>seq q f)|_=>D
theorem Nn:(ï.all QZ)=L:=by lk
theorem R8(h:d∈Į):aM [.str d]=bo L:=mS (aX (p:=λd=>Ń (aM [.str d])) Nh h)
theorem Tj(h:d∈Į):Ud d (b_ "safe-")=D\/Ud d (b_ "own-")=D:=by have:=aX (p:=λd=>!(Ud d (b_ "safe-")&&Ud d (b_ "own-"))) Ni h;simpa using this
theorem R9(h:d∈ĸ):bK [.str d]=bo L:=mS (aX (p:=λd=>Ń (bK [.str d])) Nj h)
theorem No(h:d∈En):bD [.str d]=bo L:=mS (aX (p:=λd=>Ń (bD [.str d])) Nk h)
theorem Q0(h:d∈ï):cL [.str d]=bo L:=mS (aX (p:=λd=>Ń (cL [.str d])) Nl h)
theorem Sa(h:d∈En)(a:o∈En):∃k,aD [.str d,.str o]=bo k:=EU (aX (p:=λo=>KE (aD [.str d,.str o])) (aX (p:=λd=>En.all λo=>KE (aD [.str d,.str o])) Nm h) a)
theorem Tk(h:d∈ï):∃f∈ï,kj [.str d]=Z (.ok (.str f)):=by
 have q:=aX (p:=QZ) Nn h;unfold QZ at q;split at q;·rename_i f b;obtain⟨y,a,g⟩:=Wr.mp q;have e:=iD g;subst e;exact⟨y,a,b⟩
 ·cases q
theorem Q1(h:cz [j]=bo L):aW [j]=Z (.ok .non):=by simp[aW,gA,dP,br,c5,Ù,cF,fB,Ą,ag,aP,bZ,Y,h]
theorem Q2(h:iz [j]=bo L):cP [j]=Z (.ok .non):=by simp[cP,gA,iA,br,c5,Ù,cF,fB,Ą,ag,aP,bZ,Y,h]
theorem Sb(h:gZ [j]=bo L):cX [j]=Z (.ok .non):=by simp[cX,gA,fR,br,c5,Ù,cF,fB,Ą,ag,aP,bZ,Y,h]
theorem IG(h:bc [j]=bo L):bG [j]=Z (.ok .non):=by simp[bG,gA,fg,br,c5,Ù,cF,fB,Ą,ag,aP,bZ,Y,h]
theorem si(b:0<=n)(a:n<=9999):bc [.int n]=bo L:=by
 have e:aR [.int n,.int 0,.int 9999]=bo L:=by simp[aR,bM,aZ,aK,sq,br,aL,c5,Ù,Ĉ,cF,fB,Ą,Y,f1,R,jU,jR,fY,qX,Ĳ,b,a]
 simp[bc,bM,eU,aL,c5,Ù,ag,aP,bZ,Y,fC,e]
def Mo(u:Q):Prop:=u=.non\/∃i:Int,0<=i/\i<=9999/\u=.int i
theorem Ap(h:Mo j):aA [j]=bo L:=by
 rcases h with rfl|⟨i,b,a,rfl⟩;·simp[aA,bM,bj,aL,c5,Ù,Ą,Y,fC,R,ĳ,Ď]
 ·simp[aA,bM,bj,aL,c5,Ù,Ą,ag,aP,bZ,Y,fC,R,ĳ,Ď,si b a]
structure Ak(h p:Str)(O:Q):Prop where
 h:h∈En
 p:p∈ï
 o:O=.non\/∃o∈ě,O=.str o
theorem me(q:d∈ě):d∈En:=O_ _ q
abbrev ü(s:Bool)(h p:Str)(O:Q):Q:=.tup [.bl s,.str h,.str p,O]
theorem Ds(a:Ak d o j):iz [ü H d o j]=bo L:=by
 have g:bS [.tup [.bl H,.str d,.str o,j],.int 4]=bo L:=by lk
 have f:=No (a.h);have e:=Q0 a.p;rcases a.o with rfl|⟨b,h,rfl⟩;·simp[iz,bM,kh,aK,sq,br,aL,c5,Ù,cF,fB,Ą,ag,aP,bZ,Y,fC,f1,R,Î,Ă,ĳ,gB,á,Ď,jR,fY,g,f,e,o8,jX]
 ·have i:=No (me h);simp[iz,bM,kh,aK,sq,br,aL,c5,Ù,cF,fB,Ą,ag,aP,bZ,Y,fC,f1,R,Î,Ă,ĳ,gB,á,Ď,jR,fY,g,f,e,i,o8,jX]
theorem Np(d:E∈kZ ë){h p:Str}{O:Q}(a:Ak h p O):∃k,∀s,aS [.tup E,ü s h p O]=bo k:=by
 rcases a.o with rfl|⟨o,i,rfl⟩;·exact⟨L,λs=>by simp[aS,bM,ba,aK,sq,br,aL,cy,c5,Ù,Ĉ,fB,Ą,Y,fC,R,Î,Ă,Ď]⟩
 ·obtain⟨v,r,_,m,b⟩:=IF d (a.h);obtain⟨u,n,_,j,e⟩:=IF d (me i);cases q:seq o h with|true=>exact⟨L,λs=>by simp[aS,bM,ba,aK,sq,br,aL,cy,c5,Ù,Ĉ,fB,Ą,Y,fC,R,Î,Ă,Ď,ß,ko,vy,q]⟩|false=>
 rcases m with rfl|⟨g,rfl⟩;·exact⟨D,λs=>by simp[aS,bM,ba,aK,sq,br,aL,cy,c5,Ù,Ĉ,fB,Ą,ag,aP,bZ,Y,fC,R,Î,Ă,jU,Ď,nW,ß,ko,vy,q,b]⟩
 · rcases j with rfl|⟨f,rfl⟩;·exact⟨D,λs=>by simp[aS,bM,ba,aK,sq,br,aL,cy,c5,Ù,Ĉ,fB,Ą,ag,aP,bZ,Y,fC,R,Î,Ă,jU,Ď,nW,ß,ko,vy,q,b,e]⟩
   ·exact⟨seq g f,λs=>by simp[aS,bM,ba,aK,sq,br,aL,cy,c5,Ù,Ĉ,fB,Ą,ag,aP,bZ,Y,fC,R,Î,Ă,jU,Ď,nW,ß,ko,vy,q,b,e]⟩
structure Gv(nm w:Str)(H P u l:Q)(S:Bool)(R:Str):Prop where
 nm:nm∈Į
 w:w∈ĸ
 hh:H=.non\/∃n∈En,H=.str n
 pp:P=.non\/∃p∈ï,P=.str p
 u:u=.non\/∃i:Int,0<=i/\i<60/\u=.int i
 l:l=.non\/∃i:Int,0<=i/\i<30/\l=.int i
 r:R=b_ "any"\/R=b_ "near"
abbrev ā(a w:Str)(H P u l:Q)(S:Bool)(R:Str):Q:=.tup [.str a,.str w,H,P,u,l,.bl S,.str R]
def JF:Option (Rs Q)->Bool|some (.ok (.str z))=>En.any λq=>seq q z|_=>D
theorem Aq{o:Option (Rs Q)}(h:JF o=L):∃n∈En,o=Z (.ok (.str n)):=by
 unfold JF at h;split at h;·rename_i z;obtain⟨y,a,b⟩:=Wr.mp h;have e:=iD b;subst e;exact⟨y,a,rfl⟩
 ·cases h
def Dt:Ò:=(R Î (fM (iH) (Y 2) (al (Ï "."))) (f1 Gh (X 1)))
def Du:Ò:=(Ŀ (fB (R ı (Ï ".") (Y 2))) (uO (Y 2) (eE (R bX (fM Lw (Y 2) (al (Ï "."))) (X 1))) gM) (Y 2))
theorem Dw:(ě.all λh=>JF (Dt [U,U,Z (.str h)]))=L:=by lk
theorem Dx:(ě.all λh=>JF (Du [U,U,Z (.str h)]))=L:=by lk
theorem Nq(q:d∈ě){a b:Option Q}{r:Ev}:∃n∈En,Dt (a::b::Z (.str d)::r)=Z (.ok (.str n)):=Aq (aX (p:=λd=>JF (Dt [U,U,Z (.str d)])) Dw q)
theorem Nr(q:d∈ě){a b:Option Q}{r:Ev}:∃n∈En,Du (a::b::Z (.str d)::r)=Z (.ok (.str n)):=Aq (aX (p:=λd=>JF (Du [U,U,Z (.str d)])) Dx q)
theorem Dy(d:List Int)(e:d.length<=63)(z:Int){h:Str}(r:h∈ě):∃f w H P u l S a,Gv f w H P u l S a/\dJ [.scr d,.int z,.str h]=Z (.ok (ā f w H P u l S a)):=by
 obtain⟨d0,a0,b0,e0⟩:=aU d e z 7 (by omega);obtain⟨d1,a1,b1,e1⟩:=aU d e (z+1) 5 (by omega);obtain⟨d2,a2,b2,e2⟩:=aU d e (z+2) 6 (by omega);obtain⟨d4,a4,b4,e4⟩:=aU d e (z+4) 3 (by omega);obtain⟨d6,a6,b6,e6⟩:=aU d e (z+6) 3 (by omega);obtain⟨d7,a7,b7,e7⟩:=aU d e (z+7) 60 (by omega);obtain⟨d8,a8,b8,e8⟩:=aU d e (z+8) 3 (by omega);obtain⟨d9,a9,b9,e9⟩:=aU d e (z+9) 30 (by omega);obtain⟨b',g',f',a'⟩:=aU d e (z+10) 2 (by omega);obtain⟨e',d',c',N⟩:=aU d e (z+11) 2 (by omega);obtain⟨n3,E,e3⟩:=mR d e (z+3);obtain⟨p5,y,e5⟩:=uv d e (z+5);obtain⟨q,m0,i0⟩:=iK (E:=[.str "n",.str "safe-a",.str "own-b",.str "N_2",.str "m-1",.str "safe-",.str "n"]) a0 b0;obtain⟨p,m1,i1⟩:=iK (E:=[.str "5",.str "",.str "a!b~",.str "x/y?z",.str "123456789012"]) a1 b1;obtain⟨b,hL,eL⟩:=Nq r (a:=Z (.scr d)) (b:=Z (.int z)) (r:=[Z q,Z p,U,U,U,U,U,U]);obtain⟨TL,hT,eT⟩:=Nr r (a:=Z (.scr d)) (b:=Z (.int z)) (r:=[Z q,Z p,U,U,U,U,U,U]);obtain⟨o,m2,i2⟩:=iK (E:=[.non,.non,.str h,.str b,.str n3,.str TL]) a2 b2;obtain⟨m,m4,i4⟩:=iK (E:=[.non,.str "/",.str p5]) a4 b4;obtain⟨k,m6,i6⟩:=iK (E:=[.non,.non,.int d7]) a6 b6;obtain⟨j,m8,i8⟩:=iK (E:=[.non,.non,.int d9]) a8 b8;obtain⟨s,g,v⟩:=iK (E:=[.str "any",.str "near"]) d' c';have g0:∃f∈Į,q=.str f:=by simp only[uk,TD,or_false]at m0;rcases m0 with rfl|rfl|rfl|rfl|rfl|rfl|rfl<;>exact⟨_,by simp[Į],rfl⟩
 have g1:∃f∈ĸ,p=.str f:=by simp only[uk,TD,or_false]at m1;rcases m1 with rfl|rfl|rfl|rfl|rfl<;>exact⟨_,by simp[ĸ],rfl⟩
 have g2:o=.non\/∃n∈En,o=.str n:=by
  simp only[uk,TD,or_false]at m2;rcases m2 with rfl|rfl|rfl|rfl|rfl|rfl;·exact .inl rfl
  ·exact .inl rfl
  ·exact .inr ⟨_,me r,rfl⟩
  ·exact .inr ⟨_,hL,rfl⟩
  ·exact .inr ⟨_,me E,rfl⟩
  ·exact .inr ⟨_,hT,rfl⟩
 have g4:m=.non\/∃n∈ï,m=.str n:=by
  simp only[uk,TD,or_false]at m4;rcases m4 with rfl|rfl|rfl;·exact .inl rfl
  ·exact .inr ⟨_,by simp[ï],rfl⟩
  ·exact .inr ⟨_,y,rfl⟩
 have g6:k=.non\/∃i:Int,0<=i/\i<60/\k=.int i:=by
  simp only[uk,TD,or_false]at m6;rcases m6 with rfl|rfl|rfl;·exact .inl rfl
  ·exact .inl rfl
  ·exact .inr ⟨_,a7,b7,rfl⟩
 have g8:j=.non\/∃i:Int,0<=i/\i<30/\j=.int i:=by
  simp only[uk,TD,or_false]at m8;rcases m8 with rfl|rfl|rfl;·exact .inl rfl
  ·exact .inl rfl
  ·exact .inr ⟨_,a9,b9,rfl⟩
 have I:∃a,(a=b_ "any"\/a=b_ "near")/\s=.str a:=by
  simp only[uk,TD,or_false]at g;rcases g with rfl|rfl;·exact⟨_,.inl rfl,rfl⟩
  ·exact⟨_,.inr rfl,rfl⟩
 obtain⟨f,A,rfl⟩:=g0;obtain⟨w,hw,rfl⟩:=g1;obtain⟨a,hR,rfl⟩:=I;refine⟨f,w,o,m,k,j,b'==0,a,⟨A,hw,g2,g4,g6,g8,hR⟩,?_⟩;have eB:gK=(aK (cy 3 (R Î (gB (aP (Ï "n") (uL (Ï "safe-a") (Ï "own-b") (Ï "N_2") (Ï "m-1") (Ï "safe-") (Ï "n")))) (ag ac 3 (bN (Y 0) (Y 1) (X 7))))) (aK (cy 4 (R Î (gB (ni (Ï "5") (Ï "") (Ï "a!b~") (Ï "x/y?z") (Ï "123456789012"))) (ag ac 3 (bN (Y 0) (R bX (Y 1) (X 1)) (X 5))))) (yy 5 (ni (fC .non) (fC .non) (Y 2) Dt (ag aN 2 (bJ (Y 0) (R bX (Y 1) (X 3))))) (fU (B0 Du) (fU (gE 6 (R Î (gB (bN (fC .non) (Ï "/") (ag cu 2 (bJ (Y 0) (R bX (Y 1) (X 5)))))) (ag ac 3 (bN (Y 0) (R bX (Y 1) (X 4)) (X 3))))) (fU (gE 7 (R Î (gB (bN (fC .non) (fC .non) (ag ac 3 (bN (Y 0) (R bX (Y 1) (X 7)) (X 60))))) (ag ac 3 (bN (Y 0) (R bX (Y 1) (X 6)) (X 3))))) (fU (gE 8 (R Î (gB (bN (fC .non) (fC .non) (ag ac 3 (bN (Y 0) (R bX (Y 1) (X 9)) (X 30))))) (ag ac 3 (bN (Y 0) (R bX (Y 1) (X 8)) (X 3))))) (fU (gE 9 (R Î (gB (bJ (Ï "any") (Ï "near"))) (ag ac 3 (bN (Y 0) (R bX (Y 1) (X 11)) (X 2))))) (fU (gE 10 (R ß (ag ac 3 (bN (Y 0) (R bX (Y 1) (X 10)) (X 2))) (X 0))) (yw 5 (eI (aP (Y 3) (aP (Y 4) (uL (R Î (Y 5) (ag ac 3 (bN (Y 0) (R bX (Y 1) (X 2)) (X 6)))) (Y 6) (Y 7) (Y 8) (Y 10) (Y 9))))))))))))))):=rfl;unfold dJ bM;rw[eB];simp[aK,sq,cy,c5,Ù,ag,aP,bZ,Y,fC,R,eI,gB,yy,fU,B0,gE,yw,wq,bX,e0,e1,e2,e3,e4,e5,e6,e7,e8,e9,a',N,i0,i1,i2,i4,i6,i8,v,eL,eT,ß,ko,sf]
theorem qh(h:d=b_ "any"\/d=b_ "near"):eV [.str d]=bo L/\∃r,ß (.str d) (.str "near")=bo (!r):=by
 rcases h with rfl|rfl;·exact⟨by lk,L,by lk⟩
 ·exact⟨by lk,D,by lk⟩
variable{Κ:Q}{ζ:Str}
theorem Gv.mu(g:Gv d o j μ Γ Κ H ζ):Mo Γ:=by
 rcases g.u with h|⟨i,b,e,a⟩;·exact .inl h
 ·exact .inr ⟨i,b,by omega,a⟩
theorem Gv.ml(g:Gv d o j μ Γ Κ H ζ):Mo Κ:=by
 rcases g.l with h|⟨i,b,e,a⟩;·exact .inl h
 ·exact .inr ⟨i,b,by omega,a⟩
theorem qi{b:æ}(a:Μ δ=Z (.ok H))(d:b δ=Z (.ok Ä)):l7 Μ b δ=Z (.ok (H&&Ä)):=by
 cases H;·exact yo a
 ·rw[yn a,d];rfl
theorem wT(a:Μ δ=Z (.ok H)):aK (br Μ (aL (fC j)) ê) Ρ δ=if H=L then Z (.rt j)else Ρ δ:=by
 cases H;·rw[ay (cp a)];rfl
 ·exact mh (by rw[wF a];rfl)
theorem IH(e:E.map Z++N_ (b-E.length) U=δ)(h:Ρ δ=Z (.rt j)):gA b Ρ E=Z (.ok j):=by unfold gA;rw[e,h]
theorem Ar(F:Ö){f:Ò}{b:Ev}{a d:Q}(h:f b=Z (.ok a))(e:F [a]=Z (.ok d)):aF F 1 (al f) b=Z (.ok d):=cE F (ae h au) rfl e
theorem II(e:E.map Z++N_ (b-E.length) U=δ)(h:Ρ δ=Z (.rt j)):bM b Ρ E=Z (.ok j):=by unfold bM;rw[e,h]
theorem Nt(h:y δ=Z (.ok j)):aL y δ=Z (.rt j):=by unfold aL;rw[h];rfl
theorem Dz(x:Str){k:Bool}(p:aM [.str x]=bo k)(g:Gv d o j μ Γ Κ H ζ):gZ [ā x o j μ Γ Κ H ζ]=bo k:=by
 have q:bS [ā x o j μ Γ Κ H ζ,.int 8]=bo L:=by lk
 have m:=R9 g.w;have i:=Ap g.mu;have h:=Ap g.ml;have f:=(qh g.r).1;have e:ĳ (R Ď (R Î (Y 0) (X 2)) (fC .non)) (ag bD 1 (al (R Î (Y 0) (X 2)))) [Z (ā x o j μ Γ Κ H ζ)]=bo L:=by
  rcases g.hh with rfl|⟨n,a,rfl⟩;·exact Lr rfl
  ·exact(Lq rfl).trans (fK bD rfl (No a))
 have b:ĳ (R Ď (R Î (Y 0) (X 3)) (fC .non)) (ag cL 1 (al (R Î (Y 0) (X 3)))) [Z (ā x o j μ Γ Κ H ζ)]=bo L:=by
  rcases g.pp with rfl|⟨n,a,rfl⟩;·exact Lr rfl
  ·exact(Lq rfl).trans (fK cL rfl (Q0 a))
 refine II (δ:=[Z (ā x o j μ Γ Κ H ζ)]) rfl ?_;unfold jq;refine(wT (H:=D) (kK (bi (gO bS (b:=.int 8) rfl rfl q)))).trans ?_;refine Nt ((dg (ae (yp (ae (fK aM rfl p) (ae (fK bK rfl m) (ae e (ae b (ae (fK aA rfl i) (ae (fK aA rfl h) (ae (j:=.bl L) rfl (ae (fK eV rfl f) au)))))))) (by show 8<=100000;decide)) au)).trans ?_);cases k<;>rfl
theorem As(g:Gv d o j μ Γ Κ H ζ):gZ [ā d o j μ Γ Κ H ζ]=bo L:=Dz d (R8 g.nm) g
noncomputable def Ŧ(f b a d e:Bool):Q:=if f then .str "foreign"else if b then .str "open"else if a then .str "unsafe"else if d then .str "marked"else if e then .str "far"else .non
theorem ŏ{h p:Str}{O:Q}(y:E∈kZ ë)(a:Ak h p O)(g:Gv d o j μ Γ Κ H ζ){e b i f r:Bool}{s:Bool}(I:bh [.tup E,ü s h p O,ā d o j μ Γ Κ H ζ]=bo i)(A:aS [.tup E,ü s h p O]=bo f)(z:ß (.str ζ) (.str "near")=bo (!r))(m:(j=.non/\e=D/\b=D)\/∃n q k,j=.str n/\aD [.str h,.str n]=bo (!e)/\ċ (.str n) (.str h)=bo q/\gp [.tup E,.str n]=bo k/\b=(q&&k)):bw [.tup E,ü s h p O,ā d o j μ Γ Κ H ζ]=Z (.ok (Ŧ e b (H&&!s) (!i) (!r&&!f))):=by
 have e1:=Q1 (jj y);have N:=Sb (As g);have P:=Q2 (Ds (H:=s) a);refine IH (δ:=[Z (.tup E),Z (ü s h p O),Z (ā d o j μ Γ Κ H ζ),U]) rfl ?_;unfold fj;rw[ay (lG (Ar aW (a:=.tup E) rfl e1)),ay (lG (Ar cP (a:=ü s h p O) rfl P)),ay (lG (Ar cX (a:=ā d o j μ Γ Κ H ζ) rfl N)),ay (bV (j:=j) (a:=[Z (.tup E),Z (ü s h p O),Z (ā d o j μ Γ Κ H ζ),Z j]) rfl rfl)];refine(wT (H:=e) ?_).trans ?_
 · rcases m with⟨rfl,rfl,rfl⟩|⟨n,q,k,rfl,w,v,u,rfl⟩;·exact yo (bi rfl)
   ·rw[yn (bi rfl)];exact(kK (bi (gO aD rfl rfl w))).trans (by rw[ZJ])
 unfold Ŧ;cases e;rotate_left;·rfl
 refine(wT (H:=b) ?_).trans ?_
 · rcases m with⟨rfl,_,rfl⟩|⟨n,q,k,rfl,w,v,u,rfl⟩;·exact yo (bi rfl)
   ·rw[yn (bi rfl)];exact qi (bi ((bb rfl rfl).trans v)) (bi (gO gp rfl rfl u))
 cases b;rotate_left;·rfl
 refine(wT (H:=H&&!s) (qi (bi rfl) (kK (bi rfl)))).trans ?_;cases H&&!s;rotate_left;·rfl
 refine(wT (kK (bi (nI bh rfl rfl rfl I)))).trans ?_;cases !i;rotate_left;·rfl
 refine(wT (qi (bi ((bb rfl rfl).trans z)) (kK (bi (gO aS rfl rfl A))))).trans ?_;cases !r&&!f<;>rfl
noncomputable def mark(b a S e d:Bool):Bool:=(b&&!S)||(a&&!(S&&(e&&d)))
theorem Au{h p:Str}{O:Q}{e:Bool}{s:Bool}(f:d∈Į)(k:ß μ (.str "/")=bo Ä)(i:cW [.tup E,ü s h p O,ā d o j μ Γ Κ H ζ]=bo e):bh [.tup E,ü s h p O,ā d o j μ Γ Κ H ζ]=bo (!mark (Ud d (b_ "safe-")) (Ud d (b_ "own-")) H e Ä):=by have g:=Tj f;cases b:Ud d (b_ "safe-")with
 |true=>
 rw[b]at g;have a:Ud d (b_ "own-")=D:=by simpa using g
 rw[a];cases H<;>simp[bh,bM,bO,aK,sq,br,aL,cy,c5,Ù,fB,Ą,aP,bZ,Y,fC,R,Î,Ă,fM,qR,b,mark]|false=>cases a:Ud d (b_ "own-")with|true=>cases H<;>cases e<;>cases Ä<;>simp[bh,bM,bO,aK,sq,br,aL,cy,c5,Ù,fB,Ą,ag,aP,bZ,Y,fC,R,Î,Ă,jU,fM,qR,b,a,i,k,mark]|false=>simp[bh,bM,bO,aK,sq,br,aL,cy,c5,Ù,fB,Ą,aP,bZ,Y,fC,R,Î,Ă,fM,qR,b,a,mark]
structure Wt(t:List Q)(h p:Str)(O:Q)(nm w:Str)(H P u l:Q)(S:Bool)(R:Str)(s:Bool)(house path:Str)(ex:Bool)(wd:Q):Prop where
 hs:house∈En
 ph:path∈ï
 win:wd=.non\/∃x∈["foreign","open","unsafe","marked","far"],wd=.str (b_ x)why:bw [.tup t,ü s h p O,ā nm w H P u l S R]=Z (.ok wd)hf:gl [ü s h p O,ā nm w H P u l S R]=Z (.ok (.str house))hl:(H=.non/\house=h)\/H=.str house
 ix:cW [.tup t,ü s h p O,ā nm w H P u l S R]=bo ex
 pf:eW [ü s h p O,ā nm w H P u l S R]=Z (.ok (.str path))un:wd=.non->s=D->S=D
theorem Av(f b a d e:Bool):Ŧ f b a d e=.non\/∃x∈["foreign","open","unsafe","marked","far"],Ŧ f b a d e=.str (b_ x):=by cases f<;>cases b<;>cases a<;>cases d<;>cases e<;>first|exact .inl rfl|exact .inr ⟨"foreign",by simp,rfl⟩|exact .inr ⟨"open",by simp,rfl⟩|exact .inr ⟨"unsafe",by simp,rfl⟩|exact .inr ⟨"marked",by simp,rfl⟩|exact .inr ⟨"far",by simp,rfl⟩
theorem Aw{a d S s:Bool}(h:Ŧ H Ä (S&&!s) a d=.non)(b:s=D):S=D:=by
 subst b;cases S;·rfl
 ·cases H<;>cases Ä<;>cases h
theorem Q3{h p:Str}{O:Q}(A:E∈kZ ë)(a:Ak h p O)(g:Gv d o j μ Γ Κ H ζ)(s:Bool):∃k e ex wd,Wt E h p O d o j μ Γ Κ H ζ s k e ex wd:=by
 obtain⟨nr,hN⟩:=Np A a;obtain⟨_,r,r2⟩:=qh g.r;have I:∃pe,ß μ (.str "/")=bo pe:=by
  rcases g.pp with rfl|⟨q,_,rfl⟩;·exact⟨D,rfl⟩
  ·exact⟨_,rfl⟩
 obtain⟨pe,I⟩:=I;have i:∃e∈ï,eW [ü s h p O,ā d o j μ Γ Κ H ζ]=Z (.ok (.str e)):=by
  rcases g.pp with rfl|⟨q,hq,rfl⟩;·obtain⟨f,hf,k2⟩:=Tk a.p;exact⟨f,hf,by simp[eW,gA,gq,aK,sq,br,aL,c5,Ù,fB,Ą,aF,aP,bZ,Y,fC,R,Î,Ă,Ď,k2]⟩
  ·exact⟨q,hq,by simp[eW,gA,gq,aK,sq,br,aL,c5,Ù,fB,Ą,Y,fC,R,Î,Ă,Ď]⟩
 obtain⟨e,w,y⟩:=i;rcases g.hh with rfl|⟨n,N,rfl⟩
 · have v:cW [.tup E,ü s h p O,ā d o .non μ Γ Κ H ζ]=bo L:=by simp[cW,bM,gY,aK,sq,br,aL,cy,c5,Ù,fB,Ą,Y,fC,R,Î,Ă,Ď]
   have u:=ŏ (e:=D) (b:=D) A a g (Au g.nm I v) (hN s) r2 (.inl ⟨rfl,rfl,rfl⟩);rw[ZJ]at u;exact⟨h,e,L,_,a.h,w,Av _ _ _ _ _,u,by simp[gl,bM,gk,aK,sq,br,aL,c5,Ù,fB,Ą,Y,fC,R,Î,Ă,Ď],.inl ⟨rfl,rfl⟩,v,y,Aw⟩
 · obtain⟨m,b,hm,_,_⟩:=IF A N;obtain⟨wi,P⟩:=Sa (a.h) N;have z:gp [.tup E,.str n]=bo (seq m n):=by simp[gp,bM,ki,aL,c5,Ù,ag,aP,bZ,Y,R,hm,ß,ko,sf]
   have v:cW [.tup E,ü s h p O,ā d o (.str n) μ Γ Κ H ζ]=bo (seq n h&&seq m n):=by simp[cW,bM,gY,aK,sq,br,aL,cy,c5,Ù,fB,Ą,ag,aP,bZ,Y,fC,R,Î,Ă,jU,Ď,z,ß,ko,sf];cases seq n h<;>simp[aK]
   have u:=ŏ (e:=!wi) (b:=!seq n h&&seq m n) A a g (Au g.nm I v) (hN s) r2 (.inr ⟨n,!seq n h,seq m n,rfl,by rw[P,ZJ],by simp[ċ,ko,sf],z,rfl⟩);rw[ZJ]at u;exact⟨n,e,_,_,N,w,Av _ _ _ _ _,u,by simp[gl,bM,gk,aK,sq,br,aL,c5,Ù,fB,Ą,Y,fC,R,Î,Ă,Ď],.inr rfl,v,y,Aw⟩
theorem iE(a b:Str):(a++b).length=a.length+b.length:=aa7
theorem qj(a b c:Str):a++b++c=a++(b++c):=by show Str.mk (a.cps++b.cps++c.cps)=Str.mk (a.cps++(b.cps++c.cps));rw[aaK]
theorem Nu(a:Str):a++b_ ""=a:=by show Str.mk (a.cps++#[])=a;rw[Array.append_empty]
noncomputable def step(t:Str)(o:Option Str):Str:=match o with|none=>t|some y=>t++b_ "; "++y
theorem kq(t:Str)(o:Option Str)(B:Nat)(h:∀y,o=Z y->y.length<=B):(step t o).length<=t.length+2+B:=by cases o with|none=>show t.length<=_;omega|some y=>
 have:=h y rfl;show(t++b_ "; "++y).length<=_;rw[iE,iE];have e:(b_ "; ").length=2:=by decide
 omega
theorem mT(a:Str):∀(l:List Str)(x:Str),WT a (x::l)=l.foldl (λt y=>t++a++y) x|[],x=>rfl|y::l,x=>mT a l (x++a++y)
theorem jr(t:Str)(o:Option Str)(l:List Str):(o.toList++l).foldl (λt y=>t++b_ "; "++y) t=l.foldl (λt y=>t++b_ "; "++y) (step t o):=by cases o<;>rfl
noncomputable def eS:Option Str->Q|none=>.non|some x=>.str x
noncomputable def eO:Option Int->Q|none=>.non|some x=>.int x
noncomputable def is(i:Int):Str:=b_ (toString i)
theorem EV(b:0<=n)(a:n<=9999):(is n).length<=10001:=by have:=PyProof.Rows.len_str_of_int n;unfold is;omega
theorem Q4(b:0<=n)(a:n<=9999):PZ [.int n]=Z (.ok (.str (is n))):=by
 show(if n.natAbs.log2<1920 then _ else U)=_;rw[if_pos];·rfl
 · have e:n.natAbs<2^1920:=TJ (show n.natAbs<2^14 by omega) (Nat.pow_le_pow_right (by decide) (by decide));by_cases z:n.natAbs=0;·rw[z];decide
   ·exact(Nat.log2_lt z).mpr e
structure Vv(nm w:Str)(h p:Option Str)(u l:Option Int)(R:Str):Prop where nm:nm.length<=50w:w.length<=50h:∀x,h=Z x->x.length<=50p:∀x,p=Z x->x.length<=50u:∀i,u=Z i->0<=i/\i<=9999l:∀i,l=Z i->0<=i/\i<=9999
abbrev gv(a w:Str)(h p:Option Str)(u l:Option Int)(S:Bool)(R:Str):Q:=.tup [.str a,.str w,eS h,eS p,eO u,eO l,.bl S,.str R]
noncomputable def oS(a:String)(h:Option Str):Option Str:=h.map λx=>b_ a++x
def oI(a:String)(h:Option Int):Option Str:=h.map λx=>b_ a++is x
noncomputable def oB(x:String)(b:Bool):Option Str:=if b then Z (b_ x)else U
noncomputable def ą(a w:Str):Str:=a++b_ "="++w
def k6(R:Str):Bool:=seq R (b_ "near")
def T(a w:Str)(h p:Option Str)(u l:Option Int)(S:Bool)(R:Str):Str:=step (step (step (step (step (step (ą a w) (oS "for " h)) (oS "under " p)) (oI "until " u)) (oI "lasts " l)) (oB "safe" S)) (oB "near" (k6 R))
theorem Q5(h:d.length+o.length<=100000):bX (.str d) (.str o)=Z (.ok (.str (d++o))):=by show(if d.length+o.length<=100000 then _ else U)=_;rw[if_pos h]
theorem lr(h:d.length+o.length<=100000):c9 (.str d) (.str o)=Z (.ok (.str (d++o))):=Q5 h
theorem oK(o:Option Str):o.toList.length<=1:=by cases o<;>simp
variable{Ο:Option Str}
theorem Sd{a:String}(e:(b_ a).length<=10)(d:∀x,Ο=Z x->x.length<=50):∀y,oS a Ο=Z y->y.length<=60:=by intro y b;cases Ο with|none=>cases b|some x=>cases b;rw[iE];have:=d x rfl;omega
theorem Se{a:String}(e:(b_ a).length<=10)(d:∀x,Ε=Z x->0<=x/\x<=9999):∀y,oI a Ε=Z y->y.length<=10020:=by intro y b;cases Ε with|none=>cases b|some x=>cases b;rw[iE];have:=EV (d x rfl).1 (d x rfl).2;omega
theorem Tl{x:String}(b:(b_ x).length<=10):∀y,oB x H=Z y->y.length<=60:=by intro y a;cases H with|false=>cases a|true=>cases a;omega
theorem Nv(h:y δ=Z (.ok j)):aL y δ=Z (.rt j):=by unfold aL;rw[h];rfl
def EL(d w:Str)(h p:Option Str)(u l:Option Int)(S:Bool)(R:Str)(t:Str)(a b:Option Q):Ev:=[Z (gv d w h p u l S R),Z (.str d),Z (.str w),Z (eS h),Z (eS p),Z (eO u),Z (eO l),Z (.bl S),Z (.str R),Z (.str t),a,b]
theorem sj{p:Option Str}{t e:Str}{a b:Option Q}:ju (gP 10 11) [11,10] aJ (.tup [.str e,.non]::E) (EL d o Ο p Ε Λ H ζ t a b)=ju (gP 10 11) [11,10] aJ E (EL d o Ο p Ε Λ H ζ t (Z (.str e)) (Z .non)):=rfl
theorem oM{p:Option Str}{t f y:Str}{a b:Option Q}(i:nW j .non=bo L)(h:JD [j]=Z (.ok (.str y)))(m:t.length+2+f.length+1+y.length<=100000):ju (gP 10 11) [11,10] aJ (.tup [.str f,j]::E) (EL d o Ο p Ε Λ H ζ t a b)=ju (gP 10 11) [11,10] aJ E (EL d o Ο p Ε Λ H ζ (t++b_ "; "++f++b_ " "++y) (Z (.str f)) (Z j)):=by
 have n:(b_ "; ").length=2:=by decide
 have q:(b_ " ").length=1:=by decide
 have k:aJ (EL d o Ο p Ε Λ H ζ t (Z (.str f)) (Z j))=Z (.nx (EL d o Ο p Ε Λ H ζ (t++b_ "; "++f++b_ " "++y) (Z (.str f)) (Z j))):=by
  have c:fB (R nW (Y 11) (fC .non)) (EL d o Ο p Ε Λ H ζ t (Z (.str f)) (Z j))=Z (.ok L):=bi i;have z:R c9 (R c9 (R c9 (R c9 (Y 9) (Ï "; ")) (Y 10)) (Ï " ")) (á JD (al (Y 11))) (EL d o Ο p Ε Λ H ζ t (Z (.str f)) (Z j))=Z (.ok (.str (t++b_ "; "++f++b_ " "++y))):=by refine(bb ((bb ((bb ((bb (j:=.str t) (μ:=.str "; ") rfl rfl).trans (lr (by omega))) (μ:=.str f) rfl).trans (lr (by rw[iE];omega))) (μ:=.str " ") rfl).trans (lr (by rw[iE,iE];omega))) ((dg (ae (j:=j) rfl au)).trans h)).trans ?_;exact lr (by rw[iE,iE,iE];omega)
  unfold aJ br;rw[c];exact bV z rfl
 show(match aJ (EL d o Ο p Ε Λ H ζ t (Z (.str f)) (Z j))with|some (.nx g)=>ju (gP 10 11) [11,10] aJ E g|e=>e)=_;rw[k]
theorem EW(t b a y:Str)(d:b++b_ " "=a):t++b_ "; "++b++b_ " "++y=t++b_ "; "++(a++y):=by rw[qj (t++b_ "; ") b,d,qj (t++b_ "; ") a]
theorem Nw{p:Option Str}{t g f:Str}{e:Option Str}{a b:Option Q}(h:g++b_ " "=f)(i:∀x,e=Z x->x.length<=50)(n:t.length<=80000)(m:g.length<=10):∃k j,ju (gP 10 11) [11,10] aJ (.tup [.str g,eS e]::E) (EL d o Ο p Ε Λ H ζ t a b)=ju (gP 10 11) [11,10] aJ E (EL d o Ο p Ε Λ H ζ (step t (e.map λx=>f++x)) k j):=by cases e with|none=>exact⟨_,_,sj⟩|some x=>have:=i x rfl;refine⟨Z (.str g),Z (.str x),(oM (j:=.str x) (y:=x) rfl rfl (by omega)).trans ?_⟩;rw[EW t g f x h];rfl
theorem Nx{p:Option Str}{t h g:Str}{f:Option Int}{a b:Option Q}(j:h++b_ " "=g)(i:∀x,f=Z x->0<=x/\x<=9999)(q:t.length<=80000)(n:h.length<=10):∃m k,ju (gP 10 11) [11,10] aJ (.tup [.str h,eO f]::E) (EL d o Ο p Ε Λ H ζ t a b)=ju (gP 10 11) [11,10] aJ E (EL d o Ο p Ε Λ H ζ (step t (f.map λx=>g++is x)) m k):=by cases f with|none=>exact⟨_,_,sj⟩|some x=>have:=i x rfl;have:=EV this.1 this.2;have e:JD [.int x]=Z (.ok (.str (is x))):=Q4 (i x rfl).1 (i x rfl).2;refine⟨Z (.str h),Z (.int x),(oM (j:=.int x) (y:=is x) rfl e (by omega)).trans ?_⟩;rw[EW t h g (is x) j];rfl
theorem IJ{p:Option Str}(v:Vv d o Ο p Ε Λ ζ):cT [gv d o Ο p Ε Λ H ζ]=Z (.ok (.str (T d o Ο p Ε Λ H ζ))):=by
 have l1:=v.nm;have l2:=v.w;have P:(b_ "=").length=1:=by decide
 have b0:(ą d o).length<=200:=by unfold ą;rw[iE,iE];omega
 have b1:=kq (ą d o) (oS "for " Ο) 60 (Sd (by decide) v.h);have b2:=kq (step (ą d o) (oS "for " Ο)) (oS "under " p) 60 (Sd (by decide) v.p);have b3:=kq (step (step (ą d o) (oS "for " Ο)) (oS "under " p)) (oI "until " Ε) 10020 (Se (by decide) v.u);have b4:=kq (step (step (step (ą d o) (oS "for " Ο)) (oS "under " p)) (oI "until " Ε)) (oI "lasts " Λ) 10020 (Se (by decide) v.l);obtain⟨I,z,u⟩:=Nw (d:=d) (o:=o) (Ο:=Ο) (p:=p) (Ε:=Ε) (Λ:=Λ) (H:=H) (ζ:=ζ) (t:=ą d o) (g:=b_ "for") (f:=b_ "for ") (e:=Ο) (a:=U) (b:=U) (E:=[.tup [.str "under",eS p],.tup [.str "until",eO Ε],.tup [.str "lasts",eO Λ]]) (by lk) v.h (by omega) (by decide);obtain⟨E,y,s⟩:=Nw (d:=d) (o:=o) (Ο:=Ο) (p:=p) (Ε:=Ε) (Λ:=Λ) (H:=H) (ζ:=ζ) (t:=step (ą d o) (oS "for " Ο)) (g:=b_ "under") (f:=b_ "under ") (e:=p) (a:=I) (b:=z) (E:=[.tup [.str "until",eO Ε],.tup [.str "lasts",eO Λ]]) (by lk) v.p (by omega) (by decide);obtain⟨A,w,r⟩:=Nx (d:=d) (o:=o) (Ο:=Ο) (p:=p) (Ε:=Ε) (Λ:=Λ) (H:=H) (ζ:=ζ) (t:=step (step (ą d o) (oS "for " Ο)) (oS "under " p)) (h:=b_ "until") (g:=b_ "until ") (f:=Ε) (a:=E) (b:=y) (E:=[.tup [.str "lasts",eO Λ]]) (by lk) v.u (by omega) (by decide);obtain⟨a4,c4,q⟩:=Nx (d:=d) (o:=o) (Ο:=Ο) (p:=p) (Ε:=Ε) (Λ:=Λ) (H:=H) (ζ:=ζ) (t:=step (step (step (ą d o) (oS "for " Ο)) (oS "under " p)) (oI "until " Ε)) (h:=b_ "lasts") (g:=b_ "lasts ") (f:=Λ) (a:=A) (b:=w) (E:=[]) (by lk) v.l (by omega) (by decide);let a:Str:=step (step (step (step (ą d o) (oS "for " Ο)) (oS "under " p)) (oI "until " Ε)) (oI "lasts " Λ);have N:a.length<=90000:=by show(step (step (step (step (ą d o) (oS "for " Ο)) (oS "under " p)) (oI "until " Ε)) (oI "lasts " Λ)).length<=_;omega
 have b:ju (gP 10 11) [11,10] aJ [.tup [.str "for",eS Ο],.tup [.str "under",eS p],.tup [.str "until",eO Ε],.tup [.str "lasts",eO Λ]] (EL d o Ο p Ε Λ H ζ (ą d o) U U)=Z (.nx (EL d o Ο p Ε Λ H ζ a U U)):=u.trans (s.trans (r.trans (q.trans rfl)));have e:(λg=>Ù ((bJ (eI (nQ (Ï "for") (Ï "under") (Ï "until") (Ï "lasts"))) (lz (Y 0) (eE (X 2)) (eE (X 6)))) g) JC) (EL d o Ο p Ε Λ H ζ (ą d o) U U)=Z (.ok [.tup [.str "for",eS Ο],.tup [.str "under",eS p],.tup [.str "until",eO Ε],.tup [.str "lasts",eO Λ]]):=by lk
 have k:R c9 (R c9 (Y 1) (Ï "=")) (Y 2) [Z (gv d o Ο p Ε Λ H ζ),Z (.str d),Z (.str o),Z (eS Ο),Z (eS p),Z (eO Ε),Z (eO Λ),Z (.bl H),Z (.str ζ),U,U,U]=Z (.ok (.str (ą d o))):=(bb ((bb (j:=.str d) (μ:=.str "=") rfl rfl).trans (lr (by omega))) (μ:=.str o) rfl).trans (lr (by rw[iE];omega));have f1:Ŀ (fB (Y 7)) (Ï "; safe") (Ï "") (EL d o Ο p Ε Λ H ζ a U U)=Z (.ok (.str (if H then b_ "; safe"else b_ ""))):=by cases H<;>rfl
 have n:a++(if H then b_ "; safe"else b_ "")=step a (oB "safe" H):=by
  cases H;·exact Nu a
  ·show a++b_ "; safe"=a++b_ "; "++b_ "safe";rw[qj];rfl
 have b5:=kq a (oB "safe" H) 60 (Tl (by decide));have j:R c9 (Y 9) (Ŀ (fB (Y 7)) (Ï "; safe") (Ï "")) (EL d o Ο p Ε Λ H ζ a U U)=Z (.ok (.str (step a (oB "safe" H)))):=by
  rw[<-n];refine(bb (j:=.str a) rfl f1).trans (lr ?_);have:(if H then b_ "; safe"else b_ "").length<=10:=by cases H<;>decide
  omega
 have h:Ŀ (fB (R ß (Y 8) (Ï "near"))) (Ï "; near") (Ï "") (EL d o Ο p Ε Λ H ζ a U U)=Z (.ok (.str (if k6 ζ then b_ "; near"else b_ ""))):=by have c:fB (R ß (Y 8) (Ï "near")) (EL d o Ο p Ε Λ H ζ a U U)=Z (.ok (k6 ζ)):=rfl;unfold Ŀ;rw[c];cases k6 ζ<;>rfl
 have m:∀t:Str,t++(if k6 ζ then b_ "; near"else b_ "")=step t (oB "near" (k6 ζ)):=by
  intro t;cases k6 ζ;·exact Nu t
  ·show t++b_ "; near"=t++b_ "; "++b_ "near";rw[qj];rfl
 have i:(R c9 (R c9 (Y 9) (Ŀ (fB (Y 7)) (Ï "; safe") (Ï ""))) (Ŀ (fB (R ß (Y 8) (Ï "near"))) (Ï "; near") (Ï ""))) (EL d o Ο p Ε Λ H ζ a U U)=Z (.ok (.str (T d o Ο p Ε Λ H ζ))):=by
  refine(bb j h).trans ((lr ?_).trans ?_)
  · have:(if k6 ζ then b_ "; near"else b_ "").length<=10:=by cases k6 ζ<;>decide
    omega
  ·rw[m];rfl
 refine iI ?_;show gu [Z (gv d o Ο p Ε Λ H ζ),U,U,U,U,U,U,U,U,U,U,U]=_;unfold gu;rw[ay (show Ln [1,2,3,4] (lz (Y 0) gM (eE (X 4))) [Z (gv d o Ο p Ε Λ H ζ),U,U,U,U,U,U,U,U,U,U,U]=Z (.nx [Z (gv d o Ο p Ε Λ H ζ),Z (.str d),Z (.str o),Z (eS Ο),Z (eS p),U,U,U,U,U,U,U])by lk)];rw[ay (show Ln [5,6,7,8] (lz (Y 0) (eE (X 4)) gM) [Z (gv d o Ο p Ε Λ H ζ),Z (.str d),Z (.str o),Z (eS Ο),Z (eS p),U,U,U,U,U,U,U]=Z (.nx [Z (gv d o Ο p Ε Λ H ζ),Z (.str d),Z (.str o),Z (eS Ο),Z (eS p),Z (eO Ε),Z (eO Λ),Z (.bl H),Z (.str ζ),U,U,U])by lk)];rw[ay (bV (a:=EL d o Ο p Ε Λ H ζ (ą d o) U U) k rfl)];have f:wu (gP 10 11) [11,10] (λg=>Ù ((bJ (eI (nQ (Ï "for") (Ï "under") (Ï "until") (Ï "lasts"))) (lz (Y 0) (eE (X 2)) (eE (X 6)))) g) JC) aJ (EL d o Ο p Ε Λ H ζ (ą d o) U U)=Z (.nx (EL d o Ο p Ε Λ H ζ a U U)):=by unfold wu;rw[e];exact b
 rw[ay f];exact Nv i
def qk(p:Str):Option (Nat×Q):=match bH [.str p]with|some (.ok (.tup [.int k,d]))=>Z (k.toNat,d)|_=>U
noncomputable def eT:Option (Nat×Q)->Q|none=>.non|some (k,d)=>.tup [.int k,d]
def j'(p:Str):Bool:=match bH [.str p]with|some (.ok .non)=>L|some (.ok (.tup [.int k,_]))=>t_ (2<=k)&&t_ (k<8)|_=>D
theorem IK(h:j' d=L):bH [.str d]=Z (.ok (eT (qk d)))/\∀k a,qk d=Z (k,a)->2<=k/\k<8:=by
 unfold j' at h;unfold qk;split at h;·rename_i e;rw[e];exact⟨rfl,λk a z=>by cases z⟩
 · rename_i k a e;rw[e];rw[m_,decide_eq_true_eq,decide_eq_true_eq]at h;refine⟨?_,λb f z=>?_⟩;·show _=Z (Rs.ok (Q.tup [.int (k.toNat:Int),a]));rw[Int.toNat_of_nonneg (by omega)]
   ·cases z;omega
 ·cases h
noncomputable def ũ:Str:=b_ " "
noncomputable def ů:Str:=b_ "  "
def ig(b p a:Str):Bool:=seq (Vz (b++p++a) ũ) p&&!((b++p++a).cps.toList.contains 59)
noncomputable def ė:Str:=b_ ""
def okS(p:Str):Bool:=ig ė p ė&&(ig ũ p ė&&(ig ů p ů&&(ig ė p ů&&(ig ů p ė&&t_ (p.length<=200)))))
def Sg(p:Str):Bool:=j' p&&okS p
noncomputable def To:List Str:=[b_ "x=y",b_ "until",b_ "for A",b_ "under b",b_ "lasts 99999",b_ "SAFE",b_ "",b_ "safe near",b_ "until  7"]
noncomputable def Ny:List Str:=[b_ "until 17",b_ "under /q",b_ "lasts 4",b_ "for q.r"]
noncomputable def sk(n:Nat):List Int:=(p_ n).map λi:Nat=>(i:Int)
def Ū:List Str:=En.map (λh=>b_ "for "++h)++(ï.map (λh=>b_ "under "++h)++((sk 60).map (λi=>b_ "until "++is i)++((sk 30).map (λi=>b_ "lasts "++is i)++([b_ "safe",b_ "near"]++(To++Ny)))))
theorem IL:Ū.all Sg=L:=by lk
def tS(p:Str)(k:Nat)(s:Str):Bool:=match qk p with|some (j,.str z)=>j==k&&seq z s|_=>D
def tI(p:Str)(k:Nat)(i:Int):Bool:=match qk p with|some (j,.int z)=>j==k&&z==i|_=>D
theorem Nz(h:tS d b o=L):qk d=Z (b,.str o):=by
 unfold tS at h;generalize qk d=a at h⊢;rcases a with _|⟨j,e⟩;·cases h
 ·cases e with|str z=>have f:(j==b&&seq z o)=L:=h;rw[m_]at f;rw[iD f.2,X6 f.1]|_=>cases h
theorem NA(h:tI d b n=L):qk d=Z (b,.int n):=by
 unfold tI at h;generalize qk d=o at h⊢;rcases o with _|⟨j,a⟩;·cases h
 ·cases a with|int z=>have e:(j==b&&z==n)=L:=h;rw[m_]at e;rw[X6 e.2,X6 e.1]|_=>cases h
theorem NB:(En.all λh=>tS (b_ "for "++h) 2 h)=L:=by lk
theorem NC:(ï.all λh=>tS (b_ "under "++h) 3 h)=L:=by lk
theorem ND:((sk 60).all λi=>tI (b_ "until "++is i) 4 i)=L:=by lk
theorem NE:((sk 30).all λi=>tI (b_ "lasts "++is i) 5 i)=L:=by lk
theorem Q6(q:d∈En):qk (b_ "for "++d)=Z (2,.str d):=Nz (aX (p:=λd=>tS (b_ "for "++d) 2 d) NB q)
theorem Q7(q:d∈ï):qk (b_ "under "++d)=Z (3,.str d):=Nz (aX (p:=λd=>tS (b_ "under "++d) 3 d) NC q)
theorem Q8(q:n∈sk 60):qk (b_ "until "++is n)=Z (4,.int n):=NA (aX (p:=λn=>tI (b_ "until "++is n) 4 n) ND q)
theorem Q9(q:n∈sk 30):qk (b_ "lasts "++is n)=Z (5,.int n):=NA (aX (p:=λn=>tI (b_ "lasts "++is n) 5 n) NE q)
theorem NF:qk (b_ "safe")=Z (6,.bl L):=by lk
theorem NG:qk (b_ "near")=Z (7,.str "near"):=by lk
def put(a:List Q)(p:Str):List Q:=match qk p with|none=>a|some (k,d)=>a.set k d
theorem IM(a:List Q)(p:Str):(put a p).length=a.length:=by unfold put;split<;>simp
theorem sr:∀l:List Str,â (l.map Q.str)=L|[]=>rfl|x::l=>by show(ħ (.str x)&&â (l.map Q.str))=L;rw[sr l];rfl
def ER(x:Str)(d e:Q)(a b:Option Q):Ev:=[Z (.str x),Z d,Z e,U,a,b]
theorem IN{b:Option Q}(h:j' o=L)(r:E.length=8):∃q,bu (ER d j μ (Z (.str o)) b) E=Z (.nx (ER d j μ (Z (.str o)) q) (put E o)):=by
 obtain⟨e,n⟩:=IK h;refine⟨Z (eT (qk o)),?_⟩;have p:gE 5 (ag bH 1 (al (Y 4))) (ER d j μ (Z (.str o)) b) E=Z (.nx (ER d j μ (Z (.str o)) (Z (eT (qk o)))) E):=by unfold gE;rw[fK bH (f:=Y 4) (b:=ER d j μ (Z (.str o)) b) (a:=.str o) rfl e];rfl
 unfold bu;show(match gE 5 (ag bH 1 (al (Y 4))) (ER d j μ (Z (.str o)) b) E with|some (.nx g i)=>(oIf (fB (R nW (Y 5) (fC .non))) (u0 (R Î (Y 5) (X 0)) (R Î (Y 5) (X 1))) Jz) g i|f=>f)=_;rw[p];unfold put;match m:qk o with|none=>rfl|some (k,a)=>have:=n k a m;show(if 0<=(k:Int)/\(k:Int)<E.length then Z (Fo.nx (ER d j μ (Z (.str o)) (Z (.tup [.int k,a]))) (E.set (k:Int).toNat a))else U)=_;rw[if_pos ⟨by omega,by omega⟩];rfl
theorem Ax{x:Str}{d g:Q}:∀(f:List Str)(ds:List Q)(a b:Option Q),(∀p∈f,j' p=L)->ds.length=8->nj 4 [4,5] bu (f.map Q.str) (ER x d g a b) ds=Z (.nx (ER x d g U U) (f.foldl put ds))|[],ds,a,b,_,_=>rfl|p::f,ds,a,b,h,k=>by obtain⟨n,e⟩:=IN (d:=x) (j:=d) (μ:=g) (b:=U) (E:=ds) (h p q_) k;show(match bu (ER x d g (Z (.str p)) U) ds with|some (.nx i j)=>nj 4 [4,5] bu (f.map Q.str) i j|o=>o)=_;rw[e];exact Ax f (put ds p) (Z (.str p)) n (λq m=>h q (r_ _ m)) (by rw[IM];exact k)
def IP(d w:Str):Bool:=okS (ą d w)&&(match pb (ą d w) [.str "="]with|some (.ok (.tup [.str a,.str b,.str c]))=>seq a d&&(seq b (b_ "=")&&seq c w)|_=>D)&&(Ń (aM [.str d])&&Ń (bK [.str w]))
theorem vC:(Į.all λn=>ĸ.all λw=>IP n w)=L:=by lk
noncomputable def Ş(a w:Str):List Q:=[.str a,.str w,.non,.non,.non,.non,.bl D,.str "any"]
theorem IQ{h:List Str}(P:d.length<=100000)(v:o∈Į)(hw:ζ∈ĸ)(y:VW d (b_ ";")=A)(hq:A.length<=100)(ht:A.map (λq=>Vz q ũ)=ą o ζ::h)(hl:∀q∈A,q.length<=1000)(hp:∀p∈h,j' p=L):aT [.str d]=Z (.ok (.tup (h.foldl put (Ş o ζ)))):=by
 have r:=aX (p:=λζ=>IP o ζ) (aX (p:=λn=>ĸ.all λζ=>IP n ζ) vC v) hw;unfold IP at r;simp only[m_]at r;obtain⟨⟨_,j⟩,h3,h4⟩:=r;have e3:=mS h3;have e4:=mS h4;have e2:pb (ą o ζ) [.str "="]=Z (.ok (.tup [.str o,.str "=",.str ζ])):=by
  split at j;·rename_i a b c e;simp only[m_]at j;rw[e,iD j.1,iD j.2.1,iD j.2.2]
  ·cases j
 have N:c6 1 [] (gz (fM (iH) (Y 0) (al (Ï ";")))) (gN 0) U (fM (mj) (Y 0) (al (Ï " "))) [Z (.str d),U,U,U,U,U]=Z (.ok (.lst ((ą o ζ::h).map Q.str))):=by
  have k:gz (fM (iH) (Y 0) (al (Ï ";"))) [Z (.str d),U,U,U,U,U]=Z (.ok (A.map Q.str)):=by
   have z:fM (iH) (Y 0) (al (Ï ";")) [Z (.str d),U,U,U,U,U]=Z (.ok (.lst (A.map Q.str))):=by show iH d [.str ";"]=_;show(if(b_ ";").length≠0/\d.length<=100000/\(VW d (b_ ";")).length<=100000 then _ else U)=_;rw[if_pos ⟨by decide,P,by rw[y];omega⟩,y]
   unfold gz;rw[z];rfl
  have e:=se (d:=[]) (y:=fM (mj) (Y 0) (al (Ï " "))) Q.str (λq=>Q.str (Vz q ũ)) k (by omega) λq u=>by show mj q [.str " "]=_;show(if q.length<=100000 then _ else U)=_;rw[if_pos (by have:=hl q u;omega)];rfl
  rw[e,<-ht,UQ];rfl
 let f:Q:=.lst ((ą o ζ::h).map Q.str);let T3:Q:=.tup [.str o,.str "=",.str ζ];have v2:fM (pb) (R Î (Y 1) (X 0)) (al (Ï "=")) [Z (.str d),Z f,U,U,U,U]=Z (.ok T3):=e2;have c1:(Ĉ (fB (R ß (R Î (Y 2) (X 1)) (Ï ""))) (Ĉ (cF (fB (ag aM 1 (al (R Î (Y 2) (X 0)))))) (cF (fB (ag bK 1 (al (R Î (Y 2) (X 2)))))))) (ER d f T3 U U)=Z (.ok D):=by
  have H:ag aM 1 (al (R Î (Y 2) (X 0))) (ER d f T3 U U)=bo L:=fK aM rfl e3;have E:ag bK 1 (al (R Î (Y 2) (X 2))) (ER d f T3 U U)=bo L:=fK bK rfl e4;have I:fB (R ß (R Î (Y 2) (X 1)) (Ï "")) (ER d f T3 U U)=Z (.ok D):=by lk
  unfold Ĉ;rw[I];show(Ĉ (cF (fB (ag aM 1 (al (R Î (Y 2) (X 0)))))) (cF (fB (ag bK 1 (al (R Î (Y 2) (X 2))))))) (ER d f T3 U U)=_;unfold Ĉ cF;rw[bi H,bi E];rfl
 have i:gz (uO (Y 1) (eE (X 1)) gM) (ER d f T3 U U)=Z (.ok (h.map Q.str)):=by
  have z:uO (Y 1) (eE (X 1)) gM (ER d f T3 U U)=Z (.ok (.lst (h.map Q.str))):=by show Z (Rs.ok (Q.lst (yh ((ą o ζ::h).map Q.str) (Z 1) U)))=_;congr 3;show(((ą o ζ::h).map Q.str).drop (min 1 ((ą o ζ::h).map Q.str).length)).take (((ą o ζ::h).map Q.str).length-min 1 ((ą o ζ::h).map Q.str).length)=_;rw[ZQ (by simp)];rw[E_,List.drop_succ_cons,aaf,XQ (by simp)]
  unfold gz;rw[z];rfl
 have m:yz 4 [4,5] (gz (uO (Y 1) (eE (X 1)) gM)) bu (ER d f T3 U U) (Ş o ζ)=Z (.nx (ER d f T3 U U) (h.foldl put (Ş o ζ))):=by unfold yz;rw[i];show(if â (h.map Q.str)=L then _ else U)=_;rw[if_pos (sr h)];exact Ax h (Ş o ζ) U U hp rfl
 refine lF ?_;show dZ [Z (.str d),U,U,U,U,U]=_;unfold dZ;rw[ay (cp (show cF (fB (f1 (jR qQ) (Y 0))) [Z (.str d),U,U,U,U,U]=Z (.ok D)from rfl))];rw[ay (bV (a:=[Z (.str d),Z f,U,U,U,U]) N rfl)];rw[ay (bV (a:=ER d f T3 U U) v2 rfl)];rw[ay (cp c1)];unfold yy;rw[show(aP (R Î (Y 2) (X 0)) (aP (R Î (Y 2) (X 2)) (uL (fC .non) (fC .non) (fC .non) (fC .non) (fC (.bl D)) (Ï "any")))) (ER d f T3 U U)=Z (.ok (Ş o ζ))from rfl];show(match(fU (yz 4 [4,5] (gz (uO (Y 1) (eE (X 1)) gM)) bu) (yw 3 (á gD (al (Y 3))))) (ER d f T3 U U) (Ş o ζ)with|some (.nx s w)=>Z (Fl.nx (s.set 3 (Z (.lst w))))|some (.rt g)=>Z (.rt g)|none=>U)=_;unfold fU;rw[m];rfl
theorem jk(a b:Str):(a++b).cps.toList=a.cps.toList++b.cps.toList:=Array.toList_append
def nJ(b a:Str):Str->Str->List Str->List Str|pre,x,[]=>[pre++x++ė]|pre,x,y::l=>(pre++x++b)::nJ b a a y l
theorem vD(b a:Str):∀(l:List Str)(pre x:Str),∃q r,nJ b a pre x l=q::r|[],_,_=>⟨_,_,rfl⟩|_::_,_,_=>⟨_,_,rfl⟩
def JS:List Str->List Nat|[]=>[]|q::r=>J [59] q.cps.toList (r.map λs=>s.cps.toList)
theorem Ay(a x y:Str)(l:List Str):WT a (x::y::l)=x++a++WT a (y::l):=by show aaW a (x::y::l)=x++a++aaW a (y::l);rw[ZZ,ZZ];rfl
theorem NH{d b a:Str}(g:d.cps.toList=b.cps.toList++59::a.cps.toList):∀(l:List Str)(pre x:Str),pre.cps.toList++(WT d (x::l)).cps.toList=JS (nJ b a pre x l)|[],pre,x=>by show pre.cps.toList++x.cps.toList=(pre++x++ė).cps.toList;rw[jk,jk];show _=_++[];simp|y::l,pre,x=>by have f:=NH g l a y;obtain⟨q,r,e⟩:=vD b a l a y;rw[Ay,jk,jk,g];show _=JS ((pre++x++b)::nJ b a a y l);rw[e]at f⊢;show _=(pre++x++b).cps.toList++([59]++J [59] q.cps.toList (r.map λs=>s.cps.toList));rw[show J [59] q.cps.toList (r.map λs=>s.cps.toList)=JS (q::r)from rfl,<-f,jk,jk];simp
def ś(b a p:Str):Bool:=ig ė p b&&(ig ė p ė&&(ig a p b&&ig a p ė))
theorem mU(h:ig d o ζ=L):Vz (d++o++ζ) ũ=o/\59∉(d++o++ζ).cps.toList:=by unfold ig at h;rw[m_]at h;exact⟨iD h.1,by simpa using h.2⟩
theorem Az{b a:Str}:∀(l:List Str)(pre x:Str),(ig pre x b=L/\ig pre x ė=L)->(∀p∈l,ś b a p=L)->(nJ b a pre x l).map (λq=>Vz q ũ)=x::l/\∀q∈nJ b a pre x l,59∉q.cps.toList
 |[],pre,x,f,_=>by obtain⟨h,g⟩:=mU f.2;exact⟨by show[Vz (pre++x++ė) ũ]=[x];rw[h],λq d=>by rw[M_.mp d];exact g⟩|y::l,pre,x,f,i=>by
  obtain⟨h,g⟩:=mU f.1;have e:=i y q_;unfold ś at e;simp only[m_]at e;obtain⟨m,k⟩:=Az l a y ⟨e.2.2.1,e.2.2.2⟩ λp j=>i p (r_ _ j);refine⟨by show Vz (pre++x++b) ũ::(nJ b a a y l).map _=_;rw[h,m],λq d=>?_⟩;rcases uk.mp d with rfl|d;·exact g
  ·exact k q d
theorem vF{d a:Str}(i:d.length<=2)(g:a.length<=2):∀(l:List Str)(pre x:Str),pre.length<=2->x.length<=200->(∀p∈l,p.length<=200)->(nJ d a pre x l).length=l.length+1/\∀q∈nJ d a pre x l,q.length<=300
 |[],pre,x,e,h,_=>⟨rfl,λq b=>by
  rw[M_.mp b,iE,iE];have:ė.length=0:=by decide
  omega⟩|y::l,pre,x,e,h,f=>by
  obtain⟨k,j⟩:=vF i g l a y g (f y q_) λp e=>f p (r_ _ e);refine⟨by show(nJ d a a y l).length+1=_;rw[k];rfl,λq b=>?_⟩;rcases uk.mp b with rfl|b;·rw[iE,iE];omega
  ·exact j q b
theorem vG(a:Str)(d:a.length<=10):∀(l:List Str)(x:Str),(∀p∈l,p.length<=200)->(l.foldl (λt y=>t++a++y) x).length<=x.length+l.length*210|[],x,_=>by simp|y::l,x,h=>by have b:=vG a d l (x++a++y) λp e=>h p (r_ _ e);have f:=h y q_;rw[iE,iE]at b;show(l.foldl _ (x++a++y)).length<=_;rw[TQ];omega
theorem mV{a w:Str}(H:d.cps.toList=o.cps.toList++59::ζ.cps.toList)(g:d.length<=10)(h1:o.length<=2)(P:ζ.length<=2)(i:a∈Į)(E:w∈ĸ)(b:ś o ζ (ą a w)=L)(j:(ą a w).length<=200)(N:∀p∈A,ś o ζ p=L)(n:∀p∈A,p.length<=200)(hn:A.length<=50)(I:∀p∈A,j' p=L):aT [.str (WT d (ą a w::A))]=Z (.ok (.tup (A.foldl put (Ş a w)))):=by
 obtain⟨q,r,e⟩:=vD o ζ A ė (ą a w);unfold ś at b;simp only[m_]at b;obtain⟨v,u⟩:=Az (b:=o) (a:=ζ) A ė (ą a w) ⟨b.1,b.2.1⟩ N;obtain⟨m,k⟩:=vF h1 P A ė (ą a w) (by decide) j n;have f:=NH H A ė (ą a w);rw[e]at f v u m k;have y:(WT d (ą a w::A)).cps.toList=J (b_ ";").cps.toList q.cps.toList (r.map λs=>s.cps.toList):=by
  have z:ė.cps.toList=[]:=by lk
  rw[z]at f;exact f
 refine IQ (A:=q::r) ?_ i E (ur (b:=59) (i:=[]) (by lk) (by lk) u y) (by rw[m];omega) v (λs h=>by have:=k s h;omega) I;rw[mT];have:=vG d g A (ą a w) n;omega
structure Gw(nm w:Str)(h p:Option Str)(u l:Option Int)(S:Bool)(R:Str):Prop where
 nm:nm∈Į
 w:w∈ĸ
 h:∀x,h=Z x->x∈En
 p:∀x,p=Z x->x∈ï
 u:∀i,u=Z i->0<=i/\i<60l:∀i,l=Z i->0<=i/\i<30r:R=b_ "any"\/R=b_ "near"
theorem NI(g:Gv d o j μ Γ Κ H ζ):∃h p i k,Gw d o h p i k H ζ/\ā d o j μ Γ Κ H ζ=gv d o h p i k H ζ:=by
 have y:∃h,j=eS h/\∀x,h=Z x->x∈En:=by
  rcases g.hh with rfl|⟨n,a,rfl⟩;·exact⟨U,rfl,λx e=>by cases e⟩
  ·exact⟨Z n,rfl,λx e=>by cases e;exact a⟩
 have w:∃h,μ=eS h/\∀x,h=Z x->x∈ï:=by
  rcases g.pp with rfl|⟨n,a,rfl⟩;·exact⟨U,rfl,λx e=>by cases e⟩
  ·exact⟨Z n,rfl,λx e=>by cases e;exact a⟩
 have v:∃h,Γ=eO h/\∀x,h=Z x->0<=x/\x<60:=by
  rcases g.u with rfl|⟨n,f,b,rfl⟩;·exact⟨U,rfl,λx e=>by cases e⟩
  ·exact⟨Z n,rfl,λx e=>by cases e;exact⟨f,b⟩⟩
 have u:∃h,Κ=eO h/\∀x,h=Z x->0<=x/\x<30:=by
  rcases g.l with rfl|⟨n,f,b,rfl⟩;·exact⟨U,rfl,λx e=>by cases e⟩
  ·exact⟨Z n,rfl,λx e=>by cases e;exact⟨f,b⟩⟩
 obtain⟨h,rfl,s⟩:=y;obtain⟨p,rfl,r⟩:=w;obtain⟨Γ,rfl,q⟩:=v;obtain⟨Κ,rfl,m⟩:=u;exact⟨h,p,Γ,Κ,⟨g.nm,g.w,s,r,q,m,g.r⟩,rfl⟩
theorem ql:(Į.all λx=>t_ (x.length<=50))=L/\(ĸ.all λx=>t_ (x.length<=50))=L/\(En.all λx=>t_ (x.length<=50))=L/\(ï.all λx=>t_ (x.length<=50))=L:=⟨by lk,by lk,by lk,by lk⟩
theorem AA:(Į.all λx=>Ue (.str x))=L/\(ĸ.all λx=>Ue (.str x))=L/\(En.all λx=>Ue (.str x))=L/\(ï.all λx=>Ue (.str x))=L:=⟨by lk,by lk,by lk,by lk⟩
theorem Ra{p:Option Str}(g:Gw d o Ο p Ε Λ H ζ):Vv d o Ο p Ε Λ ζ:=⟨by simpa using aX (p:=λx:Str=>t_ (x.length<=50)) ql.1 g.nm,by simpa using aX (p:=λx:Str=>t_ (x.length<=50)) ql.2.1 g.w,λx e=>by simpa using aX (p:=λx:Str=>t_ (x.length<=50)) ql.2.2.1 (g.h x e),λx e=>by simpa using aX (p:=λx:Str=>t_ (x.length<=50)) ql.2.2.2 (g.p x e),λi e=>by have:=g.u i e;omega,λi e=>by have:=g.l i e;omega⟩
theorem Rb(o:Option Int):Ę 0 (eO o):=by cases o;exact Nd;exact vB
def PL(h p:Option Str)(u l:Option Int)(S:Bool)(R:Str):List Str:=(oS "for " h).toList++((oS "under " p).toList++((oI "until " u).toList++((oI "lasts " l).toList++((oB "safe" S).toList++((oB "near" (k6 R)).toList++[])))))
theorem NJ{p:Option Str}:WT (b_ "; ") (ą d o::PL Ο p Ε Λ H ζ)=T d o Ο p Ε Λ H ζ:=by rw[mT];unfold PL;rw[jr,jr,jr,jr,jr,jr];rfl
theorem lL(d:0<=n)(a:n<b):n∈sk b:=by unfold sk;exact R_.mpr ⟨n.toNat,TX.mpr (by omega),by omega⟩
theorem NK{p:Option Str}(g:Gw d o Ο p Ε Λ H ζ):∀x∈PL Ο p Ε Λ H ζ,x∈Ū:=by
 intro x a;simp only[PL,TH,Option.mem_toList,TD,or_false]at a;unfold Ū;rcases a with e|e|e|e|e|e;·refine O_ _ ?_;cases Ο with|none=>cases e|some y=>cases e;exact R_.mpr ⟨y,g.h y rfl,rfl⟩
 ·refine o_ _ (O_ _ ?_);cases p with|none=>cases e|some y=>cases e;exact R_.mpr ⟨y,g.p y rfl,rfl⟩
 ·refine o_ _ (o_ _ (O_ _ ?_));cases Ε with|none=>cases e|some y=>cases e;exact R_.mpr ⟨y,lL (g.u y rfl).1 (g.u y rfl).2,rfl⟩
 ·refine o_ _ (o_ _ (o_ _ (O_ _ ?_)));cases Λ with|none=>cases e|some y=>cases e;exact R_.mpr ⟨y,lL (g.l y rfl).1 (g.l y rfl).2,rfl⟩
 · refine o_ _ (o_ _ (o_ _ (o_ _ (O_ _ ?_))));unfold oB at e;split at e;·cases e;simp
   ·cases e
 · refine o_ _ (o_ _ (o_ _ (o_ _ (O_ _ ?_))));unfold oB at e;split at e;·cases e;simp
   ·cases e
structure Ptk(x:Str):Prop where
 t:j' x=L
 q1:ś ė ũ x=L
 q2:ś ė ė x=L
 q3:ś ů ů x=L
 l:x.length<=200n:59∉x.cps.toList
theorem NL(h:okS d=L):ś ė ũ d=L/\ś ė ė d=L/\ś ů ů d=L/\d.length<=200/\59∉d.cps.toList:=by unfold okS at h;simp only[m_,decide_eq_true_eq]at h;obtain⟨a,b,j,i,g,f⟩:=h;unfold ś;simp only[m_];refine⟨⟨a,a,b,b⟩,⟨a,a,a,a⟩,⟨i,a,j,g⟩,f,?_⟩;have:=(mU a).2;rw[jk,jk]at this;intro e;exact this (O_ _ (o_ _ e))
theorem ŵ(a:d∈Ū):Ptk d:=by have h:=aX IL a;unfold Sg at h;rw[m_]at h;obtain⟨i,g,f,e,b⟩:=NL h.2;exact⟨h.1,i,g,f,e,b⟩
theorem IR(b:d∈Į)(e:o∈ĸ):okS (ą d o)=L:=by have a:=aX (p:=λo=>IP d o) (aX (p:=λn=>ĸ.all λo=>IP n o) vC b) e;unfold IP at a;simp only[m_]at a;exact a.1.1
theorem IS(e:d∈Į)(f:o∈ĸ)(b:∀x∈A,x∈Ū)(g:A.length<=50):aT [.str (WT (b_ "; ") (ą d o::A))]=Z (.ok (.tup (A.foldl put (Ş d o))))/\aT [.str (WT (b_ ";") (ą d o::A))]=Z (.ok (.tup (A.foldl put (Ş d o))))/\aT [.str (WT (b_ "  ;  ") (ą d o::A))]=Z (.ok (.tup (A.foldl put (Ş d o)))):=by obtain⟨f1,R,i,h,j⟩:=NL (IR e f);exact⟨mV (o:=ė) (ζ:=ũ) (by lk) (by decide) (by decide) (by decide) e f f1 h (λx a=>(ŵ (b x a)).q1) (λx a=>(ŵ (b x a)).l) g λx a=>(ŵ (b x a)).t,mV (o:=ė) (ζ:=ė) (by lk) (by decide) (by decide) (by decide) e f R h (λx a=>(ŵ (b x a)).q2) (λx a=>(ŵ (b x a)).l) g λx a=>(ŵ (b x a)).t,mV (o:=ů) (ζ:=ů) (by lk) (by decide) (by decide) (by decide) e f i h (λx a=>(ŵ (b x a)).q3) (λx a=>(ŵ (b x a)).l) g λx a=>(ŵ (b x a)).t⟩
theorem NM{p:Option Str}:(PL Ο p Ε Λ H d).length<=6:=by have f1:=oK (oS "for " Ο);have a:=oK (oS "under " p);have g:=oK (oI "until " Ε);have f:=oK (oI "lasts " Λ);have e:=oK (oB "safe" H);have b:=oK (oB "near" (k6 d));simp[PL];omega
noncomputable def gs(o:Option Str)(c:Q):Q:=match o with|none=>c|some x=>.str x
noncomputable def gi(o:Option Int)(c:Q):Q:=match o with|none=>c|some x=>.int x
noncomputable def gb(o:Bool)(c d:Q):Q:=if o then d else c
theorem Tp(j:∀x,Ο=Z x->x∈En)(h:List Str)(a b c d e f g i:Q):((oS "for " Ο).toList++h).foldl put [a,b,c,d,e,f,g,i]=h.foldl put [a,b,gs Ο c,d,e,f,g,i]:=by cases Ο with|none=>rfl|some x=>show h.foldl put (put _ (b_ "for "++x))=_;unfold put;rw[Q6 (j x rfl)];rfl
theorem Tq(j:∀x,Ο=Z x->x∈ï)(h:List Str)(a b c d e f g i:Q):((oS "under " Ο).toList++h).foldl put [a,b,c,d,e,f,g,i]=h.foldl put [a,b,c,gs Ο d,e,f,g,i]:=by cases Ο with|none=>rfl|some x=>show h.foldl put (put _ (b_ "under "++x))=_;unfold put;rw[Q7 (j x rfl)];rfl
theorem Tr(j:∀x,Ε=Z x->0<=x/\x<60)(h:List Str)(a b c d e f g i:Q):((oI "until " Ε).toList++h).foldl put [a,b,c,d,e,f,g,i]=h.foldl put [a,b,c,d,gi Ε e,f,g,i]:=by cases Ε with|none=>rfl|some x=>show h.foldl put (put _ (b_ "until "++is x))=_;unfold put;rw[Q8 (lL (j x rfl).1 (j x rfl).2)];rfl
theorem Tt(j:∀x,Ε=Z x->0<=x/\x<30)(h:List Str)(a b c d e f g i:Q):((oI "lasts " Ε).toList++h).foldl put [a,b,c,d,e,f,g,i]=h.foldl put [a,b,c,d,e,gi Ε f,g,i]:=by cases Ε with|none=>rfl|some x=>show h.foldl put (put _ (b_ "lasts "++is x))=_;unfold put;rw[Q9 (lL (j x rfl).1 (j x rfl).2)];rfl
theorem Tu(h:List Str)(a b c d e f g i:Q):((oB "safe" H).toList++h).foldl put [a,b,c,d,e,f,g,i]=h.foldl put [a,b,c,d,e,f,gb H g (.bl L),i]:=by cases H with|false=>rfl|true=>show h.foldl put (put _ (b_ "safe"))=_;unfold put;rw[NF];rfl
theorem Tv(k:Bool)(h:List Str)(a b c d e f g i:Q):((oB "near" k).toList++h).foldl put [a,b,c,d,e,f,g,i]=h.foldl put [a,b,c,d,e,f,g,gb k i (.str "near")]:=by cases k with|false=>rfl|true=>show h.foldl put (put _ (b_ "near"))=_;unfold put;rw[NG];rfl
theorem NN{p:Option Str}(g:Gw d o Ο p Ε Λ H ζ)(a b c h e f k i:Q):(PL Ο p Ε Λ H ζ).foldl put [a,b,c,h,e,f,k,i]=[a,b,gs Ο c,gs p h,gi Ε e,gi Λ f,gb H k (.bl L),gb (k6 ζ) i (.str "near")]:=by unfold PL;rw[Tp g.h,Tq g.p,Tr g.u,Tt g.l,Tu,Tv];rfl
theorem NO{p:Option Str}(g:Gw d o Ο p Ε Λ H ζ):gb (k6 ζ) (.str "any") (.str "near")=.str ζ:=by rcases g.r with e|e<;>rw[e]<;>rfl
theorem EY(o:Option Str):gs o .non=eS o:=by cases o<;>rfl
theorem EZ(o:Option Int):gi o .non=eO o:=by cases o<;>rfl
theorem Tw(S:Bool):gb S (.bl D) (.bl L)=.bl S:=by cases S<;>rfl
theorem Rc{p:Option Str}(g:Gw d o Ο p Ε Λ H ζ):Q.tup ((PL Ο p Ε Λ H ζ).foldl put (Ş d o))=gv d o Ο p Ε Λ H ζ:=by unfold Ş;rw[NN g,NO g,EY,EY,EZ,EZ,Tw]
theorem NP(i:Int):aA [.int i]=bo (t_ (0<=i)&&t_ (i<=9999)):=by
 have e:aR [.int i,.int 0,.int 9999]=bo (t_ (0<=i)&&t_ (i<=9999)):=by
  by_cases a:0<=i;·simp[aR,bM,aZ,aK,sq,br,aL,c5,Ù,Ĉ,cF,fB,Ą,Y,f1,R,jU,jR,fY,qX,Ĳ,a]
  ·simp[aR,bM,aZ,aK,sq,br,aL,c5,Ù,Ĉ,cF,fB,Ą,Y,f1,R,jU,jR,fY,qX,Ĳ,a]
 have b:bc [.int i]=bo (t_ (0<=i)&&t_ (i<=9999)):=by simp[bc,bM,eU,aL,c5,Ù,ag,aP,bZ,Y,fC,e]
 simp[aA,bM,bj,aL,c5,Ù,Ą,ag,aP,bZ,Y,fC,R,ĳ,Ď,b]
theorem NQ{p:Option Str}(g:Gw d o Ο p Ε Λ H ζ):aT [.str (T d o Ο p Ε Λ H ζ)]=Z (.ok (gv d o Ο p Ε Λ H ζ)):=by have:=(IS (d:=d) (o:=o) g.nm g.w (NK g) (TU NM (by omega))).1;rw[NJ,Rc g]at this;exact this
abbrev ntn(f w a:Str)(g:Bool)(d:Str)(e:Q)(S:Bool)(R:Str)(b:Int):Q:=.tup [.str f,.str w,.str a,.bl g,.str d,e,.bl S,.str R,.int b,.int b]
theorem DB(h:Ę b j)(a:b<=64):ċ j j=Z (.ok (.bl D)):=uu (h.okP a) h.p
noncomputable def Fa(u l:Q)(a:Int):Q:=match l with|.int i=>.int (if 9999<a+i then 9999 else a+i)|_=>u
theorem NR(g:Gv d o j μ Γ Κ H ζ):iZ [ā d o j μ Γ Κ H ζ,.int n]=Z (.ok (Fa Γ Κ n)):=by
 rcases g.l with rfl|⟨i,i0,a,rfl⟩;·simp[iZ,bM,iY,aK,sq,br,aL,c5,Ù,fB,Ą,Y,fC,R,Î,Ă,Ď,Fa]
 ·simp[iZ,bM,iY,aK,sq,br,aL,c5,Ù,fB,Ą,aP,bZ,Y,fC,R,Î,Ă,á,Ď,bX,OI,Fa]
theorem NS(g:Gv d o j μ Γ Κ H ζ)(a:0<=n):Mo (Fa Γ Κ n):=by
 rcases g.l with rfl|⟨i,i0,b,rfl⟩;·exact g.mu
 ·refine .inr ⟨_,?_,?_,rfl⟩<;>split<;>omega
theorem Fb{h p:Str}{O:Q}{b e:Str}{f:Bool}(v:E∈kZ ë)(a:Ak h p O)(g:Gv d o j μ Γ Κ H ζ)(m:0<=n)(k:n<=9999)(W:Wt E h p O d o j μ Γ Κ H ζ Ä b e f .non):dv [.tup E,ü Ä h p O,ā d o j μ Γ Κ H ζ,.int n]=Z (.ok (ntn d o b f e (Fa Γ Κ n) H ζ n)):=by have A:=Q1 (jj v);have z:=Q2 (Ds (H:=Ä) a);have y:=Sb (As g);have w:=IG (si m k);have i:=W.why;have u:=W.hf;have s:=W.ix;have r:=W.pf;have q:=NR (n:=n) g;simp[dv,gA,pP,aK,sq,br,aL,eD,c5,Ù,fB,Ą,ag,aF,aP,bZ,Y,fC,R,Î,Ă,eI,nW,A,z,y,w,i,u,s,r,q]
namespace J
theorem Fc{b:æ}(d:Μ δ=Z (.ok H))(a:b δ=Z (.ok Ä)):Ĉ Μ b δ=Z (.ok (H||Ä)):=by
 unfold Ĉ;rw[d];cases H;·exact a
 ·rfl
theorem NP(i:Int):bc [.int i]=bo (t_ (0<=i)&&t_ (i<=9999)):=by
 have e:aR [.int i,.int 0,.int 9999]=bo (t_ (0<=i)&&t_ (i<=9999)):=by
  by_cases a:0<=i;·simp[aR,bM,aZ,aK,sq,br,aL,c5,Ù,Ĉ,cF,fB,Ą,Y,f1,R,jU,jR,fY,qX,Ĳ,a]
  ·simp[aR,bM,aZ,aK,sq,br,aL,c5,Ù,Ĉ,cF,fB,Ą,Y,f1,R,jU,jR,fY,qX,Ĳ,a]
 simp[bc,bM,eU,aL,c5,Ù,ag,aP,bZ,Y,fC,e]
theorem si(b:0<=n)(a:n<=9999):bc [.int n]=bo L:=by rw[NP];simp[b,a]
theorem qh(h:d=b_ "any"\/d=b_ "near"):eV [.str d]=bo L/\∃r,ß (.str d) (.str "any")=bo r/\ß (.str d) (.str "near")=bo (!r):=by
 rcases h with rfl|rfl;·exact⟨by lk,L,by lk,by lk⟩
 ·exact⟨by lk,D,by lk,by lk⟩
structure ai where
 nm:Str
 w:Str
 house:Str
 ex:Bool
 path:Str
 ends:Option Int
 S:Bool
 R:Str
 md:Int
 us:Int
deriving DecidableEq
def Õ(n:ai):Q:=.tup [.str n.nm,.str n.w,.str n.house,.bl n.ex,.str n.path,eO n.ends,.bl n.S,.str n.R,.int n.md,.int n.us]
noncomputable def ek(n:ai):Q:=.tup [.str n.nm,.str n.house,.str n.path]
noncomputable def key(n:ai):List Str:=[n.nm,n.house,n.path]
structure ç(n:ai):Prop where
 nm:n.nm∈Į
 w:n.w∈ĸ
 house:n.house∈En
 path:n.path∈ï
 R:n.R=b_ "any"\/n.R=b_ "near"ends:∀i,n.ends=Z i->0<=i/\i<=9999mk0:0<=n.md
 mu:n.md<=n.us
 us:n.us<=200
variable{π:ai}
theorem Re(g:ç π):Mo (eO π.ends):=by cases h:π.ends with|none=>exact .inl rfl|some i=>exact .inr ⟨i,(g.ends i h).1,by have:=(g.ends i h).2;omega,rfl⟩
theorem NT(g:ç π):gg [Õ π]=bo L:=by
 have a:bS [Õ π,.int 10]=bo L:=by lk
 have e:=si g.mk0 (by have:=g.mu;have:=g.us;omega);have d:=si (Int.le_trans g.mk0 g.mu) (by have:=g.us;omega);have b:aA [eO π.ends]=bo L:=Ap (Re g);unfold Õ at a⊢;simp[gg,bM,j9,aK,sq,br,aL,c5,Ù,Ĉ,cF,fB,Ą,ag,aP,bZ,Y,fC,f1,R,Î,Ă,gB,á,jR,fY,a,e,d,R8 g.nm,R9 g.w,No g.house,Q0 g.path,b,(qh g.R).1,o8,jX,Ĳ,g.mu]
def Ā:List Str:=Į++(ĸ++(En++(ï++[b_ "any",b_ "near"])))
theorem AA:(Ā.all λx=>Ue (.str x))=L:=by lk
theorem ss(h:d∈Ā):Ue (.str d)=L:=aX (p:=λd=>Ue (.str d)) AA h
theorem ç.sR(g:ç π):π.R∈Ā:=by unfold Ā;rcases g.R with h|h<;>rw[h]<;>simp
theorem AB(g:ç π):Ę 1 (Õ π):=by
 refine sg (b:=0) λd a=>?_;simp only[uk,TD,or_false]at a;rcases a with rfl|rfl|rfl|rfl|rfl|rfl|rfl|rfl|rfl|rfl;·exact ji (ss (by simp[Ā,g.nm]))
 ·exact ji (ss (by simp[Ā,g.w]))
 ·exact ji (ss (by simp[Ā,g.house]))
 ·exact Nc
 ·exact ji (ss (by simp[Ā,g.path]))
 ·exact Rb _
 ·exact Nc
 ·exact ji (ss g.sR)
 ·exact vB
 ·exact vB
theorem NU(g:ç π):Ę 1 (ek π):=by
 refine sg (b:=0) λd a=>?_;simp only[uk,TD,or_false]at a;rcases a with rfl|rfl|rfl;·exact ji (ss (by simp[Ā,g.nm]))
 ·exact ji (ss (by simp[Ā,g.house]))
 ·exact ji (ss (by simp[Ā,g.path]))
theorem NV(a b:ai):UL (fZ (ek a)) (fZ (ek b))=t_ (key a=key b):=by rw[Vc];simp[ek,key,fZ,ò,UL,Vr]
theorem IT{b:ai}(h:ç π)(g:ç b):ß (ek π) (ek b)=bo (t_ (key π=key b))/\ċ (ek π) (ek b)=bo (!t_ (key π=key b)):=by
 have e:=(NU h).okP (by omega);have d:=(NU g).okP (by omega);have a:=NV π b;have f:Ŕ (ek π) (ek b)=U:=rfl;constructor;·unfold ß;rw[f,e,d,a];rfl
 ·unfold ċ;rw[f,e,d,a];rfl
noncomputable def Ė(n:ai)(a:Int):Bool:=match n.ends with|none=>D|some i=>t_ (i<=a)
def ej(a:List ai):Q:=.tup (a.map Õ)
structure ņ(js:List ai):Prop where
 g:∀n∈js,ç n
 s:∀i(h:i+1<js.length),js[i].md<=js[i+1].md
 k:(js.map key).Nodup
 l:js.length<=20
theorem Fd{a:Type}{o:Option (Rs ε)}{k:ε->Option (Rs a)}(h:o=Z (.ok Ë)):Ù o k=k Ë:=by rw[h];rfl
theorem uw:∀(n:Nat)(lo:Int),rng lo n=(p_ n).map λi:Nat=>Q.int (lo+(i:Int))
 |0,lo=>rfl|n+1,lo=>by
  rw[XR];show Q.int lo::rng (lo+1) n=_;rw[uw n (lo+1)];simp only[E_,UQ];congr 1;·simp
  ·congr 1;funext i;simp only[X9];congr 1;omega
theorem AC{f g:jY}{a:Ev}{b:List Q}(h:f δ E=Z (.nx a b)):fU f g δ E=g a b:=by unfold fU;rw[h]
theorem IU(h:δ[b]?=Z (Z (.lst E))):gz (Y b) δ=Z (.ok E):=by unfold gz Y;rw[h];rfl
variable{i:List ai}
theorem kr(h:δ[b]?=Z (Z (ej i))):gz (Y b) δ=Z (.ok (i.map Õ)):=by unfold gz Y;rw[h];rfl
theorem IV(b:∀o∈i,ç o):Ę 2 (.lst (i.map Õ)):=vA λd e=>by obtain⟨x,a,rfl⟩:=R_.mp e;exact AB (b x a)
theorem DC(b:∀o∈i,ç o):Ę 2 (ej i):=sg λd e=>by obtain⟨x,a,rfl⟩:=R_.mp e;exact AB (b x a)
theorem nil_eq(b:∀o∈i,ç o):ß (.lst (i.map Õ)) (.lst [])=bo i.isEmpty:=by cases i with|nil=>lk|cons o rest=>
 have i2:=(IV b).okP (by omega);have a:okP (.lst [])=L:=by lk
 unfold ß;rw[show Ŕ (.lst ((o::rest).map Õ)) (.lst [])=U from rfl,i2,a];simp[fZ,ò,UL,Vr]
theorem su:∀l:List Int,â (l.map Q.int)=L|[]=>rfl|i::l=>by show(ħ (.int i)&&â (l.map Q.int))=L;rw[su l];rfl
theorem AD(a b:Int):c9 (.int a) (.int b)=Z (.ok (.int (a+b))):=rfl
structure JI(B:Nat)(js:List ai)(now:Int):Prop where
 g:∀n∈js,ç n
 s:js.Pairwise λa b=>a.md<=b.md
 k:(js.map key).Nodup
 l:js.length<=B
 n0:0<=now
 n1:now<=3*B
 m:∀n∈js,n.md<=now
 u:∀n∈js,n.us<=now+4
theorem JI.keep(J:JI b i n)(f:0<=Ω)(e:Ω<4):JI (b+1) i (n+Ω):=⟨J.g,J.s,J.k,by have:=J.l;omega,by have:=J.n0;omega,by have:=J.n1;omega,λa d=>by have:=J.m a d;omega,λa d=>by have:=J.u a d;omega⟩
theorem JI.add(J:JI b i n)(v:0<=Ω)(u:Ω<4)(g:ç π)(q:π.us<=n+Ω+4)(p:π.md=n+Ω)(s:i.filter (λo=>t_ (key o=key π))=[]):JI (b+1) (i++[π]) (n+Ω):=by
 have r:∀o∈i,key o≠key π:=λo k e=>by have:o∈i.filter (λo=>t_ (key o=key π)):=Ui.mpr ⟨k,by simp[e]⟩;rw[s]at this;cases this
 refine⟨λx f=>?_,?_,?_,by have:=J.l;simp;omega,by have:=J.n0;omega,by have:=J.n1;omega,λx f=>?_,λx f=>?_⟩
 · rcases TH.mp f with h|h;·exact J.g x h
   ·rw[M_.mp h];exact g
 ·refine aac.mpr ⟨J.s,Xs ..,λa m d j=>?_⟩;rw[M_.mp j,p];have:=J.m a m;omega
 ·rw[UH];refine V4.mpr ⟨J.k,by simp,λa m d j e=>?_⟩;obtain⟨o,k,rfl⟩:=R_.mp m;simp only[E_,XT,M_]at j;exact r o k (e.trans j)
 · rcases TH.mp f with h|h;·have:=J.m x h;omega
   ·rw[M_.mp h,p];omega
 · rcases TH.mp f with h|h;·have:=J.u x h;omega
   ·rw[M_.mp h];exact q
theorem JI.jar(J:JI b i n)(d:b<=20):ņ i:=⟨J.g,λa h=>VV.mp J.s a (a+1) (by omega) h (by omega),J.k,by have:=J.l;omega⟩
noncomputable def jb(b:List Int)(z m a:Int):Ev:=[Z (.scr b),Z (.int z),Z (.int m),U,Z (.int a),U,U,U,U,U,U,U,U,U,U,U]
def cJ:æ:=(fB (R ß (dq [("_law_note",15)] (gz (Y 3)) (Z (fB (R ß (eI (bN (R Î (Y 0) (X 0)) (R Î (Y 0) (X 2)) (R Î (Y 0) (X 4)))) (eI (bN (R Î (Y 1) (X 0)) (R Î (Y 1) (X 2)) (R Î (Y 1) (X 4))))))) (Y 0)) (gB bZ)))
theorem Rf(d:∀o∈i,ç o)(g:ç π)(j:i.length<=20)(f:δ[3]?=Z (Z (.lst (i.map Õ))))(b:δ[15]?=Z (Z (Õ π))):cJ δ=Z (.ok (i.filter (λo=>t_ (key o=key π))).isEmpty):=by
 have e:Ej [("_law_note",15)] δ=[U,Z (Õ π)]:=by simp[Ej,b]
 have h:=jh (d:=[("_law_note",15)]) (ν:=gz (Y 3)) (Μ:=(fB (R ß (eI (bN (R Î (Y 0) (X 0)) (R Î (Y 0) (X 2)) (R Î (Y 0) (X 4)))) (eI (bN (R Î (Y 1) (X 0)) (R Î (Y 1) (X 2)) (R Î (Y 1) (X 4))))))) (y:=Y 0) (δ:=δ) Õ (λo=>t_ (key o=key π)) Õ (IU f) (by omega) λo a=>⟨by rw[e];exact bi ((bb (j:=ek o) (μ:=ek π) rfl rfl).trans (IT (d o a) g).1),by rw[e];rfl⟩;exact bi ((bb h rfl).trans (nil_eq λo a=>d o (Ui.mp a).1))
theorem AE(e:List Int)(g:e.length<=63)(z m d k:Int){B:Nat}{p:List ai}(J:JI B p d)(hB:B<=10):∃u v q,bI ((jb e z m d).set 5 (Z (.int k))) (p.map Õ)=Z (.nx u (v.map Õ))/\fgt [5,6,7,8,9,10,11,12,13,14,15] u=jb e z m q/\JI (B+1) v q:=by
 obtain⟨b,hh⟩:∃b,b=z+1+14*k:=⟨_,rfl⟩;obtain⟨f,a0,b0,e0⟩:=aU e g b 4 (by omega);obtain⟨d1,a1,b1,e1⟩:=aU e g (b+1) 4 (by omega);obtain⟨d2,a2,b2,e2⟩:=aU e g (b+2) 3 (by omega);obtain⟨I,a4,b4,e4⟩:=aU e g (b+4) 2 (by omega);obtain⟨d6,a6,b6,e6⟩:=aU e g (b+6) 2 (by omega);obtain⟨d7,a7,b7,e7⟩:=aU e g (b+7) 60 (by omega);obtain⟨d8,a8,b8,e8⟩:=aU e g (b+8) 2 (by omega);obtain⟨d9,a9,b9,e9⟩:=aU e g (b+9) 3 (by omega);obtain⟨h,d',c',b'⟩:=aU e g (b+10) 5 (by omega);obtain⟨n3,a',e3⟩:=mR e g (b+3);obtain⟨p5,N,e5⟩:=uv e g (b+5);obtain⟨x1,m1,i1⟩:=iK (E:=[.str "n",.str "m-1",.str "safe-a",.str "N_2"]) a1 b1;obtain⟨x2,m2,i2⟩:=iK (E:=[.str "5",.str "",.str "a!b~"]) a2 b2;obtain⟨x6,m6,i6⟩:=iK (E:=[.non,.int d7]) a6 b6;obtain⟨x9,m9,i9⟩:=iK (E:=[.str "any",.str "any",.str "near"]) a9 b9;have g1:∃s∈Į,x1=.str s:=by simp only[uk,TD,or_false]at m1;rcases m1 with rfl|rfl|rfl|rfl<;>exact⟨_,by simp[Į],rfl⟩
 have g2:∃s∈ĸ,x2=.str s:=by simp only[uk,TD,or_false]at m2;rcases m2 with rfl|rfl|rfl<;>exact⟨_,by simp[ĸ],rfl⟩
 have g6:∃o:Option Int,(∀i,o=Z i->0<=i/\i<=9999)/\x6=eO o:=by
  simp only[uk,TD,or_false]at m6;rcases m6 with rfl|rfl;·exact⟨U,by simp,rfl⟩
  ·exact⟨Z d7,λi hi=>by cases hi;omega,rfl⟩
 have g9:∃a,(a=b_ "any"\/a=b_ "near")/\x9=.str a:=by
  simp only[uk,TD,or_false]at m9;rcases m9 with rfl|rfl|rfl;·exact⟨_,.inl rfl,rfl⟩
  ·exact⟨_,.inl rfl,rfl⟩
  ·exact⟨_,.inr rfl,rfl⟩
 obtain⟨s,P,rfl⟩:=g1;obtain⟨w,hw,rfl⟩:=g2;obtain⟨o,ho,rfl⟩:=g6;obtain⟨a,hR,rfl⟩:=g9;let n:ai:=⟨s,w,n3,I==0,p5,o,d8==0,a,d+f,d+f+h⟩;have q0:=J.n0;have q1:=J.n1;have gn:ç n:=⟨P,hw,me a',N,hR,ho,by show 0<=d+f;omega,by show d+f<=d+f+h;omega,by show d+f+h<=200;omega⟩;let j:Ev:=[Z (.scr e),Z (.int z),Z (.int m),U,Z (.int (d+f)),Z (.int k),Z (.int b),Z (.str s),Z (.str w),Z (eO o),Z (.bl (I==0)),Z (.tup [.str s,.str w,.str n3,.bl (I==0),.str p5]),Z (.str a),Z (.bl (d8==0)),Z (.int (d+f+h)),Z (Õ n)];have E:=Rf (δ:=j.set 3 (Z (.lst (p.map Õ)))) J.g gn (by have:=J.l;omega) rfl rfl;have A:kx (.int 14) (.int k)=Z (.ok (.int (14*k))):=oJ (.inl (by omega));have y:bI ((jb e z m d).set 5 (Z (.int k))) (p.map Õ)=GM 3 cJ (B0 (Y 15)) Jz j (p.map Õ):=by have eB:bI=(fU (gE 6 (R c9 (R c9 (Y 1) (X 1)) (R kx (X 14) (Y 5)))) (fU (gE 4 (R c9 (Y 4) (ag ac 3 (bN (Y 0) (Y 6) (X 4))))) (fU (gE 7 (R Î (gB (nQ (Ï "n") (Ï "m-1") (Ï "safe-a") (Ï "N_2"))) (ag ac 3 (bN (Y 0) (R c9 (Y 6) (X 1)) (X 4))))) (fU (gE 8 (R Î (gB (bN (Ï "5") (Ï "") (Ï "a!b~"))) (ag ac 3 (bN (Y 0) (R c9 (Y 6) (X 2)) (X 3))))) (fU (gE 9 (R Î (gB (bJ (fC .non) (ag ac 3 (bN (Y 0) (R c9 (Y 6) (X 7)) (X 60))))) (ag ac 3 (bN (Y 0) (R c9 (Y 6) (X 6)) (X 2))))) (fU (gE 10 (R ß (ag ac 3 (bN (Y 0) (R c9 (Y 6) (X 4)) (X 2))) (X 0))) (fU (gE 11 (eI (ni (Y 7) (Y 8) (ag aN 2 (bJ (Y 0) (R c9 (Y 6) (X 3)))) (Y 10) (ag cu 2 (bJ (Y 0) (R c9 (Y 6) (X 5))))))) (fU (gE 12 (R Î (gB (bN (Ï "any") (Ï "any") (Ï "near"))) (ag ac 3 (bN (Y 0) (R c9 (Y 6) (X 9)) (X 3))))) (fU (gE 13 (R ß (ag ac 3 (bN (Y 0) (R c9 (Y 6) (X 8)) (X 2))) (X 0))) (fU (gE 14 (R c9 (Y 4) (ag ac 3 (bN (Y 0) (R c9 (Y 6) (X 10)) (X 5))))) (fU (gE 15 (R c9 (Y 11) (eI (ni (Y 9) (Y 13) (Y 12) (Y 4) (Y 14))))) (GM 3 cJ (B0 (Y 15)) Jz)))))))))))):=rfl;rw[eB];subst hh;simp[jb,fU,gE,wq,Ù,ag,aP,bZ,Y,fC,R,eI,gB,AD,A,e0,e1,e2,e3,e4,e5,e6,e7,e8,e9,b',i1,i2,i6,i9,ß,ko,sf,j,Õ,n];simp[c9]
 rw[y];cases H:(p.filter (λo=>t_ (key o=key n)))with|nil=>rw[H]at E;refine⟨j,p++[n],d+f,?_,rfl,J.add a0 b0 gn (by show d+f+h<=d+f+4;omega) rfl H⟩;unfold GM;rw[E];show(if(p.map Õ).length<100000 then _ else _)=_;rw[if_pos (by have:=J.l;simp;omega)];show Z (Fo.nx _ (p.map Õ++[Õ n]))=_;simp|cons c r=>rw[H]at E;refine⟨j,p,d+f,?_,rfl,J.keep a0 b0⟩;unfold GM;rw[E];rfl
theorem vH(n:List Int)(u:n.length<=63)(z m:Int):∀(f:List Int)(j:Ev)(b:Int)(B:Nat)(i:List ai),B+f.length<=10->fgt [5,6,7,8,9,10,11,12,13,14,15] j=jb n z m b->JI B i b->∃d a,nj 5 [5,6,7,8,9,10,11,12,13,14,15] bI (f.map Q.int) j (i.map Õ)=Z (.nx (jb n z m a) (d.map Õ))/\JI (B+f.length) d a|[],j,b,B,i,_,h,J=>⟨i,b,by show Z (Fo.nx _ _)=_;rw[h],J⟩|k::f,j,b,B,i,v,h,J=>by simp only[TQ]at v;obtain⟨g,d,a,e,q,A⟩:=AE n u z m b k J (by omega);obtain⟨s,p,w,y⟩:=vH n u z m f g a (B+1) d (by omega) q A;refine⟨s,p,?_,by rw[TQ,show B+(f.length+1)=B+1+f.length by omega];exact y⟩;show(match bI ((fgt _ j).set 5 (Z (.int k))) (i.map Õ)with|some (.nx g r)=>nj 5 _ bI (f.map Q.int) g r|o=>o)=_;rw[h,e];exact w
theorem NW(a:List Int)(u:a.length<=63)(z:Int)(m:Nat)(A:m<=8):∃b f,fW [.scr a,.int z,.int m]=Z (.ok (ej b))/\ņ b/\b.length<=m/\JI m b f:=by
 obtain⟨d,H,E,w⟩:=aU a u z (m+1) (by omega);obtain⟨c,rfl⟩:∃c:Nat,d=(c:Int):=⟨d.toNat,by omega⟩;have v:w8 [.int (c:Int)]=Z (.ok (((p_ c).map λi:Nat=>(i:Int)).map Q.int)):=by rw[Nb (by omega),uw];simp
 obtain⟨b,f,e,J⟩:=vH a u z m ((p_ c).map λi:Nat=>(i:Int)) (jb a z m 0) 0 0 [] (by simp;omega) rfl ⟨by simp,Y7,by simp,by simp,by omega,by omega,by simp,by simp⟩;have p:((p_ c).map λi:Nat=>(i:Int)).length=c:=by simp
 rw[p]at J;have I:=J.l;refine⟨b,f,?_,J.jar (by omega),by omega,⟨J.g,J.s,J.k,by omega,J.n0,by have:=J.n1;omega,J.m,J.u⟩⟩;refine iI (j:=ej b) ?_;show yy 3 bZ _ [Z (.scr a),Z (.int z),Z (.int m),U,U,U,U,U,U,U,U,U,U,U,U,U]=_;have k:(λj=>Ù ((al (ag ac 3 (bN (Y 0) (Y 1) (R c9 (Y 2) (X 1))))) j) w8) (jb a z m 0)=Z (.ok (((p_ c).map λi:Nat=>(i:Int)).map Q.int)):=by
  have h:(al (ag ac 3 (bN (Y 0) (Y 1) (R c9 (Y 2) (X 1))))) (jb a z m 0)=Z (.ok [.int (c:Int)]):=by simp[Ù,aP,bZ,ag,fC,Y,R,jb,AD,w]
  exact(Fd (k:=w8) h).trans v
 have q:yz 5 [5,6,7,8,9,10,11,12,13,14,15] (λj=>Ù ((al (ag ac 3 (bN (Y 0) (Y 1) (R c9 (Y 2) (X 1))))) j) w8) bI (jb a z m 0) []=Z (.nx (jb a z m f) (b.map Õ)):=by unfold yz;rw[k];show(if â (((p_ c).map λi:Nat=>(i:Int)).map Q.int)=L then _ else U)=_;rw[if_pos (su _)];exact e
 have y:b.length<=100000:=by omega
 have n:yw 3 (á gD (al (Y 3))) (jb a z m f) (b.map Õ)=Z (.rt (ej b)):=by unfold yw;rw[dg (ae (j:=.lst (b.map Õ)) rfl au)];rfl
 have g:(fU (gE 4 (X 0)) (fU (yz 5 [5,6,7,8,9,10,11,12,13,14,15] (λj=>Ù ((al (ag ac 3 (bN (Y 0) (Y 1) (R c9 (Y 2) (X 1))))) j) w8) bI) (yw 3 (á gD (al (Y 3)))))) [Z (.scr a),Z (.int z),Z (.int m),U,U,U,U,U,U,U,U,U,U,U,U,U] []=Z (.rt (ej b)):=by rw[AC (show gE 4 (X 0) [Z (.scr a),Z (.int z),Z (.int m),U,U,U,U,U,U,U,U,U,U,U,U,U] []=Z (.nx (jb a z m 0) [])from rfl)];rw[AC q];exact n
 unfold yy;show(if([]:List Q).length<=100000 then _ else U)=_;rw[if_pos (by simp)];exact(congrArg (λo=>match o with|some (Fo.nx r s)=>Z (Fl.nx (List.set r 3 (Z (Q.lst s))))|some (Fo.rt d)=>Z (Fl.rt d)|none=>U) g).trans rfl
theorem iJ(n:ai):cD [Õ n]=Z (.ok (ek n)):=by simp[cD,bM,Di,aL,c5,Ù,aP,bZ,Y,fC,R,Î,Ă,eI,Õ,ek]
theorem sw:∀a:List ai,mq (a.map ek)=Z (a.map key)|[]=>rfl|n::a=>by show(match c7 [.str n.nm,.str n.house,.str n.path],mq (a.map ek)with|some k,Z b=>Z (k::b)|_,_=>U)=_;rw[sw a];rfl
theorem DD(J:ņ i):cC [ej i]=bo L:=by
 have f:=J.l;have d:c6 1 [] (gz (Y 0)) (gN 0) U (ag cD 1 (al (Y 0))) [Z (ej i),U]=Z (.ok (.lst (i.map ek))):=se Õ ek (kr rfl) (by omega) λn e=>fK cD rfl (iJ n);have b:mr [.lst (i.map ek)]=Z (.ok (.int (i.length:Int))):=by show(match mq (i.map ek)with|some a=>if a.Nodup/\a.length<=20 then(Z (.ok (.int (a.length:Nat))):Option (Rs Q))else U|none=>U)=_;rw[sw];dsimp only;rw[if_pos ⟨J.k,by simp;omega⟩,P_]
 refine iI ?_;show bR [Z (ej i),U]=_;unfold bR;rw[ay (bV (a:=[Z (ej i),Z (.lst (i.map ek))]) d rfl)];refine eQ ((bb ((dg (ae (j:=.lst (i.map ek)) rfl au)).trans b) (μ:=.int i.length) (by show Z (Rs.ok (Q.int ((i.map ek).length:Int)))=_;rw[P_])).trans ?_);show Z (Rs.ok (Q.bl ((i.length:Int)==(i.length:Int))))=_;simp
theorem all_map(p:ε->Bool)(l:List ε):o8 [.lst (l.map λa=>Q.bl (p a))]=bo (l.all p):=by unfold o8;dsimp only;rw[mQ p l];dsimp only;rw[List.all_map];rfl
theorem vI(l:List ε):o8 [.lst (l.map λ_=>Q.bl L)]=bo L:=by rw[all_map (λ_=>L) l];simp
theorem NX(h:b<i.length):Î (ej i) (.int b)=Z (.ok (Õ i[b])):=by show(match Ă (i.map Õ) (b:Int)with|some d=>_|none=>_)=_;unfold Ă;rw[if_pos (by omega)];simp[h]
theorem NY(n:ai):Î (Õ n) (.int 8)=Z (.ok (.int n.md)):=rfl
theorem NZ(a:List ai)(d:a.length<=20):(λb=>Ù ((bJ (X 1) (á fJ (al (Y 0)))) b) Bk) [Z (ej a)]=Z (.ok ((p_ (a.length-1)).map λi:Nat=>Q.int (1+(i:Int)))):=by
 have h:(bJ (X 1) (á fJ (al (Y 0)))) [Z (ej a)]=Z (.ok [.int 1,.int a.length]):=by simp[Ù,aP,bZ,á,fC,Y,ej,fJ]
 refine(Fd (k:=Bk) h).trans ?_;rw[Na (by omega),uw,show((a.length:Int)-1).toNat=a.length-1 by omega]
def Sh:Ò:=(R Ĳ (R Î (R Î (Y 1) (R kG (Y 0) (X 1))) (X 8)) (R Î (R Î (Y 1) (Y 0)) (X 8)))
theorem IW(J:ņ i){a:Nat}(b:a+1<i.length):Sh [Z (.int (1+(a:Int))),Z (ej i)]=Z (.ok (.bl L)):=by
 have d:=J.s a b;have g:R Î (Y 1) (R kG (Y 0) (X 1)) [Z (.int (1+(a:Int))),Z (ej i)]=Z (.ok (Õ i[a])):=by have q:=NX (i:=i) (b:=a) (by omega);rw[show(a:Int)=1+(a:Int)-1 by omega]at q;exact q
 have f:R Î (Y 1) (Y 0) [Z (.int (1+(a:Int))),Z (ej i)]=Z (.ok (Õ i[a+1])):=by have q:=NX (i:=i) (b:=a+1) b;rw[show((a+1:Nat):Int)=1+(a:Int)by omega]at q;exact q
 have e:Ĳ (.int i[a].md) (.int i[a+1].md)=Z (.ok (.bl L)):=by simp[Ĳ,d]
 exact(bb ((bb g rfl).trans (NY _)) ((bb f rfl).trans (NY _))).trans e
theorem Rg(J:ņ i):dq [("notes",0)] (λb=>Ù ((bJ (X 1) (á fJ (al (Y 0)))) b) Bk) U Sh [Z (ej i)]=Z (.ok (.lst ((p_ (i.length-1)).map λ_=>Q.bl L))):=kn (λa:Nat=>Q.int (1+(a:Int))) (λ_=>Q.bl L) (NZ i J.l) (by have:=J.l;rw[WQ];omega) λa d=>IW J (by have:=TX.mp d;omega)
theorem IX(J:ņ i):gI [ej i]=bo L:=iI (j:=.bl L) (eQ ((dg (ae (Rg J) au)).trans (vI _)))
theorem t_a(J:ņ i):dq [] (gz (Y 0)) U (ag gg 1 (al (Y 0))) [Z (ej i)]=Z (.ok (.lst (i.map λ_=>Q.bl L))):=kn Õ (λ_=>Q.bl L) (kr rfl) (by have:=J.l;omega) λn a=>fK gg rfl (NT (J.g n a))
theorem t_b(J:ņ i):(Ĉ (cF (fB (f1 (jR sX) (Y 0)))) (fB (R Ŋ (á fJ (al (Y 0))) (X 20)))) [Z (ej i)]=Z (.ok D):=by
 have a:¬(20<(i.length:Int)):=by have:=J.l;omega
 simp[Ĉ,cF,fB,f1,R,jR,sX,Y,Ù,Ą,á,aP,bZ,fC,ej,fJ,Ps,a]
theorem t_c(J:ņ i):á o8 (al (dq [] (gz (Y 0)) U (ag gg 1 (al (Y 0))))) [Z (ej i)]=bo L:=(dg (ae (t_a J) au)).trans (vI i)
theorem t_d(J:ņ i):ka [Z (ej i)]=Z (.rt (.bl L)):=by unfold ka;rw[ay (cp (t_b J))];rw[ay (cp (kK (H:=L) (bi (t_c J))))];refine eQ ?_;rw[Eu (fK gI rfl (IX J))];exact fK cC rfl (DD J)
theorem wU(J:ņ i):kc [ej i]=bo L:=iI (j:=.bl L) (t_d J)
abbrev zz1:à:=(ni (Y 0) (Y 1) (Y 2) (Y 3) (Y 4))
abbrev zz2:à:=(nQ (Y 0) (Y 2) (Y 3) (Y 4))
theorem qm(n:ai)(k:Int):bB [Õ n,.int k]=bo (Ė n k):=by cases h:n.ends<;>simp[bB,bM,iw,sq,aL,Pm,c5,Ù,Ą,Y,fC,R,Î,Ă,jU,nW,Õ,eO,Ė,h,Ĳ]
theorem IY:(ï.all λp=>ï.all λq=>KE (bT [.str p,.str q]))=L:=by lk
theorem Rh(h:d∈ï)(a:o∈ï):∃k,bT [.str d,.str o]=bo k:=EU (aX (p:=λo=>KE (bT [.str d,.str o])) (aX (p:=λd=>ï.all λo=>KE (bT [.str d,.str o])) IY h) a)
def Ÿ(p q:Str):Bool:=Ń (aD [.str p,.str q])
def unB(p q:Str):Bool:=Ń (bT [.str p,.str q])
theorem IZ(h:d∈En)(a:o∈En):aD [.str d,.str o]=bo (Ÿ d o):=by obtain⟨k,e⟩:=Sa h a;unfold Ÿ;rw[e];cases k<;>rfl
theorem Ri(h:d∈ï)(a:o∈ï):bT [.str d,.str o]=bo (unB d o):=by obtain⟨k,e⟩:=Rh h a;unfold unB;rw[e];cases k<;>rfl
def I0(o N:ai)(a:Int):Bool:=o.S&&(!Ė o a&&(seq o.nm N.nm&&((Ÿ N.house o.house||Ÿ o.house N.house)&&unB N.path o.path)))
theorem i0(n:ai):Î (Õ n) (.int 0)=Z (.ok (.str n.nm)):=rfl
theorem i2(n:ai):Î (Õ n) (.int 2)=Z (.ok (.str n.house)):=rfl
theorem i4(n:ai):Î (Õ n) (.int 4)=Z (.ok (.str n.path)):=rfl
theorem i6(n:ai):Î (Õ n) (.int 6)=Z (.ok (.bl n.S)):=rfl
theorem Fe(a:Μ δ=Z (.ok H)):aK (br Μ (aL (fC (.bl D))) ê) Ρ δ=if H=L then Z (.rt (.bl D))else Ρ δ:=by unfold aK br;rw[a];cases H<;>rfl
theorem Ff{b:æ}(d:Μ δ=Z (.ok H))(a:b δ=Z (.ok Ä)):l7 Μ b δ=Z (.ok (H&&Ä)):=by
 unfold l7;rw[d];cases H;·rfl
 ·exact a
theorem oN(a:Μ δ=Z (.ok H)):cF Μ δ=Z (.ok (!H)):=by unfold cF;rw[a];rfl
theorem wV{N:ai}(b:ç π)(d:ç N)(a:Int):je [Õ π,Õ N,.int a]=bo (I0 π N a):=by have f:=IZ d.house b.house;have e:=IZ b.house d.house;have g:=Ri d.path b.path;have i:(Ĉ (cF (fB (R Î (Y 0) (X 6)))) (Ĉ (fB (ag bB 2 (bJ (Y 0) (Y 2)))) (fB (R ċ (R Î (Y 0) (X 0)) (R Î (Y 1) (X 0)))))) [Z (Õ π),Z (Õ N),Z (.int a)]=Z (.ok (!π.S||(Ė π a||!seq π.nm N.nm))):=Fc (oN (bi (H:=π.S) ((bb (j:=Õ π) (μ:=.int 6) rfl rfl).trans (i6 π)))) (Fc (bi (gO bB rfl rfl (qm π a))) (bi ((bb (j:=.str π.nm) (μ:=.str N.nm) rfl rfl).trans rfl)));have h:(l7 (cF (fB (ag aD 2 (bJ (R Î (Y 1) (X 2)) (R Î (Y 0) (X 2)))))) (cF (fB (ag aD 2 (bJ (R Î (Y 0) (X 2)) (R Î (Y 1) (X 2))))))) [Z (Õ π),Z (Õ N),Z (.int a)]=Z (.ok (!Ÿ N.house π.house&&!Ÿ π.house N.house)):=Ff (oN (bi (gO aD rfl rfl f))) (oN (bi (gO aD rfl rfl e)));refine iI ?_;show jd [Z (Õ π),Z (Õ N),Z (.int a)]=_;unfold jd;rw[Fe i,Fe h,Nv (gO bT rfl rfl g)];unfold I0;cases π.S<;>cases Ė π a<;>cases seq π.nm N.nm<;>cases Ÿ N.house π.house<;>cases Ÿ π.house N.house<;>rfl
theorem any_map(p:ε->Bool)(l:List ε):Hb [.lst (l.map λa=>Q.bl (p a))]=bo (l.any p):=by show(match jX (l.map λa=>Q.bl (p a))with|some bs=>Z (Rs.ok (Q.bl (bs.any id)))|none=>U)=_;rw[mQ];simp
def wv(b:Q)(s:Bool)(e:List ai)(N:ai)(a:Int):Q:=match b with|.non=>if(!s&&e.any λo=>I0 o N a)=L then .str "shadowed"else if Ė N a=L then .str "gone"else .str "kept"|d=>d
theorem Fg(a:Μ δ=Z (.ok H)):aK (br Μ (aL (fC j)) ê) Ρ δ=if H=L then Z (.rt j)else Ρ δ:=by unfold aK br;rw[a];cases H<;>rfl
theorem N0{w:Str}{l:Q}{R:Str}{a b:Str}{m:Bool}{f:Q}(W:Wt E d o j ζ w μ Γ Κ l H R Ä a b m f)(k:f≠.non):bq [.tup E,ej i,ü Ä d o j,ā ζ w μ Γ Κ l H R,.int n]=Z (.ok f):=by
 obtain⟨x,h⟩:∃x,f=.str x:=by
  rcases W.win with e|⟨x,_,e⟩;·exact absurd e k
  ·exact⟨_,e⟩
 subst h;refine lF ?_;show eY [Z (.tup E),Z (ej i),Z (ü Ä d o j),Z (ā ζ w μ Γ Κ l H R),Z (.int n),U,U]=_;unfold eY;have g:aF bw 3 (bN (Y 0) (Y 2) (Y 3)) [Z (.tup E),Z (ej i),Z (ü Ä d o j),Z (ā ζ w μ Γ Κ l H R),Z (.int n),U,U]=Z (.ok (.str x)):=cE bw (ae rfl (ae rfl (ae rfl au))) rfl W.why;rw[ay (bV g rfl)];simp only[VS,VR];rfl
theorem N1{w:Str}{l:Q}{b:Str}{h k:Str}{m:Bool}(v:E∈kZ ë)(a:Ak d o j)(g:Gv ζ w μ Γ Κ l H b)(u:0<=n)(s:n<=9999)(W:Wt E d o j ζ w μ Γ Κ l H b Ä h k m .non)(z:Õ π=ntn ζ w h m k (Fa Κ l n) H b n)(I:ç π)(A:∀f∈i,ç f)(hl:i.length<=20):bq [.tup E,ej i,ü Ä d o j,ā ζ w μ Γ Κ l H b,.int n]=Z (.ok (wv .non Ä i π n)):=by
 have p:=Fb v a g u s W;rw[<-z]at p;refine lF ?_;show eY [Z (.tup E),Z (ej i),Z (ü Ä d o j),Z (ā ζ w μ Γ Κ l H b),Z (.int n),U,U]=_;unfold eY;have r:aF bw 3 (bN (Y 0) (Y 2) (Y 3)) [Z (.tup E),Z (ej i),Z (ü Ä d o j),Z (ā ζ w μ Γ Κ l H b),Z (.int n),U,U]=Z (.ok .non):=cE bw (ae rfl (ae rfl (ae rfl au))) rfl W.why;rw[ay (bV r rfl)];simp only[VS,VR];rw[ay (cp (show fB (R nW (Y 5) (fC .non)) [Z (.tup E),Z (ej i),Z (ü Ä d o j),Z (ā ζ w μ Γ Κ l H b),Z (.int n),Z .non,U]=Z (.ok D)from rfl))];have q:aF dv 4 (nQ (Y 0) (Y 2) (Y 3) (Y 4)) [Z (.tup E),Z (ej i),Z (ü Ä d o j),Z (ā ζ w μ Γ Κ l H b),Z (.int n),Z .non,U]=Z (.ok (Õ π)):=cE dv (ae rfl (ae rfl (ae rfl (ae rfl au)))) rfl p;rw[ay (bV q rfl)];simp only[VS,VR];have P:(l7 (cF (fB (R Î (Y 2) (X 0)))) (fB (á Hb (al (dq [("now",4),("note",6)] (gz (Y 1)) U (ag je 3 (bN (Y 0) (Y 2) (Y 1)))))))) [Z (.tup E),Z (ej i),Z (ü Ä d o j),Z (ā ζ w μ Γ Κ l H b),Z (.int n),Z .non,Z (Õ π)]=Z (.ok (!Ä&&i.any λe=>I0 e π n)):=by refine Ff (oN (bi (H:=Ä) rfl)) (bi ((dg (ae (j:=.lst (i.map λe=>Q.bl (I0 e π n))) ?_ au)).trans (any_map _ _)));exact kn Õ (λe=>Q.bl (I0 e π n)) (kr rfl) (by omega) λe y=>nI je rfl rfl rfl (wV (A e y) I n)
 rw[Fg P];have N:fB (ag bB 2 (bJ (Y 6) (Y 4))) [Z (.tup E),Z (ej i),Z (ü Ä d o j),Z (ā ζ w μ Γ Κ l H b),Z (.int n),Z .non,Z (Õ π)]=Z (.ok (Ė π n)):=bi (gO bB rfl rfl (qm π n));rw[Fg N];show _=Z (Fl.rt (if(!Ä&&i.any λe=>I0 e π n)=L then .str "shadowed"else if Ė π n=L then .str "gone"else .str "kept"));split;·rfl
 ·split<;>rfl
def JG(a:List ai)(n:ai):List ai:=match a.filter (λo=>t_ (key o=key n))with|[]=>a++[n]|o::_=>a.map λx=>if key x=key n then{n with md:=o.md}else x
theorem N2(n:∀o∈i,ç o)(u:ç π)(w:i.length<=20):Dk [ej i,Õ π]=Z (.ok (ej (JG i π))):=by have m:∀o∈i,∀(r:Ev),(fB (R ß (ag cD 1 (al (Y 0))) (ag cD 1 (al (Y 1))))) (Z (Õ o)::Z (Õ π)::r)=Z (.ok (t_ (key o=key π))):=λo b r=>bi ((bb (fK cD rfl (iJ o)) (fK cD rfl (iJ π))).trans (IT (n o b) u).1);have g:=wS (d:=[("note",1)]) (ν:=gz (Y 0)) (Μ:=(fB (R ß (ag cD 1 (al (Y 0))) (ag cD 1 (al (Y 1)))))) (y:=Y 0) (δ:=[Z (ej i),Z (Õ π),U,U]) Õ (λo=>t_ (key o=key π)) Õ (kr rfl) (by omega) λo b=>⟨m o b [],rfl⟩;unfold JG;cases f:i.filter (λo=>t_ (key o=key π))with
 |nil=>
 rw[f]at g;refine iI (j:=ej (i++[π])) ?_;show tY [Z (ej i),Z (Õ π),U,U]=_;unfold tY;rw[ay (bV g rfl)];simp only[VS,VR];refine mh ?_;rw[wF (by lk)];refine eQ ?_;have k:i.length+1<=100000:=by omega
 simp[Ù,aP,bZ,Y,R,eI,ej,c9,k]|cons o rest=>
 rw[f]at g;have b:o∈i:=(Ui.mp (f▸q_:o∈i.filter _)).1;refine iI (j:=ej (i.map λx=>if key x=key π then{π with md:=o.md}else x)) ?_;show tY [Z (ej i),Z (Õ π),U,U]=_;unfold tY;rw[ay (bV g rfl)];simp only[VS,VR];have j:(fB (R ß (Y 2) (gB bZ))) [Z (ej i),Z (Õ π),Z (.lst ((o::rest).map Õ)),U]=Z (.ok D):=by
  have q:Ę 2 (.lst ((o::rest).map Õ)):=vA λd s=>by
   obtain⟨x,h,rfl⟩:=R_.mp s;have:x∈i.filter (λo=>t_ (key o=key π)):=by rw[f];exact h
   exact AB (n x (Ui.mp this).1)
  have i2:=q.okP (by omega);have p:okP (.lst [])=L:=by lk
  have i4:ß (.lst ((o::rest).map Õ)) (.lst [])=bo D:=by unfold ß;rw[show Ŕ (.lst ((o::rest).map Õ)) (.lst [])=U from rfl,i2,p];simp[fZ,ò,UL,Vr]
  exact bi i4
 rw[ay (cp j)];have a:(R c9 (R c9 (lz (Y 1) gM (eE (X 8))) (eI (al (R Î (R Î (Y 2) (X 0)) (X 8))))) (lz (Y 1) (eE (R c9 (X 8) (X 1))) gM)) [Z (ej i),Z (Õ π),Z (.lst ((o::rest).map Õ)),U]=Z (.ok (Õ {π with md:=o.md})):=by lk
 rw[ay (bV a rfl)];simp only[VS,VR];refine eQ ?_;have v:=kn (d:=[("note",1),("newer",3)]) (ν:=gz (Y 0)) (y:=(Ŀ (fB (R ß (ag cD 1 (al (Y 0))) (ag cD 1 (al (Y 1))))) (Y 2) (Y 0))) (δ:=[Z (ej i),Z (Õ π),Z (.lst ((o::rest).map Õ)),Z (Õ {π with md:=o.md})]) Õ (λx=>Õ (if key x=key π then{π with md:=o.md}else x)) (kr rfl) (by omega) λx h=>by
  have t:=m x h [Z (Õ {π with md:=o.md})];by_cases e:key x=key π;·rw[if_pos e];rw[decide_eq_true e]at t;exact(PK t).trans rfl
  ·rw[if_neg e];rw[decide_eq_false e]at t;exact(PM t).trans rfl
 rw[dg (ae v au)];show Z (Rs.ok (Q.tup _))=_;simp[ej]
def Ē(b:List ai)(a:Int):List ai:=b.filter λn=>!Ė n a
theorem oO(d:i.length<=20):bx [ej i,.int n]=Z (.ok (ej (Ē i n))):=by refine iI ?_;show cO [Z (ej i),Z (.int n)]=_;unfold cO;refine eQ ?_;have e:(dq [("now",1)] (gz (Y 0)) (Z (cF (fB (ag bB 2 (bJ (Y 0) (Y 1)))))) (Y 0)) [Z (ej i),Z (.int n)]=Z (.ok (.lst ((Ē i n).map Õ))):=jh Õ _ Õ (kr rfl) (by omega) λa b=>⟨oN (bi (gO bB rfl rfl (qm a n))),rfl⟩;exact(dg (ae e au)).trans rfl
def E8(T:Q)(f:List ai)(A g:Q)(a:Int)(e d b:Option Q):Ev:=[Z T,Z (ej f),Z A,Z g,Z (.int a),e,d,b]
theorem qo(e:i.length<=20)(d:bq [j,ej i,μ,Γ,.int n]=Z (.ok Κ)){f:Û}{r:Option Fl}(h:f (E8 j i μ Γ n (Z Κ) (Z (ej (Ē i n))) U)=r):aK (cy 5 (aF bq 5 zz1)) (aK (cy 6 (ag bx 2 (bJ (Y 1) (Y 4)))) f) (E8 j i μ Γ n U U U)=r:=by have b:cy 5 (aF bq 5 zz1) (E8 j i μ Γ n U U U)=Z (.nx (E8 j i μ Γ n (Z Κ) U U)):=bV (cE bq (ae rfl (ae rfl (ae rfl (ae rfl (ae rfl au))))) rfl d) rfl;have a:cy 6 (ag bx 2 (bJ (Y 1) (Y 4))) (E8 j i μ Γ n (Z Κ) U U)=Z (.nx (E8 j i μ Γ n (Z Κ) (Z (ej (Ē i n))) U)):=bV (gO bx rfl rfl (oO e)) rfl;rw[ay b,ay a];exact h
theorem AF:(Ē i n).length<=i.length:=Vl _ _
theorem oP(b:i.length<=20)(a:bq [j,ej i,μ,Γ,.int n]=Z (.ok Κ))(d:ß Κ (.str "kept")=bo D)(e:ß Κ (.str "gone")=bo D):bP [j,ej i,μ,Γ,.int n]=Z (.ok (ej (Ē i n))):=by refine lF ?_;show cY (E8 j i μ Γ n U U U)=_;unfold cY;refine qo b a ?_;have g:fB (R ß (Y 5) (Ï "kept")) (E8 j i μ Γ n (Z Κ) (Z (ej (Ē i n))) U)=Z (.ok D):=bi ((bb (j:=Κ) (μ:=.str "kept") rfl rfl).trans d);have f:fB (R ß (Y 5) (Ï "gone")) (E8 j i μ Γ n (Z Κ) (Z (ej (Ē i n))) U)=Z (.ok D):=bi ((bb (j:=Κ) (μ:=.str "gone") rfl rfl).trans e);rw[ay (cp g),ay (cp f)];rfl
theorem AG(b:i.length<=20)(f:∀a∈i,ç a)(g:ç π)(d:bq [j,ej i,μ,Γ,.int n]=Z (.ok (.str "kept")))(h:dv [j,μ,Γ,.int n]=Z (.ok (Õ π))):bP [j,ej i,μ,Γ,.int n]=Z (.ok (ej (JG (Ē i n) π))):=by refine lF ?_;show cY (E8 j i μ Γ n U U U)=_;unfold cY;refine qo b d ?_;have k:fB (R ß (Y 5) (Ï "kept")) (E8 j i μ Γ n (Z (.str "kept")) (Z (ej (Ē i n))) U)=Z (.ok L):=bi ((bb (j:=.str "kept") (μ:=.str "kept") rfl rfl).trans (by lk));refine mh ?_;rw[wF k];have v:aF dv 4 zz2 (E8 j i μ Γ n (Z (.str "kept")) (Z (ej (Ē i n))) U)=Z (.ok (Õ π)):=cE dv (ae rfl (ae rfl (ae rfl (ae rfl au)))) rfl h;exact eQ (gO Dk rfl v (N2 (λo e=>f o (Ui.mp e).1) g (TU AF b)))
theorem Rj{o:ai}(a:ç o)(b:ç π):ċ (ek o) (ek π)=bo (!t_ (key o=key π)):=(IT a b).2
theorem AH(b:i.length<=20)(h:∀a∈i,ç a)(k:ç π)(f:bq [j,ej i,μ,Γ,.int n]=Z (.ok (.str "gone")))(m:dv [j,μ,Γ,.int n]=Z (.ok (Õ π))):bP [j,ej i,μ,Γ,.int n]=Z (.ok (ej ((Ē i n).filter λo=>!t_ (key o=key π)))):=by have r:(Ē i n).length<=20:=TU AF b;refine lF ?_;show cY (E8 j i μ Γ n U U U)=_;unfold cY;refine qo b f ?_;have q:fB (R ß (Y 5) (Ï "kept")) (E8 j i μ Γ n (Z (.str "gone")) (Z (ej (Ē i n))) U)=Z (.ok D):=bi ((bb (j:=.str "gone") (μ:=.str "kept") rfl rfl).trans (by lk));have p:fB (R ß (Y 5) (Ï "gone")) (E8 j i μ Γ n (Z (.str "gone")) (Z (ej (Ē i n))) U)=Z (.ok L):=bi ((bb (j:=.str "gone") (μ:=.str "gone") rfl rfl).trans (by lk));rw[ay (cp q)];refine mh ?_;rw[wF p];have v:aF dv 4 zz2 (E8 j i μ Γ n (Z (.str "gone")) (Z (ej (Ē i n))) U)=Z (.ok (Õ π)):=cE dv (ae rfl (ae rfl (ae rfl (ae rfl au)))) rfl m;have d:cy 7 (ag cD 1 (al (aF dv 4 zz2))) (E8 j i μ Γ n (Z (.str "gone")) (Z (ej (Ē i n))) U)=Z (.nx (E8 j i μ Γ n (Z (.str "gone")) (Z (ej (Ē i n))) (Z (ek π)))):=bV (fK cD v (iJ π)) rfl;rw[ay d];refine eQ ?_;have e:(dq [("ended",7)] (gz (Y 6)) (Z (fB (R ċ (ag cD 1 (al (Y 0))) (Y 1)))) (Y 0)) (E8 j i μ Γ n (Z (.str "gone")) (Z (ej (Ē i n))) (Z (ek π)))=Z (.ok (.lst (((Ē i n).filter λo=>!t_ (key o=key π)).map Õ))):=jh Õ (λo=>!t_ (key o=key π)) Õ (kr rfl) (by omega) λo g=>⟨bi ((bb (j:=ek o) (μ:=ek π) (fK cD rfl (iJ o)) rfl).trans (Rj (h o (Ui.mp g).1) k)),rfl⟩;exact(dg (ae e au)).trans rfl
theorem N3(h:kc [j]=bo L):bp [j]=Z (.ok .non):=by simp[bp,gA,iu,br,c5,Ù,cF,fB,Ą,ag,aP,bZ,Y,h]
theorem dY(F:Ö){a:Q}{f:Ò}{b:Ev}(d:f b=Z (.ok a))(h:F [a]=Z (.ok .non)):eD (aF F 1 (al f)) b=Z (.nx b):=lG (cE F (ae d au) rfl h)
theorem dX(F:Ö){a:Q}{f:Ò}{d:Ev}(e:f d=Z (.ok a))(h:F [a]=Z (.exc b)):eD (aF F 1 (al f)) d=Z (.exc b):=SZ (cE F (ae e au) rfl h)
def E6(T a A X N:Q)(x:Option Q):Ev:=[Z T,Z a,Z A,Z X,Z N,x]
theorem rwy{N:Q}(g:cz [j]=bo L)(f:kc [Κ]=bo L)(e:iz [μ]=bo L){a:Q}(d:aT [Γ]=Z (.ok a))(h:bc [N]=bo L):aw [j,Κ,μ,Γ,N]=Z (.ok a):=lF (by show bz (E6 j Κ μ Γ N U)=_;unfold bz;rw[ay (dY aW rfl (Q1 g)),ay (dY bp rfl (N3 f)),ay (dY cP rfl (Q2 e))];have b:cy 5 (aF aT 1 (al (Y 3))) (E6 j Κ μ Γ N U)=Z (.nx (E6 j Κ μ Γ N (Z a))):=bV (cE aT (ae rfl au) rfl d) rfl;rw[ay b,ay (dY bG rfl (IG h))];rfl)
def E7(T:Q)(e:List ai)(A X:Q)(a:Int)(d b:Option Q):Ev:=[Z T,Z (ej e),Z A,Z X,Z (.int a),d,b]
theorem AI{b a:_}(g:b.length<=20){e d:Option Q}:fB (á Hb (al (dq [("now",4)] (gz (Y 1)) U (R Ŋ (R Î (Y 0) (X 9)) (Y 1))))) (E7 j b μ Γ a e d)=Z (.ok (b.any λo=>t_ (o.us>a))):=by refine bi ((dg (ae (j:=.lst (b.map λo=>Q.bl (t_ (o.us>a)))) ?_ au)).trans (any_map _ _));exact kn Õ (λo=>Q.bl (t_ (o.us>a))) (kr rfl) (by omega) λo f=>(bb (j:=.int o.us) (μ:=.int a) rfl rfl).trans rfl
theorem s5T{b a d:_}(e:aw [j,ej b,μ,Γ,.int a]=Z (.ok d)):cy 5 (aF aw 5 zz1) (E7 j b μ Γ a U U)=Z (.nx (E7 j b μ Γ a (Z d) U)):=bV (cE aw (ae rfl (ae rfl (ae rfl (ae rfl (ae rfl au))))) rfl e) rfl
theorem DE{b a e:_}(n:b.length<=20)(m:aw [j,ej b,μ,Γ,.int a]=Z (.ok e))(h:(b.any λo=>t_ (o.us>a))=D)(k:bP [j,ej b,μ,e,.int a]=Z (.ok (ej i)))(q:i.length<=20):fm [j,ej b,μ,Γ,.int a]=Z (.ok (ej i)):=lF (by
 show iB (E7 j b μ Γ a U U)=_;unfold iB;rw[ay (s5T m)];have c:=AI (j:=j) (μ:=μ) (Γ:=Γ) (a:=a) (e:=Z e) (d:=U) n;rw[h]at c;rw[ay (cp c)];have f:cy 6 (aF bP 5 (ni (Y 0) (Y 1) (Y 2) (Y 5) (Y 4))) (E7 j b μ Γ a (Z e) U)=Z (.nx (E7 j b μ Γ a (Z e) (Z (ej i)))):=bV (cE bP (ae rfl (ae rfl (ae rfl (ae rfl (ae rfl au))))) rfl k) rfl;have g:ah [ej i]=Z (.ok .non):=by
  have:¬((i.length:Int)>20):=by omega
  unfold ah gA;show(match aj [Z (ej i)]with|some (.nx _)=>Z (Rs.ok Q.non)|some (.rt d)=>Z (Rs.ok d)|some (.exc c)=>Z (Rs.exc c)|none=>U)=_;unfold aj;have p:fB (R Ŋ (á fJ (al (Y 0))) (X 20)) [Z (ej i)]=Z (.ok D):=by
   refine bi ((bb (j:=.int (i.length:Int)) (μ:=.int 20) ((dg (ae (j:=ej i) rfl au)).trans ?_) rfl).trans ?_);·show Z (Rs.ok (Q.int ((i.map Õ).length:Int)))=_;rw[P_]
   ·show Z (Rs.ok (Q.bl (t_ ((i.length:Int)>20))))=_;rw[decide_eq_false this]
  rw[cp p]
 rw[ay f,ay (dY ah rfl g)];rfl)
theorem Rk(g:Gv d o j μ Γ Κ H ζ)(b:0<=n):∃e:Option Int,eO e=Fa Γ Κ n/\∀i,e=Z i->0<=i/\i<=9999:=by
 rcases NS g b with q|⟨i,m,k,q⟩;·exact⟨U,q.symm,λi h=>by cases h⟩
 ·exact⟨Z i,q.symm,λa f=>by cases f;exact⟨m,k⟩⟩
theorem Ja{w:Str}{l:Q}{R:Str}{a b:Str}{f:Bool}{i:Q}(g:Gv ζ w μ Γ Κ l H R)(W:Wt E d o j ζ w μ Γ Κ l H R Ä a b f i)(h:0<=n)(k:n<=200):∃N:ai,Õ N=ntn ζ w a f b (Fa Κ l n) H R n/\ç N/\N.us=n/\N.md=n:=by obtain⟨e,m,p⟩:=Rk (n:=n) g h;refine⟨⟨ζ,w,a,f,b,e,H,R,n,n⟩,?_,⟨g.nm,g.w,W.hs,W.ph,g.r,p,h,Int.le_refl _,k⟩,rfl,rfl⟩;show Q.tup [.str ζ,.str w,.str a,.bl f,.str b,eO e,.bl H,.str R,.int n,.int n]=_;rw[m]
structure JS(now:Int)(Y:List ai):Prop where
 g:∀n∈Y,ç n
 s:Y.Pairwise λa b=>a.md<=b.md
 k:(Y.map key).Nodup
 u:∀n∈Y,n.us<=now
theorem JS.jar(h:JS n i)(l:i.length<=20):ņ i:=⟨h.g,λa b=>VV.mp h.s a (a+1) (by omega) b (by omega),h.k,l⟩
theorem JS.nil{a:Int}:JS a []:=⟨by simp,.nil,by simp,by simp⟩
theorem JS.later(h:JS n i)(q:n<=Ω):JS Ω i:=⟨h.g,h.s,h.k,λa b=>by have:=h.u a b;omega⟩
theorem JS.filt(p:ai->Bool)(h:JS n i):JS n (i.filter p)where g:=λa q=>h.g a (Ui.mp q).1;s:=h.s.sublist Yu;k:=h.k.sublist (Yu.map key);u:=λa q=>h.u a (Ui.mp q).1
theorem JS.put(h:JS n i)(m:ç π)(hu:π.us=n)(hm:π.md=n):JS n (JG i π)/\(JG i π).length<=i.length+1:=by
 unfold JG;split
 · rename_i y;have P:∀x∈i,key x≠key π:=λx w e=>by have:x∈i.filter (λo=>t_ (key o=key π)):=Ui.mpr ⟨w,by simpa using e⟩;rw[y]at this;cases this
   refine⟨⟨λd q=>?_,?_,?_,λd q=>?_⟩,by simp⟩
   · rcases TH.mp q with q|q;·exact h.g d q
     ·rw[M_.mp q];exact m
   ·refine aac.mpr ⟨h.s,Xs ..,λa u b v=>?_⟩;rw[M_.mp v];have:=h.u a u;have:=(h.g a u).mu;omega
   · rw[UH];refine V4.mpr ⟨h.k,Xs ..,λa u b v e=>?_⟩;obtain⟨x,w,rfl⟩:=R_.mp u;have:b=key π:=by simpa using v
     exact P x w (e.trans this)
   · rcases TH.mp q with q|q;·exact h.u d q
     ·rw[M_.mp q];omega
 · rename_i k r1 y;have r:k∈i.filter (λo=>t_ (key o=key π)):=by rw[y];exact q_
   have p:=(Ui.mp r).1;have s:key k=key π:=by simpa using(Ui.mp r).2
   have one:∀z∈i,key z=key π->z=k:=λz g e=>by
    have nd:=h.k;obtain⟨f,I,rfl⟩:=aas g;obtain⟨j,H,A⟩:=aas p;have E:=VV.mp nd;rcases Y4 f j with q|q|q;·exact(E f j (by simpa using I) (by simpa using H) q (by rw[W5,W5,A,s,e])).elim
    ·subst q;exact A
    ·exact(E j f (by simpa using H) (by simpa using I) q (by rw[W5,W5,A,s,e])).elim
   have md:∀z∈i,(if key z=key π then({π with md:=k.md}:ai)else z).md=z.md:=λz g=>by
    split;·rename_i e;rw[one z g e]
    ·rfl
   have ky:∀z∈i,key (if key z=key π then({π with md:=k.md}:ai)else z)=key z:=λz g=>by
    split;·rename_i e;exact e.symm
    ·rfl
   have N:=h.g k p;have u1:=h.u k p;refine⟨⟨λd q=>?_,?_,?_,λd q=>?_⟩,by simp⟩
   · obtain⟨z,g,rfl⟩:=R_.mp q;split;·exact⟨m.nm,m.w,m.house,m.path,m.R,m.ends,N.mk0,by show k.md<=π.us;have:=N.mu;omega,m.us⟩
     ·exact h.g z g
   ·rw[XS];exact h.s.imp_of_mem λ{a b}ha hb q=>by rw[md a ha,md b hb];exact q
   ·rw[UQ];have e:i.map (key∘λz=>if key z=key π then({π with md:=k.md}:ai)else z)=i.map key:=U6 λz g=>ky z g;rw[e];exact h.k
   · obtain⟨z,g,rfl⟩:=R_.mp q;split;·show π.us<=n;omega
     ·exact h.u z g
noncomputable def ű:List Str:=[b_ "foreign",b_ "open",b_ "unsafe",b_ "marked",b_ "far",b_ "shadowed",b_ "gone",b_ "kept"]
theorem AJ:∀x:Str,x∈[b_ "foreign",b_ "open",b_ "unsafe",b_ "marked",b_ "far",b_ "shadowed"]->ß (.str x) (.str "kept")=bo D/\ß (.str x) (.str "gone")=bo D:=by intro x a;simp only[uk,TD,or_false]at a;rcases a with rfl|rfl|rfl|rfl|rfl|rfl<;>exact⟨by lk,by lk⟩
theorem Jb{w:Str}{l:Q}{R:Str}(s:E∈kZ ë)(a:Ak d o j)(g:Gv ζ w μ Γ Κ l H R)(k:JS n i)(e:i.length<=20)(r:0<=n)(P:n<=200):∃(x:Str)(m:List ai),x∈ű/\bq [.tup E,ej i,ü Ä d o j,ā ζ w μ Γ Κ l H R,.int n]=Z (.ok (.str x))/\bP [.tup E,ej i,ü Ä d o j,ā ζ w μ Γ Κ l H R,.int n]=Z (.ok (ej m))/\JS n m/\m.length<=21:=by
 obtain⟨z,I,ex,wd,W⟩:=Q3 s a g Ä;have sl:(Ē i n).length<=20:=TU AF e;have h:JS n (Ē i n):=k.filt _;rcases W.win with rfl|⟨x,f,rfl⟩
 · obtain⟨N,A,gN,v,y⟩:=Ja (n:=n) g W r P;have u:=Fb s a g r (by omega) W;rw[<-A]at u;have b:=N1 (i:=i) s a g r (by omega) W A gN k.g e;unfold wv at b;dsimp only at b;split at b;·obtain⟨q,p⟩:=AJ (b_ "shadowed") (by simp);exact⟨_,Ē i n,by simp[ű],b,oP e b q p,h,by omega⟩
   · split at b;·exact⟨_,_,by simp[ű],b,AH e k.g gN b u,h.filt _,TU (Vl _ _) (by omega)⟩
     ·obtain⟨J2,l2⟩:=h.put gN v y;exact⟨_,_,by simp[ű],b,AG e k.g gN b u,J2,by omega⟩
 ·have b:=N0 (i:=i) (n:=n) W (by simp);obtain⟨q,p⟩:=AJ x (by simp only[uk,TD,or_false]at f⊢;rcases f with d|d|d|d|d<;>simp[d]);exact⟨x,Ē i n,by simp only[uk,TD,or_false]at f;rcases f with d|d|d|d|d<;>simp[ű,d],b,oP e b q p,h,by omega⟩
theorem Jc(g:Gv d o j μ Γ Κ H ζ):∃X:Str,cT [ā d o j μ Γ Κ H ζ]=Z (.ok (.str X))/\aT [.str X]=Z (.ok (ā d o j μ Γ Κ H ζ)):=by obtain⟨h,p,b,f,a,e⟩:=NI g;exact⟨_,by rw[e];exact IJ (Ra a),by rw[e];exact NQ a⟩
theorem Tx(a:List ai):fB (R Ŋ (á fJ (al (Y 0))) (X 20)) [Z (.tup (a.map Õ))]=Z (.ok (t_ (20<a.length))):=by
 refine bi ((bb (j:=.int (a.length:Int)) (μ:=.int 20) ((dg (ae (j:=ej a) rfl au)).trans ?_) rfl).trans ?_);·show Z (Rs.ok (Q.int ((a.map Õ).length:Int)))=_;rw[P_]
 · show Z (Rs.ok (Q.bl (t_ ((a.length:Int)>20))))=_;by_cases q:20<a.length;·rw[decide_eq_true q,decide_eq_true (show(a.length:Int)>20 by omega)]
   ·rw[decide_eq_false q,decide_eq_false (show¬(a.length:Int)>20 by omega)]
theorem Rl(a:List ai):fB (R Ŋ (á fJ (al (Y 0))) (X 20)) [Z (.lst (a.map Õ))]=Z (.ok (t_ (20<a.length))):=by
 refine bi ((bb (j:=.int (a.length:Int)) (μ:=.int 20) ((dg (ae (j:=.lst (a.map Õ)) rfl au)).trans ?_) rfl).trans ?_);·show Z (Rs.ok (Q.int ((a.map Õ).length:Int)))=_;rw[P_]
 · show Z (Rs.ok (Q.bl (t_ ((a.length:Int)>20))))=_;by_cases q:20<a.length;·rw[decide_eq_true q,decide_eq_true (show(a.length:Int)>20 by omega)]
   ·rw[decide_eq_false q,decide_eq_false (show¬(a.length:Int)>20 by omega)]
theorem Fh(a:fB (R Ŋ (á fJ (al (Y 0))) (X 20)) [Z j]=Z (.ok (t_ (20<i.length)))):ah [j]=if 20<i.length then Z (.exc 5)else Z (.ok .non):=by
 by_cases q:20<i.length;·rw[if_pos q];rw[decide_eq_true q]at a;exact QQ (by show aj [Z j]=_;unfold aj;exact QR a rfl)
 ·rw[if_neg q];rw[decide_eq_false q]at a;unfold ah gA;show(match aj [Z j]with|some (.nx _)=>Z (Rs.ok Q.non)|some (.rt j)=>Z (Rs.ok j)|some (.exc c)=>Z (Rs.exc c)|none=>U)=_;unfold aj;rw[cp a]
variable{τ:List ai}
theorem wW(g:i.length<=20)(f:aw [Γ,ej i,j,Κ,.int n]=Z (.ok μ))(h:(i.any λo=>t_ (o.us>n))=D)(e:bP [Γ,ej i,j,μ,.int n]=Z (.ok (ej τ)))(d:20<τ.length):fm [Γ,ej i,j,Κ,.int n]=Z (.exc 5):=QQ (by show iB (E7 Γ i j Κ n U U)=_;unfold iB;rw[ay (s5T f)];have c:=AI (j:=Γ) (μ:=j) (Γ:=Κ) (a:=n) (e:=Z μ) (d:=U) g;rw[h]at c;rw[ay (cp c)];have b:cy 6 (aF bP 5 (ni (Y 0) (Y 1) (Y 2) (Y 5) (Y 4))) (E7 Γ i j Κ n (Z μ) U)=Z (.nx (E7 Γ i j Κ n (Z μ) (Z (ej τ)))):=bV (cE bP (ae rfl (ae rfl (ae rfl (ae rfl (ae rfl au))))) rfl e) rfl;have a:=Fh (Tx τ);rw[if_pos d]at a;rw[ay b];exact R7 (dX ah rfl a))
theorem vdo{b:Str}(h:E∈kZ ë)(a:Ak d o j)(k:aT [.str ζ]=Z (.ok μ))(p:ņ i)(g:0<=n)(f:n<=9999)(m:bq [.tup E,ej i,ü H d o j,μ,.int n]=Z (.ok (.str b))):fV [.tup E,ej i,ü H d o j,.str ζ,.int n]=Z (.ok (.str b)):=by refine lF ?_;show hU [Z (.tup E),Z (ej i),Z (ü H d o j),Z (.str ζ),Z (.int n),U]=_;unfold hU;have e:cy 5 (aF aw 5 (ni (Y 0) (Y 1) (Y 2) (Y 3) (Y 4))) [Z (.tup E),Z (ej i),Z (ü H d o j),Z (.str ζ),Z (.int n),U]=Z (.nx [Z (.tup E),Z (ej i),Z (ü H d o j),Z (.str ζ),Z (.int n),Z μ]):=bV (cE aw (ae rfl (ae rfl (ae rfl (ae rfl (ae rfl au))))) rfl (rwy (jj h) (wU p) (Ds a) k (si g f))) rfl;rw[ay e];exact eQ (cE bq (ae rfl (ae rfl (ae rfl (ae rfl (ae rfl au))))) rfl m)
theorem DF{w:Str}{l:Q}{R:Str}{X:Str}(m:E∈kZ ë)(a:Ak d o j)(g:Gv ζ w μ Γ Κ l H R)(r:aT [.str X]=Z (.ok (ā ζ w μ Γ Κ l H R)))(h:JS n i)(f:i.length<=20)(k:0<=n)(u:n<=200):(∃(x:Str)(e:List ai),x∈ű/\fV [.tup E,ej i,ü Ä d o j,.str X,.int n]=Z (.ok (.str x))/\fm [.tup E,ej i,ü Ä d o j,.str X,.int n]=Z (.ok (ej e))/\JS n e/\e.length<=20)\/fm [.tup E,ej i,ü Ä d o j,.str X,.int n]=Z (.exc 5):=by
 obtain⟨x,e,v,z,s,A,I⟩:=Jb (Ä:=Ä) m a g h f k u;have p:=rwy (j:=.tup E) (Κ:=ej i) (μ:=ü Ä d o j) (Γ:=.str X) (N:=.int n) (jj m) (wU (h.jar f)) (Ds a) r (si k (by omega));have lt:(i.any λb=>t_ (b.us>n))=D:=by rw[aa4];intro b y;have:=h.u b y;simp;omega
 by_cases q:e.length<=20;·exact .inl ⟨x,e,v,vdo m a r (h.jar f) k (by omega) z,DE f p lt s q,A,q⟩
 ·exact .inr (wW f p lt s (by omega))
theorem AK(e:JS n i)(a:i.length<=20){k:Int}(d:0<=k)(b:k<=9999):kg [ej i,.int k]=Z (.ok (ej (Ē i k))):=by refine lF ?_;show kf [Z (ej i),Z (.int k)]=_;unfold kf;rw[ay (dY bp rfl (N3 (wU (e.jar a)))),ay (dY bG rfl (IG (si d b)))];exact eQ (gO bx rfl rfl (oO a))
open TS
theorem DB(h:Ę b j)(a:b<=64):ċ j j=Z (.ok (.bl D)):=uu (h.okP a) h.p
def qz(a:List ai)(n:ai):Bool:=a.any λm=>t_ (key m=key n)
theorem qi{b:æ}(d:Μ δ=Z (.ok H))(a:b δ=Z (.ok Ä)):l7 Μ b δ=Z (.ok (H&&Ä)):=by unfold l7;rw[d];cases H with|true=>exact a|false=>rfl
def JH(b a:List ai):List ai:=b.filter λn=>!qz a n
noncomputable def wl(n:ai):List Int:=[n.us,n.md]
def ii(a b:ai):ai:=if Cy (wl b) (wl a)=L then b else a
theorem N4(n:ai):cq [Õ n]=Z (.ok (.tup [.int n.us,.int n.md])):=by simp[cq,bM,iC,aL,c5,Ù,aP,bZ,Y,fC,R,Î,Ă,eI,Õ]
theorem N5(a b:ai):gtT (.tup [.int b.us,.int b.md]) (.tup [.int a.us,.int a.md])=bo (Cy (wl b) (wl a)):=rfl
theorem later_of(a b:ai):hZ [Õ a,Õ b]=Z (.ok (Õ (ii a b))):=by have d:fB (R gtT (ag cq 1 (al (Y 1))) (ag cq 1 (al (Y 0)))) [Z (Õ a),Z (Õ b)]=Z (.ok (Cy (wl b) (wl a))):=bi ((bb (fK cq rfl (N4 b)) (fK cq rfl (N4 a))).trans (N5 a b));refine iI ?_;show hX [Z (Õ a),Z (Õ b)]=_;unfold hX ii;cases h:Cy (wl b) (wl a)with|true=>rw[h]at d;exact mh (wF d)|false=>rw[h]at d;rw[ay (cp d)];rfl
def č(l:List ai):Kv:=l.map λn=>(key n,Õ n)
def mW(l:List ai)(m:ai):List ai:=if qz l m=L then l.map (λo=>if key o=key m then m else o)else l++[m]
theorem Fj(l:List ai)(m:ai):EK (č l) (key m) (Õ m)=č (mW l m):=by
 have e:((č l).any λp=>t_ (p.1=key m))=qz l m:=by unfold č qz;rw[List.any_map];rfl
 unfold EK mW;rw[e];split
 · unfold č;rw[UQ,UQ];apply U6;intro o _;simp only[X9];split;·rename_i h;rw[h]
   ·rfl
 ·simp[č]
def vJ(l:List ai)(n:ai):Option ai:=l.find? λo=>t_ (key o=key n)
theorem Fk(n:ai):∀l:List ai,zy (č l) (key n)=(vJ l n).map Õ
 |[]=>rfl|o::l=>by
  have a:=Fk n l;unfold zy č vJ at*;simp only[E_,VD];by_cases h:key o=key n;·simp[h]
  ·simp only[h,decide_false];exact a
theorem qp{o:ai}(h:vJ i π=Z o):key o=key π/\o∈i:=by have a:=abx h;exact⟨by simpa using a,List.mem_of_find?_eq_some h⟩
theorem jm(a b:ai):ii a b=a\/ii a b=b:=by
 unfold ii;split;·exact .inr rfl
 ·exact .inl rfl
def xg(l:List ai)(n:ai):ai:=ii ((vJ l n).getD n) n
theorem qr(l:List ai)(n:ai):key (xg l n)=key n:=by
 unfold xg;rcases jm ((vJ l n).getD n) n with e|e;·rw[e];cases h:vJ l n with|none=>rfl|some o=>exact(qp h).1
 ·rw[e]
def vK(l:List ai)(n:ai):List ai:=mW l (xg l n)
theorem lN(l:List ai)(m:ai):(mW l m).length<=l.length+1:=by
 unfold mW;split;·simp
 ·simp
noncomputable def E5(x y:Q)(z:Option Q):Ev:=[Z x,Z y,U,z,U]
theorem N6(x y:Q)(n:ai)(l:List ai)(h:l.length<1000):dH (E5 x y (Z (Õ n))) (č l)=Z (E5 x y (Z (Õ n)),č (mW l n)):=by have a:ag cD 1 (al (Y 3)) (E5 x y (Z (Õ n)))=Z (.ok (ek n)):=fK cD rfl (iJ n);unfold dH HC;rw[a];show(if(č l).length<100000 then Z (E5 x y (Z (Õ n)),EK (č l) (key n) (Õ n))else U)=_;rw[if_pos (by simp[č];omega),Fj]
theorem Fm(x y:Q):∀(a l:List ai)(z:Option Q),l.length+a.length<1000->∃b,pv 3 dH (a.map Õ) (E5 x y z) (č l)=Z (E5 x y b,č (a.foldl mW l))|[],l,z,_=>⟨z,rfl⟩|n::a,l,z,h=>by simp only[TQ]at h;have g:=lN l n;obtain⟨b,e⟩:=Fm x y a (mW l n) (Z (Õ n)) (by omega);refine⟨b,?_⟩;show(match dH (E5 x y (Z (Õ n))) (č l)with|some (d,f)=>pv 3 dH (a.map Õ) d f|none=>U)=_;rw[N6 x y n l (by omega)];exact e
theorem N7(x y:Q)(n:ai)(l:List ai)(h:l.length<1000):dI (E5 x y (Z (Õ n))) (č l)=Z (E5 x y (Z (Õ n)),č (vK l n)):=by
 have a:ag cD 1 (al (Y 3)) (E5 x y (Z (Õ n)))=Z (.ok (ek n)):=fK cD rfl (iJ n);have e:HB (ag cD 1 (al (Y 3))) (Y 3) (E5 x y (Z (Õ n))) (č l)=Z (Õ ((vJ l n).getD n)):=by unfold HB;rw[a];show Z ((zy (č l) (key n)).getD (Õ n))=_;rw[Fk];cases vJ l n<;>rfl
 have b:oA hZ (HB (ag cD 1 (al (Y 3))) (Y 3)) (Y 3) (E5 x y (Z (Õ n))) (č l)=Z (Õ (xg l n)):=by unfold oA;rw[e];show(match hZ [Õ ((vJ l n).getD n),Õ n]with|some (.ok d)=>Z d|_=>U)=_;rw[later_of];rfl
 unfold dI HC;rw[b,a];show(if(č l).length<100000 then Z (E5 x y (Z (Õ n)),EK (č l) (key n) (Õ (xg l n)))else U)=_;rw[if_pos (by simp[č];omega),<-qr l n,Fj];rfl
theorem Fp(x y:Q):∀(a l:List ai)(z:Option Q),l.length+a.length<1000->∃b,pv 3 dI (a.map Õ) (E5 x y z) (č l)=Z (E5 x y b,č (a.foldl vK l))|[],l,z,_=>⟨z,rfl⟩|n::a,l,z,h=>by simp only[TQ]at h;have g:=lN l (xg l n);obtain⟨b,e⟩:=Fp x y a (vK l n) (Z (Õ n)) (by show(mW l (xg l n)).length+_<_;omega);refine⟨b,?_⟩;show(match dI (E5 x y (Z (Õ n))) (č l)with|some (d,f)=>pv 3 dI (a.map Õ) d f|none=>U)=_;rw[N7 x y n l (by omega)];exact e
def wX(n:ai):List Q:=[.int n.md,ek n]
def ő(a b:ai):Bool:=ē (wX a) (wX b)
def Bm(d:List ai):List ai:=gF (λa b=>!ő b a) d
theorem place_of(n:ai):dG [Õ n]=Z (.ok (.tup (wX n))):=by have e:ag cD 1 (al (Y 0)) [Z (Õ n)]=Z (.ok (ek n)):=fK cD rfl (iJ n);refine iI (j:=.tup (wX n)) ?_;show ib [Z (Õ n)]=_;unfold ib;exact eQ (jG (ae (j:=.int n.md) rfl (ae e au)) (show 2<=100000 by omega))
theorem AM:∀a:List ai,jJ dG (a.map Õ)=Z (a.map wX)|[]=>rfl|n::a=>by show(match dG [Õ n],jJ dG (a.map Õ)with|some (.ok (.tup d)),Z b=>Z (d::b)|_,_=>U)=_;rw[place_of,AM a];rfl
theorem AN(h:i.length<64):j6 (i.map wX)=L:=by unfold j6;rw[m_,decide_eq_true_eq,Ul];refine⟨by simpa using h,λr a=>?_⟩;obtain⟨n,b,rfl⟩:=R_.mp a;cases i with|nil=>simp at b|cons x i=>rfl
theorem Je(n:ai):ħ (Õ n)=L:=by unfold Õ;cases h:n.ends<;>simp[ħ,â,eO]
theorem lO:∀a:List ai,â (a.map Õ)=L|[]=>by simp[â]|n::a=>by simp[â,Je n,lO a]
theorem vL:∀a:List ai,â ((a.map wX).map Q.tup)=L|[]=>by simp[â]|n::a=>by have:=vL a;simp only[E_,â,m_];exact⟨by simp[ħ,â,wX,ek],this⟩
theorem wY(d:List ai):my (d.map wX) (d.map Õ)=(Bm d).map Õ:=by
 unfold my Bm;have e:(d.map wX).zip (d.map Õ)=d.map λn=>(wX n,Õ n):=by rw[List.zip_map']
 rw[e,<-TS.sort_map (i:=λa b=>!ő b a) (λn=>(wX n,Õ n)) d λ_ _ _ _=>rfl,UQ];rfl
theorem DG(h:i.length<64):vg dG (i.map Õ)=Z (.ok (.lst ((Bm i).map Õ))):=by unfold vg;rw[AM];dsimp only;rw[if_pos ⟨AN h,lO i,vL i⟩,wY]
theorem vM(a:List ai):(Bm a).length=a.length:=(cG _ a).length_eq
def Ī(b a:List ai):List ai:=a.foldl vK (b.foldl mW [])
theorem Fq:∀(a l:List ai),(a.foldl mW l).length<=l.length+a.length:=by intro a;induction a with|nil=>intro l;simp|cons n a b=>intro l;have:=b (mW l n);have d:=lN l n;simp only[ZT,TQ];omega
theorem N8:∀(a l:List ai),(a.foldl vK l).length<=l.length+a.length:=by intro a;induction a with|nil=>intro l;simp|cons n a b=>intro l;have:=b (vK l n);have d:(vK l n).length<=l.length+1:=lN l (xg l n);simp only[ZT,TQ];omega
theorem N9(a b:List ai):(Ī a b).length<=a.length+b.length:=by have d:=Fq a [];have e:=N8 b (a.foldl mW []);simp at d;unfold Ī;omega
theorem AO(g:ņ i)(f:ņ τ):ei [ej i,ej τ]=if 20<(Ī i τ).length then Z (.exc 5)else Z (.ok (ej (Bm (Ī i τ)))):=by
 have p:=g.l;have o:=f.l;have r:=N9 i τ;obtain⟨b,n⟩:=Fm (ej i) (ej τ) i [] U (by simp;omega);have d:=Fq i [];obtain⟨e,m⟩:=Fp (ej i) (ej τ) τ (i.foldl mW []) b (by simp at d;omega);have k:HE 3 (Y 0) dH (([Z (ej i),Z (ej τ),U,U,U]:Ev).set 2 U) []=Z (E5 (ej i) (ej τ) b,č (i.foldl mW [])):=n;have j:HE 3 (Y 1) dI (E5 (ej i) (ej τ) b) (č (i.foldl mW []))=Z (E5 (ej i) (ej τ) e,č (Ī i τ)):=m;have h:oE dG (E5 (ej i) (ej τ) e) (č (Ī i τ))=Z (.lst ((Bm (Ī i τ)).map Õ)):=by unfold oE;rw[show(č (Ī i τ)).map (·.2)=(Ī i τ).map Õ by unfold č;rw[UQ];rfl,DG (by omega)]
 have a:=Fh (Rl (Bm (Ī i τ)));rw[vM]at a;have key:jf [Z (ej i),Z (ej τ),U,U,U]=if 20<(Ī i τ).length then Z (.exc 5)else Z (.rt (ej (Bm (Ī i τ)))):=by
  unfold jf;rw[ay (dY bp rfl (N3 (wU g))),ay (dY bp rfl (N3 (wU f)))];unfold zD;rw[k];dsimp only;rw[j];dsimp only;unfold Md;rw[h];dsimp only;by_cases q:20<(Ī i τ).length;·rw[if_pos q]at a⊢;exact R7 (dX ah rfl a)
  ·rw[if_neg q]at a⊢;rw[ay (dY ah rfl a)];rfl
 by_cases q:20<(Ī i τ).length;·rw[if_pos q]at key⊢;exact QQ key
 ·rw[if_neg q]at key⊢;exact lF key
def qA(d:List ai)(a:ai):ai:=match d.filter (λb=>t_ (key b=key a))with|b::_=>ii a b|[]=>a
theorem ux(a:ai):ii a a=a:=by unfold ii;split<;>rfl
theorem DH(d:List ai)(a:ai):key (qA d a)=key a:=by
 unfold qA;split
 · rename_i b r h;have f:b∈d.filter (λb=>t_ (key b=key a)):=by rw[h];exact q_
   have:=(Ui.mp f).2;rcases jm a b with e|e;·rw[e]
   ·rw[e];simpa using this
 ·rfl
theorem vN(d:List ai)(a:ai):qA d a=a\/qA d a∈d:=by
 unfold qA;split
 · rename_i b r h;have f:b∈d.filter (λb=>t_ (key b=key a)):=by rw[h];exact q_
   rcases jm a b with e|e;·exact .inl e
   ·rw[e];exact .inr (Ui.mp f).1
 ·exact .inl rfl
theorem ú:qz i π=L↔key π∈i.map key:=by unfold qz;simp only[Wr,decide_eq_true_eq,R_]
theorem wZ(h:i.map key=τ.map key)(n:ai):qz i n=qz τ n:=by rw[Vc,ú,ú,h]
theorem AQ(h:key π∉i.map key):i.filter (λb=>t_ (key b=key π))=[]:=by rw[List.filter_eq_nil_iff];intro b d a;exact h (R_.mpr ⟨b,d,by simpa using a⟩)
theorem sx(h:key π∉i.map key):qA i π=π:=by unfold qA;rw[AQ h]
theorem AR:∀(a l:List ai),((l++a).map key).Nodup->a.foldl mW l=l++a
 |[],l,_=>by simp|n::a,l,h=>by
  have b:qz l n=D:=by cases q:qz l n with|false=>rfl|true=>exfalso;rw[ú]at q;rw[UH,E_]at h;exact(V4.mp h).2.2 _ q _ q_ rfl
  show a.foldl mW (mW l n)=_;have e:mW l n=l++[n]:=by unfold mW;rw[b];rfl
  rw[e,AR a (l++[n]) (by simpa using h)];simp
theorem AS(h:key π∉i.map key):vJ i π=U:=by unfold vJ;rw[YX];intro o a b;exact h (R_.mpr ⟨o,a,by simpa using b⟩)
theorem AT(f:(i.map key).Nodup){a b:ai}(j:a∈i)(g:b∈i)(h:key a=key b):a=b:=by induction i with|nil=>cases j|cons x i k=>
 rw[E_,UV]at f;rcases uk.mp j with rfl|e
 · rcases uk.mp g with rfl|d;·rfl
   ·exact absurd (R_.mpr ⟨b,d,h.symm⟩) f.1
 · rcases uk.mp g with rfl|d;·exact absurd (R_.mpr ⟨a,e,h⟩) f.1
   ·exact k f.2 e d
theorem uy:∀(d l:List ai),(d.map key).Nodup->(l.map key).Nodup->d.foldl vK l=l.map (qA d)++JH d l
 |[],l,_,_=>by
  have e:l.map (qA [])=l:=by rw[show(qA []:ai->ai)=id from rfl];exact List.map_id l
  simp[JH,e]|n::d,l,j,r=>by
  rw[E_,UV]at j;show d.foldl vK (vK l n)=_;by_cases f:key n∈l.map key
  · have e:vK l n=l.map λo=>if key o=key n then ii o n else o:=by
     obtain⟨s,g,i⟩:=R_.mp f;have E:vJ l n=Z s:=by cases q:vJ l n with|none=>unfold vJ at q;rw[YX]at q;exact absurd (by simpa using i) (q s g)|some o=>rw[AT r (qp q).2 g ((qp q).1.trans i.symm)]
     have v:xg l n=ii s n:=by unfold xg;rw[E];rfl
     unfold vK mW;rw[if_pos (by rw[ú,qr];exact f)];apply U6;intro o u;rw[qr];by_cases h:key o=key n;·rw[if_pos h,if_pos h,v,AT r u g (h.trans i.symm)]
     ·rw[if_neg h,if_neg h]
    have p:(l.map λo=>if key o=key n then ii o n else o).map key=l.map key:=by
     rw[UQ];apply U6;intro o _;simp only[X9];split
     · rename_i h;rcases jm o n with q|q;·rw[q]
       ·rw[q,h]
     ·rfl
    rw[e,uy d _ j.2 (by rw[p];exact r),UQ];congr 1
    · apply U6;intro o _;simp only[X9];by_cases h:key o=key n
      · rw[if_pos h];have w:key (ii o n)=key n:=by
         rcases jm o n with q|q;·rw[q,h]
         ·rw[q]
        rw[sx (by rw[w];exact j.1)];unfold qA;rw[Wq (by simp[h])]
      ·rw[if_neg h];unfold qA;rw[VA (by simpa using Uq h)]
    ·have k:qz l n=L:=ú.mpr f;show d.filter _=(n::d).filter _;rw[VA (by simp[k])];apply aa2;intro m _;rw[wZ p m]
  · have e:vK l n=l++[n]:=by
     have v:xg l n=n:=by unfold xg;rw[AS f];exact ux n
     have k:qz l n=D:=by cases q:qz l n with|false=>rfl|true=>exact absurd (ú.mp q) f
     unfold vK mW;rw[v,k];rfl
    rw[e,uy d _ j.2 (by rw[UH];exact V4.mpr ⟨r,by simp,λa H b y z=>by simp only[E_,XT,M_]at y;exact f (by rw[<-y,<-z];exact H)⟩),UH,E_,XT,sx j.1];have k:qz l n=D:=by cases q:qz l n with|false=>rfl|true=>exact absurd (ú.mp q) f
    have N:l.map (qA d)=l.map (qA (n::d)):=by apply U6;intro o u;unfold qA;rw[VA (by simp only[decide_eq_true_eq];exactλz=>f (by rw[z];exact R_.mpr ⟨o,u,rfl⟩))]
    have I:JH d (l++[n])=JH d l:=by
     apply aa2;intro m A;have:qz (l++[n]) m=qz l m:=by
      unfold qz;rw[List.any_append];have:([n].any λo=>t_ (key o=key m))=D:=by simp only[Vt,List.any_nil,aaC,decide_eq_false_iff_not];exactλz=>j.1 (by rw[z];exact R_.mpr ⟨m,A,rfl⟩)
      rw[this,aaC]
     rw[this]
    rw[N,I];show _=l.map (qA (n::d))++(n::d).filter _;rw[Wq (by simp[k])];simp[JH]
theorem AU(a:(i.map key).Nodup)(b:(τ.map key).Nodup):Ī i τ=i.map (qA τ)++JH τ i:=by unfold Ī;rw[AR i [] (by simpa using a),List.nil_append,uy τ i b a]
theorem Ft(f:(i.map key).Nodup)(d:(τ.map key).Nodup):((Ī i τ).map key).Nodup:=by rw[AU f d,UH,UQ];have e:i.map (key∘qA τ)=i.map key:=U6 λa _=>DH τ a;rw[e];refine V4.mpr ⟨f,List.Nodup.sublist (List.Sublist.map _ Yu) d,λa j b h z=>?_⟩;obtain⟨n,g,rfl⟩:=R_.mp h;have:=(Ui.mp g).2;subst z;rw[ú.mpr j]at this;cases this
theorem DJ(g:(i.map key).Nodup)(f:(τ.map key).Nodup)(k:∀n∈i,ç n)(d:∀n∈τ,ç n):∀n∈Ī i τ,ç n:=by
 intro n b;rw[AU g f]at b;rcases TH.mp b with h|h
 · obtain⟨a,j,rfl⟩:=R_.mp h;rcases vN τ a with e|e;·rw[e];exact k a j
   ·exact d _ e
 ·exact d n (Ui.mp h).1
theorem Fu{g:Type}{d:g->g->Bool}(k:∀a b c,d a b=L->d b c=L->d a c=L)(x:g):∀l:List g,(∀y∈l,d x y=L\/d y x=L)->l.Pairwise (λa b=>d a b=L)->(ww (λa b=>!d b a) x l).Pairwise (λa b=>d a b=L)
 |[],_,_=>by simp[ww]|y::l,m,h=>by
  unfold ww;rw[Uz]at h;split
  · rename_i i;have f:d x y=L:=by
     rcases m y q_ with q|q;·exact q
     ·rw[q]at i;cases i
    rw[Uz,Uz];refine⟨λz e=>?_,h⟩;rcases uk.mp e with rfl|e;·exact f
    ·exact k _ _ _ f (h.1 z e)
  · rename_i i;have j:d y x=L:=by simpa using i
    rw[Uz];refine⟨λz e=>?_,Fu k x l (λz e=>m z (r_ _ e)) h.2⟩;rcases uk.mp ((j4 _ x l).mem_iff.mp e)with rfl|e;·exact j
    ·exact h.1 z e
theorem AV{e:Type}{d:e->e->Bool}(f:∀a b c,d a b=L->d b c=L->d a c=L):∀l:List e,l.Pairwise (λa b=>d a b=L\/d b a=L)->(gF (λa b=>!d b a) l).Pairwise (λa b=>d a b=L)|[],_=>.nil|x::l,h=>by rw[Uz]at h;exact Fu f x _ (λy g=>h.1 y ((cG _ l).mem_iff.mp g)) (AV f l h.2)
theorem Oa{b:ai}(h:key π≠key b):m5 (key π) (key b)=L\/m5 (key b) (key π)=L:=by cases q:m5 (key π) (key b)with|true=>exact .inl rfl|false=>cases a:m5 (key b) (key π)with|true=>exact .inr rfl|false=>exact absurd (tu (xs:=key π) (ys:=key b) rfl q a) h
theorem Rm(d:(i.map key).Nodup):i.Pairwise (λa b=>key a≠key b):=by unfold List.Nodup at d;rw[XS]at d;exact d
theorem Ob{b c:ai}(h:ő π b=L)(a:ő b c=L):ő π c=L:=zj h a
theorem AW(a b:ai):ő a b=if a.md=b.md then m5 (key a) (key b)else t_ (a.md<b.md):=by
 have f:c7 [Q.str a.nm,.str a.house,.str a.path]=Z (key a):=rfl;have e:c7 [Q.str b.nm,.str b.house,.str b.path]=Z (key b):=rfl;unfold ő wX ek;simp only[ē,Ĵ,Ĥ,f,e,beq_iff_eq];split
 · by_cases d:key a=key b;·simp[d,zg]
   ·simp[d]
 ·rfl
theorem Oc{b:ai}(h:key π≠key b):ő π b=L\/ő b π=L:=by
 rw[AW,AW];by_cases a:π.md=b.md;·rw[if_pos a,if_pos a.symm];exact Oa h
 · rw[if_neg a,if_neg (Uq a)];rcases Int.lt_or_gt_of_ne a with q|q;·exact .inl (decide_eq_true q)
   ·exact .inr (decide_eq_true q)
theorem Oe{b:ai}(h:ő π b=L):π.md<=b.md:=by
 rw[AW]at h;split at h;·omega
 ·have:=of_decide_eq_true h;omega
theorem Jf(d:(i.map key).Nodup):(Bm i).Pairwise (λa b=>ő a b=L):=AV (d:=ő) (λa b c h e=>Ob h e) i ((Rm d).imp λ{a b}h=>Oc h)
def û(b a:List ai):List ai:=Bm (Ī b a)
theorem Ĭ:π∈û i τ↔π∈Ī i τ:=(cG _ _).mem_iff
theorem DK(b:(i.map key).Nodup)(a:(τ.map key).Nodup):((û i τ).map key).Nodup:=((cG _ (Ī i τ)).map key).nodup_iff.mpr (Ft b a)
theorem DM(e:(i.map key).Nodup)(d:(τ.map key).Nodup):(û i τ).Pairwise (λa b=>ő a b=L):=Jf (Ft e d)
theorem DN(j:JS n i)(f:JS n τ):JS n (û i τ)where
 g:=λd m=>DJ j.k f.k j.g f.g d (Ĭ.mp m);s:=(DM j.k f.k).imp λ{a b}q=>Oe q;k:=DK j.k f.k;u:=λd m=>by
  have h:=Ĭ.mp m;rw[AU j.k f.k]at h;rcases TH.mp h with q|q
  · obtain⟨a,o,rfl⟩:=R_.mp q;rcases vN τ a with e|e;·rw[e];exact j.u a o
    ·exact f.u _ e
  ·exact f.u d (Ui.mp q).1
theorem AX(d:JS n i)(g:i.length<=20)(b:JS n τ)(f:τ.length<=20):(∃a,ei [ej i,ej τ]=Z (.ok (ej a))/\JS n a/\a.length<=20)\/ei [ej i,ej τ]=Z (.exc 5):=by
 have e:=AO (d.jar g) (b.jar f);by_cases q:20<(Ī i τ).length;·rw[if_pos q]at e;exact .inr e
 ·rw[if_neg q]at e;exact .inl ⟨û i τ,e,DN d b,by unfold û;rw[vM];omega⟩
theorem Tz(h:bD [.str d]=bo L):fD [.str d]=Z (.ok .non):=by simp[fD,gA,gJ,br,c5,Ù,cF,fB,Ą,ag,aP,bZ,Y,h]
def Jg(a:List ai)(h:Str):List ai:=a.filter λn=>!Ÿ n.house h
theorem DO(d:JS n i)(f:i.length<=20){h:Str}(b:h∈En):fF [ej i,.str h]=Z (.ok (ej (Jg i h))):=by refine lF ?_;show fE [Z (ej i),Z (.str h)]=_;unfold fE;rw[ay (dY bp rfl (N3 (wU (d.jar f)))),ay (dY fD rfl (Tz (No b)))];refine eQ ?_;have e:(dq [("house",1)] (gz (Y 0)) (Z (cF (fB (ag aD 2 (bJ (R Î (Y 0) (X 2)) (Y 1)))))) (Y 0)) [Z (ej i),Z (.str h)]=Z (.ok (.lst ((Jg i h).map Õ))):=jh Õ _ Õ (kr rfl) (by omega) λa g=>⟨oN (bi (gO aD (a:=.str a.house) (b:=.str h) rfl rfl (IZ (d.g a g).house b))),rfl⟩;exact(dg (ae e au)).trans rfl
variable{Ξ:Ú}
theorem aB{a:í}{K:ci}(h:Â p υ=Z (.nx a Ξ)):eK Â K p υ=K Ξ a:=by unfold eK;rw[h];rfl
theorem Fv{K:ci}(h:Â p υ=Z (.exc b Ξ)):eK Â K p υ=Z (.exc b Ξ):=by unfold eK;rw[h];rfl
theorem AY{K:ci}{u:Uv}(h:Â p υ=Z (.rt u Ξ)):eK Â K p υ=Z (.rt u Ξ):=by unfold eK;rw[h];rfl
theorem cA{a:í}{u:Uv}(h:Η p υ=Z (.ok u Ξ))(e:υ.set b (Z u)=a):li b Η p υ=Z (.nx a Ξ):=by unfold li;rw[h,<-e];rfl
theorem Fw(h:Η p υ=Z (.exc k Ξ)):li b Η p υ=Z (.exc k Ξ):=by unfold li;rw[h];rfl
theorem fT{u:Uv}(h:Η p υ=Z (.ok u Ξ)):lA Η p υ=Z (.nx υ Ξ):=by unfold lA;rw[h];rfl
theorem eZ{u:Uv}(h:Η p υ=Z (.ok u Ξ)):jv Η p υ=Z (.rt u Ξ):=by unfold jv;rw[h];rfl
theorem Fx(h:Η p υ=Z (.exc b Ξ)):jv Η p υ=Z (.exc b Ξ):=by unfold jv;rw[h];rfl
theorem ak(h:y (õ p υ)=Z (.ok j))(a:pl j=L):aG y p υ=Z (.ok (.inl j) p):=by unfold aG;rw[h];exact if_pos a
theorem AZ(h:y (õ p υ)=Z (.exc b)):aG y p υ=Z (.exc b p):=by unfold aG;rw[h]
theorem aV{u:Uv}(h:υ[b]?=Z (Z u)):da b p υ=Z (.ok u p):=by unfold da;rw[h]
theorem aO{d:Ú}{b:mC}{u:Uv}{a:List Uv}(h:Η p υ=Z (.ok u Ξ))(e:b Ξ υ=Z (.ok a d)):bg Η b p υ=Z (.ok (u::a) d):=by unfold bg jC;rw[h];dsimp only;rw[e]
theorem bL{e:Ú}{d:mC}{a:List Uv}{j:List Uv}(h:Η p υ=Z (.ok (.inr ι) Ξ))(f:Ξ[ι]?=Z (.obj b j))(i:d Ξ υ=Z (.ok a e))(g:a.length=k):cH b È k Η d p υ=È e (.inr ι::a):=by unfold cH jC;rw[h];dsimp only;rw[f];dsimp only;rw[if_pos rfl,i];exact if_pos g
theorem DP{K:ci}{a:nq}(h:a p υ=Z (.ok L Ξ)):Ğ a Â K p υ=Â Ξ υ:=by unfold Ğ;rw[h];rfl
theorem Jh{K:ci}{a:nq}(h:a p υ=Z (.ok D Ξ)):Ğ a Â K p υ=K Ξ υ:=by unfold Ğ;rw[h];rfl
theorem cU(h:Μ (õ p υ)=Z (.ok H)):c8 Μ p υ=Z (.ok H p):=by unfold c8;rw[h]
theorem iF{u:Uv}{a:List Uv}(h:Â p (a.map Z++N_ (b-a.length) U)=Z (.rt u Ξ)):ng b Â p a=Z (.ok u Ξ):=by unfold ng;rw[h]
theorem A0{a:List Uv}(h:Â p (a.map Z++N_ (b-a.length) U)=Z (.nx υ Ξ)):ng b Â p a=Z (.ok (.inl .non) Ξ):=by unfold ng;rw[h]
theorem Fy{a:List Uv}(h:Â p (a.map Z++N_ (b-a.length) U)=Z (.exc k Ξ)):ng b Â p a=Z (.exc k Ξ):=by unfold ng;rw[h]
theorem mX{u:Uv}{a:List Uv}(h:Η p υ=Z (.ok (.inr ι) Ξ))(d:Ξ[ι]?=Z (.obj b a))(e:a[k]?=Z u):Bl b k Η p υ=Z (.ok u Ξ):=by unfold Bl jC Qz;rw[h];dsimp only;rw[d];dsimp only;rw[if_pos rfl,e]
theorem jP{d:Ú}{o:é}{e a:List Uv}{w:Uv}(i:Η p υ=Z (.ok w Ξ))(h:o Ξ υ=Z (.ok (.inr ι) d))(f:d[ι]?=Z (.obj b e))(g:wD b k w e=Z a):xf b k o Η p υ=Z (.nx υ (d.set ι (.obj b a))):=by unfold xf EM;rw[i];dsimp only;rw[h];dsimp only;rw[f];dsimp only;rw[if_pos rfl,g]
theorem qt{d:Ú}{e:mC}{a:List Q}(h:Η p υ=Z (.ok (.inr b) Ξ))(f:Ξ[b]?=Z (.lst E))(i:e Ξ υ=Z (.ok [.inl j] d))(k:d[b]?=Z (.lst a))(g:a.length<100000):CQ Η e p υ=Z (.ok (.inl .non) (d.set b (.lst (a++[j])))):=by unfold CQ jC;rw[h];dsimp only;rw[f];dsimp only;rw[i];dsimp only;rw[show ins [.inl j]=Z [j]from rfl,k];exact if_pos g
theorem Ji(h:Η p υ=Z (.ok (.inr b) Ξ))(a:Ξ[b]?=Z (.lst (E++[j]))):Mv Η p υ=Z (.ok (.inl j) (Ξ.set b (.lst E))):=by unfold Mv jC;rw[h];dsimp only;rw[a];dsimp only;rw[show(E++[j])[(E++[j]).length-1]?=Z j by simp];dsimp only;rw[List.dropLast_concat]
theorem lP:xb fu p υ=Z (.ok (.inr p.length) (p++[ñ.lst []])):=rfl
abbrev Sp:=Str×List ai
def ö(s:Sp):Q:=.tup [.str s.1,ej s.2]
def ō(T:Q)(b:List ai)(d a:List Sp):Q:=.obj 1 [T,ej b,.lst (d.map ö),.lst (a.map ö)]
def ń(T:Q)(d:List ai)(a b:Nat):ñ:=.obj 1 [.inl T,.inl (ej d),.inr a,.inr b]
structure DA(S:Ú)(n:Nat)(T:Q)(js:List ai)(ds us:List Sp)(a b:Nat):Prop where
 o:S[n]?=Z (ń T js a b)d:S[a]?=Z (.lst (ds.map ö))u:S[b]?=Z (.lst (us.map ö))na:n≠a
 nb:n≠b
 ab:a≠b
structure Ch(S S':Ú)(n a b:Nat):Prop where
 l:S.length<=S'.length
 h:∀c,c<S.length->c≠n->c≠a->c≠b->S'[c]?=S[c]?
variable{Α Υ:List Sp}
theorem DA.vw(h:DA p b j i Α Υ k ι):vw p (.inr b)=Z (ō j i Α Υ):=by unfold FD.vw;dsimp only;rw[h.o];simp[ń,vwL,vw1,h.d,h.u,ō]
theorem ez{l:List ε}(h:l[b]?=Z Ë):b<l.length:=(G_.mp h).1
theorem Ch.refl:Ch p p b k ι:=⟨pi _,λ_ _ _ _ _=>rfl⟩
theorem Ch.trans{i:Ú}{a:Nat}(h:Ch p Ξ b k ι)(g:Ch Ξ i b k a)(m:a=ι\/p.length<=a):Ch p i b k ι:=⟨TU h.l g.l,λc j f e d=>by have n:=h.l;rw[g.h c (by omega) f e (by rcases m with rfl|q<;>first|exact d|omega)];exact h.h c j f e d⟩
theorem jt:aC [ō j i Α Υ]=Z (.ok (ej i)):=rfl
theorem ku:aY [ō j i Α Υ]=Z (.ok (.tup [.int (Α.length:Nat),.int (Υ.length:Nat)])):=by simp[aY,gA,fQ,aL,c5,Ù,eI,aP,bZ,á,f1,m7,Y,ō,fJ]
theorem k7(a:List ai):pl (ej a)=L:=by show â (a.map Õ)=L;exact lO a
theorem Of(a:List ai):ħ (ej a)=L:=by show â (a.map Õ)=L;exact lO a
theorem Ba(s:Sp):ħ (ö s)=L:=by simp[ö,ħ,â,Of]
theorem ĺ(h:DA p b j i Α Υ k ι)(w:Str)(z:Α.length<1000):∃a,cf p [.inr b,.inl (.str w),.inl (ej τ)]=Z (.ok (.inl .non) a)/\DA a b j τ (Α++[(w,i)]) [] k p.length/\Ch p a b k ι:=by
 have o:=ez h.o;have d:=ez h.d;have y:=ez h.u;refine⟨(((p.set k (.lst ((Α++[(w,i)]).map ö)))++[ñ.lst []]).set b (ń j i k p.length)).set b (ń j τ k p.length),?_,⟨?_,?_,?_,h.na,by omega,by omega⟩,⟨by simp,λc q e r _=>?_⟩⟩
 · refine A0 (υ:=[Z (.inr b),Z (.inl (.str w)),Z (.inl (ej τ))]) ?_;show cK p [Z (.inr b),Z (.inl (.str w)),Z (.inl (ej τ))]=_;unfold cK;have g:õ p [Z (.inr b),Z (.inl (.str w)),Z (.inl (ej τ))]=[Z (ō j i Α Υ),Z (.str w),Z (ej τ)]:=by simp only[õ,E_,XT,Option.bind_some];rw[h.vw];rfl
   have v:CQ (Bl 1 2 (da 0)) (bg (aG (eI (bJ (Y 1) (f1 (m7 1 1) (Y 0))))) fu) p [Z (.inr b),Z (.inl (.str w)),Z (.inl (ej τ))]=Z (.ok (.inl .non) (p.set k (.lst (Α.map ö++[ö (w,i)])))):=qt (mX (aV rfl) h.o rfl) h.d (aO (ak (j:=ö (w,i)) (by rw[g];rfl) (Ba _)) rfl) h.d (by simpa using(by omega:Α.length<100000));rw[aB (fT v)];have n:(p.set k (.lst (Α.map ö++[ö (w,i)]))++[ñ.lst []])[b]?=Z (ń j i k ι):=by rw[I_ (by simpa using o),on (Uq h.na)];exact h.o
   have u:xf 1 3 (da 0) (xb fu) (p.set k (.lst (Α.map ö++[ö (w,i)]))) [Z (.inr b),Z (.inl (.str w)),Z (.inl (ej τ))]=Z (.nx [Z (.inr b),Z (.inl (.str w)),Z (.inl (ej τ))] ((p.set k (.lst (Α.map ö++[ö (w,i)]))++[ñ.lst []]).set b (ń j i k p.length))):=by have:=jP (b:=1) (k:=3) (a:=[.inl j,.inl (ej i),.inr k,.inr p.length]) (Η:=xb fu) (o:=da 0) (p:=p.set k (.lst (Α.map ö++[ö (w,i)]))) (υ:=[Z (.inr b),Z (.inl (.str w)),Z (.inl (ej τ))]) lP (aV rfl) n (by simp[wD]);exact this
   rw[aB u];have m:((p.set k (.lst (Α.map ö++[ö (w,i)]))++[ñ.lst []]).set b (ń j i k p.length))[b]?=Z (ń j i k p.length):=w_ (by simp;omega);have f:(Y 2) (õ ((p.set k (.lst (Α.map ö++[ö (w,i)]))++[ñ.lst []]).set b (ń j i k p.length)) [Z (.inr b),Z (.inl (.str w)),Z (.inl (ej τ))])=Z (.ok (ej τ)):=rfl;have s:=jP (b:=1) (k:=1) (a:=[.inl j,.inl (ej τ),.inr k,.inr p.length]) (Η:=aG (Y 2)) (o:=da 0) (ak f (k7 τ)) (aV rfl) m (by simp[wD]);rw[s];simp[ń]
 ·exact w_ (by simp;omega)
 ·rw[on h.na,on h.na,I_ (by simpa using d)];exact w_ d
 ·rw[on (by omega),on (by omega),K_ (by simp)];simp
 ·rw[on (Uq e),on (Uq e),I_ (by simpa using q),on (Uq r)]
def Did(S:Ú)(n:Nat)(T:Q)(f:List ai)(g:List Sp)(a b:Nat)(e:List ai)(w:Str)(v:Q)(r:Option (Ru Uv)):Prop:=∃d,r=Z (.ok (.inl v) d)/\DA d n T e (g++[(w,f)]) [] a S.length/\Ch S d n a b
theorem Bb(a:List ai):fJ [ej a]=Z (.ok (.int (a.length:Nat))):=by simp[fJ,ej]
theorem Fz(h:δ[0]?=Z (Z (ō j i Α Υ))):f1 (m7 1 1) (Y 0) δ=Z (.ok (ej i)):=by unfold f1 Y;rw[h];rfl
theorem Rn(h:δ[0]?=Z (Z (ō j i Α Υ))):f1 (m7 1 0) (Y 0) δ=Z (.ok j):=by unfold f1 Y;rw[h];rfl
theorem FB(h:DA p b j i Α Υ k ι)(a:υ[0]?=Z (Z (.inr b))):(õ p υ)[0]?=Z (Z (ō j i Α Υ)):=by unfold õ;rw[L_,a];show Z (vw p (.inr b))=_;rw[h.vw]
theorem vO(h:DA p b j i Α Υ k ι)(w:Str)(m:Α.length<1000):Did p b j i Α k ι τ w (.int ((i.length:Int)-(τ.length:Int))) (bY p [.inr b,.inl (.str w),.inl (ej τ)]):=by obtain⟨d,e,a,C⟩:=ĺ (τ:=τ) h w m;refine⟨d,iF ?_,a,C⟩;show bE p [Z (.inr b),Z (.inl (.str w)),Z (.inl (ej τ)),U]=_;unfold bE;have f:=FB (υ:=[Z (.inr b),Z (.inl (.str w)),Z (.inl (ej τ)),U]) h rfl;have n:(R kG (á fJ (al (f1 (m7 1 1) (Y 0)))) (á fJ (al (Y 2)))) (õ p [Z (.inr b),Z (.inl (.str w)),Z (.inl (ej τ)),U])=Z (.ok (.int ((i.length:Int)-(τ.length:Int)))):=(bb (j:=.int (i.length:Nat)) (μ:=.int (τ.length:Nat)) ((dg (ae (Fz f) au)).trans (Bb i)) ((dg (ae (j:=ej τ) rfl au)).trans (Bb τ))).trans rfl;rw[aB (cA (a:=[Z (.inr b),Z (.inl (.str w)),Z (.inl (ej τ)),Z (.inl (.int ((i.length:Int)-(τ.length:Int))))]) (ak n rfl) rfl)];have g:cH 1 cf 2 (da 0) (bg (aG (Y 1)) (bg (aG (Y 2)) fu)) p [Z (.inr b),Z (.inl (.str w)),Z (.inl (ej τ)),Z (.inl (.int ((i.length:Int)-(τ.length:Int))))]=Z (.ok (.inl .non) d):=(bL (a:=[.inl (.str w),.inl (ej τ)]) (aV rfl) h.o (aO (ak (j:=.str w) rfl rfl) (aO (ak (j:=ej τ) rfl (k7 τ)) rfl)) rfl).trans e;rw[aB (fT g)];exact eZ (ak (j:=.int ((i.length:Int)-(τ.length:Int))) rfl rfl)
theorem cE2(F:Ö){f g:Ò}{d:Ev}{a b:Q}{r:Option (Rs Q)}(h:f d=Z (.ok a))(i:g d=Z (.ok b))(e:F [a,b]=r):aF F 2 (bJ f g) d=r:=cE F (ae h (ae i au)) rfl e
theorem vP(h:DA p b j i Α Υ k ι)(g:Α.length<1000){a:Int}(e:kg [ej i,.int a]=Z (.ok (ej τ))):Did p b j i Α k ι τ "sweep" (.int ((i.length:Int)-(τ.length:Int))) (cV p [.inr b,.inl (.int a)]):=by obtain⟨n,m,d,C⟩:=vO (τ:=τ) h "sweep" g;refine⟨n,iF ?_,d,C⟩;show dU p [Z (.inr b),Z (.inl (.int a))]=_;unfold dU;have f:=FB (υ:=[Z (.inr b),Z (.inl (.int a))]) h rfl;exact eZ ((bL (a:=[.inl (.str "sweep"),.inl (ej τ)]) (aV rfl) h.o (aO (ak (j:=.str "sweep") rfl rfl) (aO (ak (j:=ej τ) (cE2 kg (Fz f) (b:=.int a) rfl e) (k7 τ)) rfl)) rfl).trans m)
theorem Bc(h:DA p b j i Α Υ k ι)(g:Α.length<1000){a:Str}(e:fF [ej i,.str a]=Z (.ok (ej τ))):Did p b j i Α k ι τ "forget" (.int ((i.length:Int)-(τ.length:Int))) (di p [.inr b,.inl (.str a)]):=by obtain⟨n,m,d,C⟩:=vO (τ:=τ) h "forget" g;refine⟨n,iF ?_,d,C⟩;show dh p [Z (.inr b),Z (.inl (.str a))]=_;unfold dh;have f:=FB (υ:=[Z (.inr b),Z (.inl (.str a))]) h rfl;exact eZ ((bL (a:=[.inl (.str "forget"),.inl (ej τ)]) (aV rfl) h.o (aO (ak (j:=.str "forget") rfl rfl) (aO (ak (j:=ej τ) (cE2 fF (Fz f) (b:=.str a) rfl e) (k7 τ)) rfl)) rfl).trans m)
theorem DQ(h:DA p b j i Α Υ k ι)(g:Α.length<1000){d:List ai}(e:ei [ej i,ej d]=Z (.ok (ej τ))):Did p b j i Α k ι τ "merge" (.int (τ.length:Nat)) (el p [.inr b,.inl (ej d)]):=by obtain⟨n,m,a,C⟩:=ĺ (τ:=τ) h "merge" g;refine⟨n,iF ?_,a,C⟩;show cr p [Z (.inr b),Z (.inl (ej d)),U]=_;unfold cr;have f:=FB (υ:=[Z (.inr b),Z (.inl (ej d)),U]) h rfl;rw[aB (cA (a:=[Z (.inr b),Z (.inl (ej d)),Z (.inl (ej τ))]) (ak (j:=ej τ) (cE2 ei (Fz f) (b:=ej d) rfl e) (k7 τ)) rfl)];refine U5 (aB (fT ((bL (a:=[.inl (.str "merge"),.inl (ej τ)]) (aV rfl) h.o (aO (ak (j:=.str "merge") rfl rfl) (aO (ak (j:=ej τ) rfl (k7 τ)) rfl)) rfl).trans m))) ?_;exact eZ (ak (j:=.int (τ.length:Nat)) ((dg (ae (j:=ej τ) rfl au)).trans (Bb τ)) rfl)
theorem Jj(h:DA p b j i Α Υ k ι){a:List ai}(e:ei [ej i,ej a]=Z (.exc 5)):el p [.inr b,.inl (ej a)]=Z (.exc 5 p):=by refine Fy ?_;show cr p [Z (.inr b),Z (.inl (ej a)),U]=_;unfold cr;have d:=FB (υ:=[Z (.inr b),Z (.inl (ej a)),U]) h rfl;exact Fv (Fw (AZ (cE2 ei (Fz d) (b:=ej a) rfl e)))
theorem cE5(F:Ö){f g k m q:Ò}{i:Ev}{a b c d e:Q}{r:Option (Rs Q)}(h:f i=Z (.ok a))(s:g i=Z (.ok b))(j:k i=Z (.ok c))(p:m i=Z (.ok d))(o:q i=Z (.ok e))(n:F [a,b,c,d,e]=r):aF F 5 (ni f g k m q) i=r:=cE F (ae h (ae s (ae j (ae p (ae o au))))) rfl n
theorem Jk(h:DA p b j i Α Υ k ι)(m:Α.length<1000){A X:Q}{d:Int}{w:Str}(s:pl A=L)(r:pl X=L)(e:fm [j,ej i,A,X,.int d]=Z (.ok (ej τ)))(n:fV [j,ej i,A,X,.int d]=Z (.ok (.str w))):Did p b j i Α k ι τ "give" (.str w) (dF p [.inr b,.inl A,.inl X,.inl (.int d)]):=by obtain⟨q,o,a,C⟩:=ĺ (τ:=τ) h "give" m;refine⟨q,iF ?_,a,C⟩;show cR p [Z (.inr b),Z (.inl A),Z (.inl X),Z (.inl (.int d)),U,U]=_;unfold cR;have g:=FB (υ:=[Z (.inr b),Z (.inl A),Z (.inl X),Z (.inl (.int d)),U,U]) h rfl;have f:=FB (υ:=[Z (.inr b),Z (.inl A),Z (.inl X),Z (.inl (.int d)),Z (.inl (ej τ)),U]) h rfl;rw[aB (cA (a:=[Z (.inr b),Z (.inl A),Z (.inl X),Z (.inl (.int d)),Z (.inl (ej τ)),U]) (ak (j:=ej τ) (cE5 fm (Rn g) (Fz g) (c:=A) (d:=X) (e:=.int d) rfl rfl rfl e) (k7 τ)) rfl)];rw[aB (cA (a:=[Z (.inr b),Z (.inl A),Z (.inl X),Z (.inl (.int d)),Z (.inl (ej τ)),Z (.inl (.str w))]) (ak (j:=.str w) (cE5 fV (Rn f) (Fz f) (c:=A) (d:=X) (e:=.int d) rfl rfl rfl n) rfl) rfl)];refine U5 (aB (fT ((bL (a:=[.inl (.str "give"),.inl (ej τ)]) (aV rfl) h.o (aO (ak (j:=.str "give") rfl rfl) (aO (ak (j:=ej τ) rfl (k7 τ)) rfl)) rfl).trans o))) ?_;exact eZ (ak (j:=.str w) rfl rfl)
theorem Og(h:DA p b j i Α Υ k ι){A X:Q}{a:Int}(e:fm [j,ej i,A,X,.int a]=Z (.exc 5)):dF p [.inr b,.inl A,.inl X,.inl (.int a)]=Z (.exc 5 p):=by refine Fy ?_;show cR p [Z (.inr b),Z (.inl A),Z (.inl X),Z (.inl (.int a)),U,U]=_;unfold cR;have d:=FB (υ:=[Z (.inr b),Z (.inl A),Z (.inl X),Z (.inl (.int a)),U,U]) h rfl;exact Fv (Fw (AZ (cE5 fm (Rn d) (Fz d) (c:=A) (d:=X) (e:=.int a) rfl rfl rfl e)))
noncomputable def w4:List Str:=[b_ "give",b_ "sweep",b_ "forget",b_ "merge"]
theorem Bd:(w4.all λx=>Ue (.str x))=L:=by lk
theorem Ro(h:Ę b j)(q:b<=k):Ę k j:=⟨h.1,TU h.2 q,h.3⟩
structure DR(s:Sp):Prop where
 w:s.1∈w4
 g:∀n∈s.2,ç n
theorem Oh{s:Sp}(h:DR s):Ę 3 (ö s):=sg λd a=>by
 simp only[uk,TD,or_false]at a;rcases a with rfl|rfl;·exact Ro (ji (aX (p:=λx=>Ue (.str x)) Bd h.w)) (by omega)
 ·exact DC h.g
theorem w5(h:∀s∈Α,DR s)(f:Α≠[]):ß (.lst (Α.map ö)) (.lst [])=bo D:=by cases Α with|nil=>exact absurd rfl f|cons o rest=>
 have b:Ę 4 (.lst ((o::rest).map ö)):=vA λd g=>by obtain⟨s,e,rfl⟩:=R_.mp g;exact Oh (h s e)
 have i2:=b.okP (by omega);have a:okP (.lst [])=L:=by lk
 unfold ß;rw[show Ŕ (.lst ((o::rest).map ö)) (.lst [])=U from rfl,i2,a];simp[fZ,ò,UL,Vr]
theorem Oi{d a:Uv}{e:List Q}(m:p[b]?=Z (.obj 1 [.inl j,.inl (ej i),d,a]))(h:(d=.inr k/\a=.inr ι)\/(d=.inr ι/\a=.inr k))(g:p[k]?=Z (.lst E))(f:p[ι]?=Z (.lst e)):∃fs,vw p (.inr b)=Z (.obj 1 (j::ej i::fs)):=by
 unfold FD.vw;dsimp only;rw[m];rcases h with⟨rfl,rfl⟩|⟨rfl,rfl⟩;·exact⟨[.lst E,.lst e],by simp[vwL,vw1,g,f]⟩
 ·exact⟨[.lst e,.lst E],by simp[vwL,vw1,g,f]⟩
theorem Be{e a:Uv}(m:p[b]?=Z (.obj 1 [.inl j,.inl (ej i),e,a]))(I:(e=.inr k/\a=.inr ι)\/(e=.inr ι/\a=.inr k))(g:p[k]?=Z (.lst ((Υ++[(d,τ)]).map ö)))(n:p[ι]?=Z (.lst (Α.map ö)))(A:b≠k)(z:b≠ι)(s:k≠ι)(w:∀q∈Υ++[(d,τ)],DR q)(hl:Α.length<1000):gH p [.inr b,.inr k,.inr ι]=Z (.ok (.inl (.str d)) (((p.set k (.lst (Υ.map ö))).set ι (.lst ((Α++[(d,i)]).map ö))).set b (.obj 1 [.inl j,.inl (ej τ),e,a]))):=by
 have E:=ez g;have lt':=ez n;have ln:=ez m;refine iF ?_;show fz p [Z (.inr b),Z (.inr k),Z (.inr ι),U]=_;unfold fz;have N:Y 1 (õ p [Z (.inr b),Z (.inr k),Z (.inr ι),U])=Z (.ok (.lst ((Υ++[(d,τ)]).map ö))):=by unfold Y;rw[show(õ p [Z (.inr b),Z (.inr k),Z (.inr ι),U])[1]?=Z (vw p (.inr k))from rfl];unfold FD.vw;dsimp only;rw[g]
 have P:(fB (R ß (Y 1) (gB bZ))) (õ p [Z (.inr b),Z (.inr k),Z (.inr ι),U])=Z (.ok D):=bi ((bb N (μ:=.lst []) rfl).trans (w5 w (by simp)));rw[aB (a:=[Z (.inr b),Z (.inr k),Z (.inr ι),U]) (Ξ:=p) (Jh (cU P))];have v:Mv (da 1) p [Z (.inr b),Z (.inr k),Z (.inr ι),U]=Z (.ok (.inl (ö (d,τ))) (p.set k (.lst (Υ.map ö)))):=Ji (aV rfl) (by rw[g];simp);rw[aB (cA (a:=[Z (.inr b),Z (.inr k),Z (.inr ι),Z (.inl (ö (d,τ)))]) v rfl)];have u:(p.set k (.lst (Υ.map ö)))[k]?=Z (.lst (Υ.map ö)):=w_ E;have f:(p.set k (.lst (Υ.map ö)))[ι]?=Z (.lst (Α.map ö)):=by rw[on s];exact n
 have h:(p.set k (.lst (Υ.map ö)))[b]?=Z (.obj 1 [.inl j,.inl (ej i),e,a]):=by rw[on (Uq A)];exact m
 obtain⟨fs,H⟩:=Oi h I u f;have o:(õ (p.set k (.lst (Υ.map ö))) [Z (.inr b),Z (.inr k),Z (.inr ι),Z (.inl (ö (d,τ)))])[0]?=Z (Z (.obj 1 (j::ej i::fs))):=by show Z (vw _ (.inr b))=_;rw[H]
 have r:(eI (bJ (R Î (Y 3) (X 0)) (f1 (m7 1 1) (Y 0)))) (õ (p.set k (.lst (Υ.map ö))) [Z (.inr b),Z (.inr k),Z (.inr ι),Z (.inl (ö (d,τ)))])=Z (.ok (ö (d,i))):=jG (ae (j:=.str d) rfl (ae (j:=ej i) (by unfold f1 Y;rw[o];rfl) au)) (by show 2<=100000;decide);have a1:CQ (da 2) (bg (aG (eI (bJ (R Î (Y 3) (X 0)) (f1 (m7 1 1) (Y 0))))) fu) (p.set k (.lst (Υ.map ö))) [Z (.inr b),Z (.inr k),Z (.inr ι),Z (.inl (ö (d,τ)))]=Z (.ok (.inl .non) ((p.set k (.lst (Υ.map ö))).set ι (.lst (Α.map ö++[ö (d,i)])))):=qt (aV rfl) f (aO (ak r (Ba _)) rfl) f (by simpa using(by omega:Α.length<100000));rw[aB (fT a1)];have y:((p.set k (.lst (Υ.map ö))).set ι (.lst (Α.map ö++[ö (d,i)])))[b]?=Z (.obj 1 [.inl j,.inl (ej i),e,a]):=by rw[on (Uq z)];exact h
 have a3:=jP (b:=1) (k:=1) (a:=[.inl j,.inl (ej τ),e,a]) (Η:=aG (R Î (Y 3) (X 1))) (o:=da 0) (υ:=[Z (.inr b),Z (.inr k),Z (.inr ι),Z (.inl (ö (d,τ)))]) (ak (j:=ej τ) rfl (k7 τ)) (aV rfl) y (by simp[wD]);rw[aB a3];refine(eZ (ak (j:=.str d) rfl rfl)).trans ?_;simp
theorem Bf(h:DA p b j i (Υ++[(d,τ)]) Α k ι)(f:∀q∈Υ++[(d,τ)],DR q)(o:Α.length<1000):∃a,bQ p [.inr b]=Z (.ok (.inl (.str d)) a)/\DA a b j τ Υ (Α++[(d,i)]) k ι/\Ch p a b k ι:=by
 have e:=Be (e:=.inr k) (a:=.inr ι) (k:=k) (ι:=ι) h.o (.inl ⟨rfl,rfl⟩) h.d h.u h.na h.nb h.ab f o;have g:=ez h.o;have n:=ez h.d;have m:=ez h.u;refine⟨((p.set k (.lst (Υ.map ö))).set ι (.lst ((Α++[(d,i)]).map ö))).set b (ń j τ k ι),iF (u:=.inl (.str d)) ?_,⟨?_,?_,?_,h.na,h.nb,h.ab⟩,⟨by simp,λc v u s r=>?_⟩⟩;·show fA p [Z (.inr b)]=_;unfold fA;exact eZ ((bL (a:=[.inr k,.inr ι]) (aV rfl) h.o (aO (mX (aV rfl) h.o rfl) (aO (mX (aV rfl) h.o rfl) rfl)) rfl).trans e)
 ·exact w_ (by simpa using g)
 ·rw[on h.na,on (Uq h.ab)];exact w_ n
 ·rw[on h.nb];exact w_ (by simpa using m)
 ·rw[on (Uq u),on (Uq r),on (Uq s)]
theorem DS(h:DA p b j i Α (Υ++[(d,τ)]) k ι)(f:∀q∈Υ++[(d,τ)],DR q)(o:Α.length<1000):∃a,fP p [.inr b]=Z (.ok (.inl (.str d)) a)/\DA a b j τ (Α++[(d,i)]) Υ k ι/\Ch p a b k ι:=by
 have e:=Be (e:=.inr k) (a:=.inr ι) (k:=ι) (ι:=k) h.o (.inr ⟨rfl,rfl⟩) h.u h.d h.nb h.na (Uq h.ab) f o;have g:=ez h.o;have n:=ez h.d;have m:=ez h.u;refine⟨((p.set ι (.lst (Υ.map ö))).set k (.lst ((Α++[(d,i)]).map ö))).set b (ń j τ k ι),iF (u:=.inl (.str d)) ?_,⟨?_,?_,?_,h.na,h.nb,h.ab⟩,⟨by simp,λc v u s r=>?_⟩⟩;·show dR p [Z (.inr b)]=_;unfold dR;exact eZ ((bL (a:=[.inr ι,.inr k]) (aV rfl) h.o (aO (mX (aV rfl) h.o rfl) (aO (mX (aV rfl) h.o rfl) rfl)) rfl).trans e)
 ·exact w_ (by simpa using g)
 ·rw[on h.na];exact w_ (by simpa using n)
 ·rw[on h.nb,on h.ab];exact w_ m
 ·rw[on (Uq u),on (Uq s),on (Uq r)]
theorem vQ(S:List ε)(x y:ε)(r:List ε):(S++x::r).set S.length y=S++y::r:=by rw[List.set_append_right _ _ (pi _),WA];rfl
theorem mY(S:List ε)(x:ε)(r:List ε):(S++x::r)[S.length]?=Z x:=by rw[K_ (pi _),WA];rfl
theorem DA.app(h:DA p b j i Α Υ k ι)(r:Ú):DA (p++r) b j i Α Υ k ι:=⟨by rw[I_ (ez h.o)];exact h.o,by rw[I_ (ez h.d)];exact h.d,by rw[I_ (ez h.u)];exact h.u,h.na,h.nb,h.ab⟩
theorem Rp(h:cz [j]=bo L):aW [j]=Z (.ok .non):=by simp[aW,gA,dP,br,c5,Ù,cF,fB,Ą,ag,aP,bZ,Y,h]
theorem Jl(g:cz [j]=bo L)(f:pl j=L):cx (p++[.obj 1 []]) [.inr p.length,.inl j]=Z (.ok (.inl .non) (p++[ń j [] (p.length+1) (p.length+2),.lst [],.lst []])):=by
 refine A0 (υ:=[Z (.inr p.length),Z (.inl j)]) ?_;show cw (p++[.obj 1 []]) [Z (.inr p.length),Z (.inl j)]=_;unfold cw;have k:aF aW 1 (al (Y 1)) (õ (p++[.obj 1 []]) [Z (.inr p.length),Z (.inl j)])=Z (.ok .non):=cE aW (ae (j:=j) rfl au) rfl (Rp g);rw[aB (fT (ak k rfl))];have e:=jP (b:=1) (k:=0) (a:=[.inl j]) (Η:=aG (Y 1)) (o:=da 0) (υ:=[Z (.inr p.length),Z (.inl j)]) (ak (j:=j) rfl f) (aV rfl) (mY p (.obj 1 []) []) (by simp[wD,ď]);rw[vQ]at e;rw[aB e];have d:=jP (b:=1) (k:=1) (a:=[.inl j,.inl (ej [])]) (Η:=aG (eI bZ)) (o:=da 0) (υ:=[Z (.inr p.length),Z (.inl j)]) (ak (j:=ej []) rfl (k7 [])) (aV rfl) (mY p (.obj 1 [.inl j]) []) (by simp[wD,ď]);rw[vQ]at d;rw[aB d];have m:(p++[ñ.obj 1 [.inl j,.inl (ej [])]]).length=p.length+1:=by simp
 have i:(p++[ñ.obj 1 [.inl j,.inl (ej [])]]++[ñ.lst []])[p.length]?=Z (.obj 1 [.inl j,.inl (ej [])]):=by rw[VB];exact mY p _ _
 have b:=jP (b:=1) (k:=2) (a:=[.inl j,.inl (ej []),.inr (p.length+1)]) (Η:=xb fu) (o:=da 0) (υ:=[Z (.inr p.length),Z (.inl j)]) (lP (p:=p++[ñ.obj 1 [.inl j,.inl (ej [])]])) (aV rfl) i (by simp[wD,ď]);rw[VB,List.singleton_append,vQ]at b;rw[aB b];have h:(p++ñ.obj 1 [.inl j,.inl (ej []),.inr (p.length+1)]::[ñ.lst []]++[ñ.lst []])[p.length]?=Z (.obj 1 [.inl j,.inl (ej []),.inr (p.length+1)]):=by rw[VB];exact mY p _ _
 have a:=jP (b:=1) (k:=3) (a:=[.inl j,.inl (ej []),.inr (p.length+1),.inr (p.length+2)]) (Η:=xb fu) (o:=da 0) (υ:=[Z (.inr p.length),Z (.inl j)]) (lP (p:=p++ñ.obj 1 [.inl j,.inl (ej []),.inr (p.length+1)]::[ñ.lst []])) (aV rfl) h (by simp[wD,ď]);rw[VB,List.cons_append,vQ]at a;rw[a];rfl
theorem Jm{a:mC}(e:cz [j]=bo L)(b:pl j=L)(d:a p υ=Z (.ok [.inl j] p)):zV 1 cx 1 a p υ=Z (.ok (.inr p.length) (p++[ń j [] (p.length+1) (p.length+2),.lst [],.lst []])):=by unfold zV jC;rw[d];dsimp only;rw[show([X7 j]:List Uv).length=1 from rfl,if_pos rfl,Jl e b]
theorem Oj(S:Ú):DA (S++[ń j [] (S.length+1) (S.length+2),.lst [],.lst []]) S.length j [] [] [] (S.length+1) (S.length+2):=by
 refine⟨mY S _ _,?_,?_,by omega,by omega,by omega⟩;·rw[K_ (by omega),show S.length+1-S.length=1 by omega];rfl
 ·rw[K_ (by omega),show S.length+2-S.length=2 by omega];rfl
theorem lQ{g:Q->Q->Option (Rs Q)}(h:Η p υ=Z (.ok (.inl j) Ξ))(b:y (õ Ξ υ)=Z (.ok μ))(a:g j μ=Z (.ok (.bl H))):fw g Η y p υ=Z (.ok (.inl (.bl H)) Ξ):=by unfold fw jC;rw[h];dsimp only;rw[show vw Ξ (.inl j)=Z j from rfl,b];dsimp only;rw[a]
theorem Bg{g:Q->Q->Option (Rs Q)}(h:Η p υ=Z (.exc b Ξ)):fw g Η y p υ=Z (.exc b Ξ):=by unfold fw jC;rw[h]
def W8:Q:=.tup (ű.map Q.str)
def E9(f:List Int)(z:Int)(n:Nat)(a d:Int)(l:Int)(e b:Option Uv):í:=[Z (.inl (.scr f)),Z (.inl (.int z)),Z (.inr n),Z (.inl (.int a)),Z (.inl (.int d)),Z (.inl (.int l)),Z (.inl W8),e,b]
structure DI(now:Int)(js:List ai)(ds us:List Sp)(m:Nat):Prop where
 j:JS now js
 l:js.length<=20o:∀s∈ds,DR s/\JS now s.2/\s.2.length<=20v:∀s∈us,DR s/\JS now s.2/\s.2.length<=20m:ds.length+us.length<=m
theorem DI.later{e b:Int}{i:List ai}{j f:List Sp}{m g:Nat}(a:DI e i j f m)(h:e<=b)(k:m<=g):DI b i j f g:=⟨a.j.later h,a.l,λs d=>⟨(a.o s d).1,(a.o s d).2.1.later h,(a.o s d).2.2⟩,λs d=>⟨(a.v s d).1,(a.v s d).2.1.later h,(a.v s d).2.2⟩,by have:=a.m;omega⟩
theorem DI.did(a:DI n i Α Υ b)(e:d∈w4)(J:JS n τ)(l:τ.length<=20):DI n τ (Α++[(d,i)]) [] (b+1):=⟨J,l,λs f=>by
 rcases TH.mp f with q|q;·exact a.o s q
 ·rw[M_.mp q];exact⟨⟨e,a.j.g⟩,a.j,a.l⟩,by simp,by have:=a.m;simp;omega⟩
def Res(k:List Int)(z g:Int)(T:Q)(m:List ai)(o j:List Sp)(h:List ai)(i f:List Sp):Prop:=∀(S:Ú)(n a b:Nat),DA S n T m o j a b->∃e d,fI S [.inl (.scr k),.inl (.int z),.inr n,.inl (.int g)]=Z (.ok (.inl (.bl L)) e)/\DA e n T h i f a d/\Ch S e n a b/\(d=b\/S.length<=d)
theorem mZ{r:Option (Rs Q)}(h:δ[b]?=Z (Z (ō j i Α Υ)))(a:À [ō j i Α Υ]=r):dO 1 À 0 (Y b) bZ δ=r:=by unfold dO Y;rw[h];show(if isO 1 (ō j i Α Υ)=L then _ else U)=_;rw[if_pos (by rfl)];exact a
theorem v2{f:List Int}{d:Int}{e a:Option Uv}{l:Int}(h:DA p b j i Α Υ k ι):(õ p (E9 f n b Ω d l e a))[2]?=Z (Z (ō j i Α Υ)):=by show Z (vw p (.inr b))=_;rw[h.vw]
theorem Rq{f:List Int}{d:Int}{e a:Option Uv}{l:Int}(h:DA p b j i Α Υ k ι):á fJ (al (dO 1 aC 0 (Y 2) bZ)) (õ p (E9 f n b Ω d l e a))=Z (.ok (.int (i.length:Nat))):=(dg (ae (mZ (v2 h) jt) au)).trans (Bb i)
theorem vR{a:List Int}{d:Int}(h:DA p b j i Α Υ k ι)(g:ac [.scr a,.int n,.int 6]=Z (.ok (.int d))){u:Uv}{e:Ú}(f:EN 5 9 bf (fC (.bl L)) p (E9 a n b Ω d (i.length:Nat) U U)=Z (.rt u e)):fI p [.inl (.scr a),.inl (.int n),.inr b,.inl (.int Ω)]=Z (.ok u e):=by
 refine iF ?_;show fH p [Z (.inl (.scr a)),Z (.inl (.int n)),Z (.inr b),Z (.inl (.int Ω)),U,U,U,U,U]=_;unfold fH;refine U5 (aB (cA (a:=[Z (.inl (.scr a)),Z (.inl (.int n)),Z (.inr b),Z (.inl (.int Ω)),Z (.inl (.int d)),U,U,U,U]) (ak (j:=.int d) (nI ac (a:=.scr a) (b:=.int n) (c:=.int 6) rfl rfl rfl g) rfl) rfl)) ?_;have v:(õ p [Z (.inl (.scr a)),Z (.inl (.int n)),Z (.inr b),Z (.inl (.int Ω)),Z (.inl (.int d)),U,U,U,U])[2]?=Z (Z (ō j i Α Υ)):=by show Z (vw p (.inr b))=_;rw[h.vw]
 refine U5 (aB (cA (a:=[Z (.inl (.scr a)),Z (.inl (.int n)),Z (.inr b),Z (.inl (.int Ω)),Z (.inl (.int d)),Z (.inl (.int (i.length:Nat))),U,U,U]) (ak (j:=.int (i.length:Nat)) ((dg (ae (mZ v jt) au)).trans (Bb i)) rfl) rfl)) ?_;refine U5 (aB (cA (a:=E9 a n b Ω d (i.length:Nat) U U) (ak (j:=W8) rfl rfl) rfl)) ?_;exact f
theorem EQ{u:Uv}(h:Â p υ=Z (.rt u Ξ)):EN 5 9 Â (fC (.bl L)) p υ=Z (.rt u Ξ):=by unfold EN;rw[h]
theorem Nf(h:Â p υ=Z (.exc 5 p)):EN 5 9 Â (fC (.bl L)) p υ=Z (.rt (.inl (.bl L)) p):=by unfold EN;rw[h];rfl
theorem lt3{f:List Int}{d:Int}{e a:Option Uv}{l:Int}:c8 (fB (R Ż (Y 4) (X 3))) p (E9 f n b Ω d l e a)=Z (.ok (t_ (d<3)) p):=cU (bi ((bb (j:=.int d) (μ:=.int 3) rfl rfl).trans rfl))
theorem eqk{f:List Int}{d:Int}{e a:Option Uv}{l k:Int}:c8 (fB (R ß (Y 4) (fC (.int k)))) p (E9 f n b Ω d l e a)=Z (.ok (d==k) p):=cU (bi ((bb (j:=.int d) (μ:=.int k) rfl rfl).trans rfl))
theorem ifN{a:nq}(h:a p υ=Z (.ok D p)):Ğ a Â nu p υ=Z (.nx υ p):=(Jh h).trans rfl
theorem Ĵ(x y:Int):ß (.int x) (.int y)=Z (.ok (.bl (x==y))):=rfl
theorem Rr(h:d∈ű):ı (.str d) W8=bo L:=by unfold ű at h;simp only[uk,TD,or_false]at h;rcases h with rfl|rfl|rfl|rfl|rfl|rfl|rfl|rfl<;>lk
theorem Jn(a:Ak d o j):pl (ü H d o j)=L:=by rcases a.o with rfl|⟨b,_,rfl⟩<;>rfl
theorem qu{o:List Int}{g:Int}(p:∀S f a b,DA S f j i Α Υ a b->∃r m,bf S (E9 o n f Ω g (i.length:Nat) U U)=Z (.rt (.inl (.bl r)) m)/\DA m f j τ (Α++[(d,i)]) [] a S.length/\Ch S m f a b/\r=L)(q:ac [.scr o,.int n,.int 6]=Z (.ok (.int g))):Res o n Ω j i Α Υ τ (Α++[(d,i)]) []:=λS f a b h=>by obtain⟨r,m,e,k,C,rfl⟩:=p S f a b h;exact⟨m,S.length,vR h q (EQ e),k,C,.inr (pi _)⟩
theorem FF{f:List Int}{d:Int}(g:∀S e a b,DA S e j i Α Υ a b->bf S (E9 f n e Ω d (i.length:Nat) U U)=Z (.exc 5 S))(k:ac [.scr f,.int n,.int 6]=Z (.ok (.int d))):Res f n Ω j i Α Υ i Α Υ:=λS e a b h=>⟨S,b,vR h k (Nf (g S e a b h)),h,.refl,.inl rfl⟩
noncomputable def bd(a:Int):Int:=if a<13 then 13 else a
theorem DT(a:Int):a<=bd a:=by unfold bd;split<;>omega
theorem Rt(a:Int):13<=bd a:=by unfold bd;split<;>omega
theorem TB(a:E∈kZ ë):pl (.tup E)=L:=by
 have:(kZ ë).all (λE=>pl (.tup E))=L:=by lk
 exact aX (p:=λE=>pl (.tup E)) this a
theorem Jp{o:List Int}(hl:o.length<=63)(z:Int)(ht:E∈kZ ë)(J:DI n i Α Υ b)(n0:0<=n)(n1:n<=200)(hm:b<900):∃c' I A,DI (bd n) c' I A (b+1)/\((c'=i/\I=Α/\A=Υ)\/∃w,I=Α++[(w,i)]/\A=[])/\Res o z n (.tup E) i Α Υ c' I A:=by
 obtain⟨d,d0,d1,e0⟩:=aU o hl z 6 (by omega);have e':=J.m;have dl:Α.length<1000:=by omega
 have JB:=J.later (DT n) (pi b);have stay:DI (bd n) i Α Υ (b+1):=JB.later (Int.le_refl _) (by omega);by_cases h3:d<3
 ·obtain⟨s,h,p,O,hh,hp,hO,eA⟩:=Dr o hl (z+1);have a:Ak h p O:=⟨me hh,hp,hO⟩;obtain⟨N,w,H,P,u,l,S0,k,g,eG⟩:=Dy o hl (z+8) hh;obtain⟨m,eX,eR⟩:=Jc g;have f1:∀(S:Ú)(f:Nat),bf S (E9 o z f n d (i.length:Nat) U U)=sqV (jv (fw ı (cH 1 dF 3 (da 2) (bg (aG (Y 7)) (bg (aG (ag cT 1 (al (Y 8)))) (bg (aG (Y 3)) fu)))) (Y 6)) S (E9 o z f n d (i.length:Nat) (Z (.inl (ü s h p O))) (Z (.inl (ā N w H P u l S0 k))))) (eK (Ğ (c8 (fB (R ß (Y 4) (X 3)))) (jv (fw ß (cH 1 cV 1 (da 2) (bg (aG (Y 3)) fu)) (R kG (Y 5) (á fJ (al (dO 1 aC 0 (Y 2) bZ)))))) nu) (eK (Ğ (c8 (fB (R ß (Y 4) (X 4)))) (jv (fw ß (cH 1 di 1 (da 2) (bg (aG (ag aN 2 (bJ (Y 0) (R bX (Y 1) (X 2))))) fu)) (R kG (Y 5) (á fJ (al (dO 1 aC 0 (Y 2) bZ)))))) nu) (jv (fw ß (cH 1 el 1 (da 2) (bg (aG (ag fW 3 (bN (Y 0) (R bX (Y 1) (X 25)) (X 3)))) fu)) (á fJ (al (dO 1 aC 0 (Y 2) bZ))))))):=λS f=>by
   unfold bf;show sqV (Ğ _ _ _ _ _) _=_;congr 1;refine U5 (DP (Ξ:=S) (by rw[lt3,decide_eq_true h3])) ?_;refine U5 (aB (cA (a:=E9 o z f n d (i.length:Nat) (Z (.inl (ü s h p O))) U) (ak (j:=ü s h p O) (gO ie (a:=.scr o) (b:=.int (z+1)) rfl rfl eA) (Jn a)) rfl)) ?_;have pg:pl (ā N w H P u l S0 k)=L:=by obtain⟨h',p',u',l',gw,e⟩:=NI g;rw[e];show â _=L;cases h'<;>cases p'<;>cases u'<;>cases l'<;>rfl
   exact aB (cA (a:=E9 o z f n d (i.length:Nat) (Z (.inl (ü s h p O))) (Z (.inl (ā N w H P u l S0 k)))) (ak (j:=ā N w H P u l S0 k) (nI dJ (a:=.scr o) (b:=.int (z+8)) (c:=.str h) rfl rfl rfl eG) pg) rfl)
  have ar:∀(S:Ú)(f:Nat),bg (aG (Y 7)) (bg (aG (ag cT 1 (al (Y 8)))) (bg (aG (Y 3)) fu)) S (E9 o z f n d (i.length:Nat) (Z (.inl (ü s h p O))) (Z (.inl (ā N w H P u l S0 k))))=Z (.ok [.inl (ü s h p O),.inl (.str m),.inl (.int n)] S):=λS f=>aO (ak (j:=ü s h p O) rfl (Jn a)) (aO (ak (j:=.str m) (fK cT (a:=ā N w H P u l S0 k) rfl eX) rfl) (aO (ak (j:=.int n) rfl rfl) rfl));rcases DF (Ä:=s) ht a g eR J.j J.l n0 n1 with⟨x,ys,hx,ev,et,Jy,ly⟩|et;·refine⟨ys,Α++[(b_ "give",i)],[],JB.did (by simp[w4]) (Jy.later (DT n)) ly,.inr ⟨_,rfl,rfl⟩,qu (g:=d) (λS f a' b' j=>?_) e0⟩;obtain⟨S',r,y,C⟩:=Jk j dl (A:=ü s h p O) (X:=.str m) (Jn a) rfl et ev;refine⟨L,S',?_,y,C,rfl⟩;rw[f1];have q:=eZ (lQ (μ:=W8) (y:=Y 6) (g:=ı) (υ:=E9 o z f n d (i.length:Nat) (Z (.inl (ü s h p O))) (Z (.inl (ā N w H P u l S0 k)))) ((bL (b:=1) (Η:=da 2) (a:=[.inl (ü s h p O),.inl (.str m),.inl (.int n)]) (aV rfl) j.o (ar S f) rfl).trans r) rfl (Rr hx));refine U5 (congrArg (λz=>sqV z _) q) rfl
  ·refine⟨i,Α,Υ,stay,.inl ⟨rfl,rfl,rfl⟩,FF (d:=d) (λS f a' b' j=>?_) e0⟩;have r:=Og j (A:=ü s h p O) (X:=.str m) et;rw[f1];have q:=Fx (Bg (y:=Y 6) (g:=ı) (υ:=E9 o z f n d (i.length:Nat) (Z (.inl (ü s h p O))) (Z (.inl (ā N w H P u l S0 k)))) ((bL (b:=1) (Η:=da 2) (a:=[.inl (ü s h p O),.inl (.str m),.inl (.int n)]) (aV rfl) j.o (ar S f) rfl).trans r));refine U5 (congrArg (λz=>sqV z _) q) rfl
 · have g3:∀(S:Ú)(f:Nat),Ğ (c8 (fB (R Ż (Y 4) (X 3)))) (eK (li 7 (aG (ag ie 2 (bJ (Y 0) (R bX (Y 1) (X 1)))))) (eK (li 8 (aG (ag dJ 3 (bN (Y 0) (R bX (Y 1) (X 8)) (R Î (Y 7) (X 1)))))) (jv (fw ı (cH 1 dF 3 (da 2) (bg (aG (Y 7)) (bg (aG (ag cT 1 (al (Y 8)))) (bg (aG (Y 3)) fu)))) (Y 6))))) nu S (E9 o z f n d (i.length:Nat) U U)=Z (.nx (E9 o z f n d (i.length:Nat) U U) S):=λS f=>ifN (by rw[lt3,decide_eq_false h3]);by_cases k3:d=3;·have es:=AK J.j J.l (k:=n) n0 (by omega);refine⟨Ē i n,Α++[(b_ "sweep",i)],[],JB.did (by simp[w4]) ((J.j.filt _).later (DT n)) (TU (Vl _ _) J.l),.inr ⟨_,rfl,rfl⟩,qu (g:=d) (λS f a' b' j=>?_) e0⟩;obtain⟨S',r,y,C⟩:=vP j dl es;refine⟨((i.length:Int)-((Ē i n).length:Int)==((i.length:Nat):Int)-((Ē i n).length:Int)),S',?_,y,C,by simp⟩;unfold bf;refine U5 (aB (g3 S f)) ?_;refine AY ?_;refine U5 (DP (Ξ:=S) (by rw[eqk,k3];rfl)) ?_;exact eZ (lQ (μ:=.int ((i.length:Int)-((Ē i n).length:Int))) ((bL (b:=1) (Η:=da 2) (a:=[.inl (.int n)]) (aV rfl) j.o (aO (ak (j:=.int n) rfl rfl) rfl) rfl).trans r) ((bb (j:=.int (i.length:Nat)) (μ:=.int ((Ē i n).length:Nat)) rfl (Rq y)).trans rfl) (Ĵ _ _))
   · have g4:∀(S:Ú)(f:Nat),Ğ (c8 (fB (R ß (Y 4) (X 3)))) (jv (fw ß (cH 1 cV 1 (da 2) (bg (aG (Y 3)) fu)) (R kG (Y 5) (á fJ (al (dO 1 aC 0 (Y 2) bZ)))))) nu S (E9 o z f n d (i.length:Nat) U U)=Z (.nx (E9 o z f n d (i.length:Nat) U U) S):=λS f=>ifN (by rw[eqk,show(d==3)=D by simpa using k3]);by_cases k4:d=4;·obtain⟨q,hq,eN⟩:=mR o hl (z+2);have es:=DO J.j J.l (h:=q) (me hq);refine⟨Jg i q,Α++[(b_ "forget",i)],[],JB.did (by simp[w4]) ((J.j.filt _).later (DT n)) (TU (Vl _ _) J.l),.inr ⟨_,rfl,rfl⟩,qu (g:=d) (λS f a' b' j=>?_) e0⟩;obtain⟨S',r,y,C⟩:=Bc j dl es;refine⟨((i.length:Int)-((Jg i q).length:Int)==((i.length:Nat):Int)-((Jg i q).length:Int)),S',?_,y,C,by simp⟩;unfold bf;refine U5 (aB (g3 S f)) ?_;refine U5 (aB (g4 S f)) ?_;refine AY ?_;refine U5 (DP (Ξ:=S) (by rw[eqk,k4];rfl)) ?_;exact eZ (lQ (μ:=.int ((i.length:Int)-((Jg i q).length:Int))) ((bL (b:=1) (Η:=da 2) (a:=[.inl (.str q)]) (aV rfl) j.o (aO (ak (j:=.str q) (gO aN (a:=.scr o) (b:=.int (z+2)) rfl rfl eN) rfl) rfl) rfl).trans r) ((bb (j:=.int (i.length:Nat)) (μ:=.int ((Jg i q).length:Nat)) rfl (Rq y)).trans rfl) (Ĵ _ _))
     · have g5:∀(S:Ú)(f:Nat),Ğ (c8 (fB (R ß (Y 4) (X 4)))) (jv (fw ß (cH 1 di 1 (da 2) (bg (aG (ag aN 2 (bJ (Y 0) (R bX (Y 1) (X 2))))) fu)) (R kG (Y 5) (á fJ (al (dO 1 aC 0 (Y 2) bZ)))))) nu S (E9 o z f n d (i.length:Nat) U U)=Z (.nx (E9 o z f n d (i.length:Nat) U U) S):=λS f=>ifN (by rw[eqk,show(d==4)=D by simpa using k4]);obtain⟨os,nw,eJ,Jo,lo,v⟩:=NW o hl (z+25) 3 (by omega);have d':JS (bd n) os:=⟨v.g,v.s,v.k,λx hx=>by have h1:=v.u x hx;have h2:=v.n1;have:=Rt n;omega⟩;have ar:∀(S:Ú)(f:Nat),bg (aG (ag fW 3 (bN (Y 0) (R bX (Y 1) (X 25)) (X 3)))) fu S (E9 o z f n d (i.length:Nat) U U)=Z (.ok [.inl (ej os)] S):=λS f=>aO (ak (j:=ej os) (nI fW (a:=.scr o) (b:=.int (z+25)) (c:=.int 3) rfl rfl rfl eJ) (k7 os)) rfl;rcases AX (JB.j) J.l d' (by omega)with⟨ys,em,Jy,ly⟩|em;·refine⟨ys,Α++[(b_ "merge",i)],[],JB.did (by simp[w4]) Jy ly,.inr ⟨_,rfl,rfl⟩,qu (g:=d) (λS f a' b' j=>?_) e0⟩;obtain⟨S',r,y,C⟩:=DQ j dl em;refine⟨(((ys.length:Nat):Int)==((ys.length:Nat):Int)),S',?_,y,C,by simp⟩;unfold bf;refine U5 (aB (g3 S f)) ?_;refine U5 (aB (g4 S f)) ?_;refine U5 (aB (g5 S f)) ?_;exact eZ (lQ (μ:=.int (ys.length:Nat)) ((bL (b:=1) (Η:=da 2) (a:=[.inl (ej os)]) (aV rfl) j.o (ar S f) rfl).trans r) (Rq y) (Ĵ _ _))
       ·refine⟨i,Α,Υ,stay,.inl ⟨rfl,rfl,rfl⟩,FF (d:=d) (λS f a' b' j=>?_) e0⟩;have r:=Jj j em;unfold bf;refine U5 (aB (g3 S f)) ?_;refine U5 (aB (g4 S f)) ?_;refine U5 (aB (g5 S f)) ?_;exact Fx (Bg ((bL (b:=1) (Η:=da 2) (a:=[.inl (ej os)]) (aV rfl) j.o (ar S f) rfl).trans r))
theorem Rv(h:d∈w4):ċ (.str d) (.str d)=bo D:=uu ((ji (aX (p:=λx=>Ue (.str x)) Bd h)).okP (by omega)) rfl
theorem Ol(a:∀n∈i,ç n):ċ (ej i) (ej i)=bo D:=DB (DC a) (by omega)
theorem Rw(a:∀n∈i,ç n):ß (ej i) (ej i)=bo L:=An ((DC a).okP (by omega)) (DC a).p
abbrev ĝ(x y:Nat):Q:=.tup [.int (x:Nat),.int (y:Nat)]
theorem Bh(x y:Nat):Ę 1 (ĝ x y):=sg λd a=>by simp only[uk,TD,or_false]at a;rcases a with rfl|rfl<;>exact vB
theorem Bi(x y:Nat):ċ (ĝ x y) (ĝ x y)=bo D:=DB (Bh x y) (by omega)
theorem Rx(x y:Nat):ß (ĝ x y) (ĝ x y)=bo L:=An ((Bh x y).okP (by omega)) (Bh x y).p
theorem Om(x:Nat):ċ (ĝ (x+1) 0) (ĝ x 0)=bo L:=by unfold ċ;rw[show Ŕ (ĝ (x+1) 0) (ĝ x 0)=U from rfl,(Bh (x+1) 0).okP (by omega),(Bh x 0).okP (by omega)];simp[fZ,ò,UL,Vr];omega
theorem DU(h:Η p υ=Z (.ok (.inl (.bl H)) Ξ)):uB Η p υ=Z (.ok H Ξ):=by unfold uB jC;rw[h];rfl
theorem On{a q:nq}(h:a p υ=Z (.ok D Ξ)):uOr a q p υ=q Ξ υ:=by unfold uOr jC;rw[h];rfl
theorem Jq{a:nq}(h:a p υ=Z (.ok H Ξ)):OM a p υ=Z (.ok (!H) Ξ):=by unfold OM jC;rw[h]
theorem uz{g:Q->Q->Option (Rs Q)}{u:Uv}(h:Η p υ=Z (.ok u Ξ))(a:vw Ξ u=Z j)(d:y (õ Ξ υ)=Z (.ok μ))(b:g j μ=Z (.ok (.bl H))):fw g Η y p υ=Z (.ok (.inl (.bl H)) Ξ):=by unfold fw jC;rw[h];dsimp only;rw[a,d];dsimp only;rw[b]
theorem iG{a:nq}(h:a p υ=Z (.ok D Ξ)):Ğ a Â nu p υ=Z (.nx υ Ξ):=(Jh h).trans rfl
theorem qv{a:Nat}(h:DA p k j i Α Υ ι a)(d:υ[b]?=Z (Z (.inr k))):(õ p υ)[b]?=Z (Z (ō j i Α Υ)):=by unfold õ;rw[L_,d];show Z (vw p (.inr k))=_;rw[h.vw]
theorem FH(h:p[b]?=Z (.lst E)):vw p (.inr b)=Z (.lst E):=by unfold FD.vw;dsimp only;rw[h]
theorem Oo(h:p[k]?=Z (.lst E))(a:υ[b]?=Z (Z (.inr k))):Y b (õ p υ)=Z (.ok (.lst E)):=by unfold Y õ;rw[L_,a];show(match Z (vw p (.inr k))with|some (Z d)=>_|_=>_)=_;rw[FH h]
theorem uA{f:List Nat}{a:í}(h:Â p ((HW f υ).set b (Z (.inl (.int (n+(k:Int)*Ω)))))=Z (.nx a Ξ)):lB b f Â n Ω (ι+1) k p υ=lB b f Â n Ω ι (k+1) Ξ a:=by show(match Â p ((HW f υ).set b (Z (.inl (.int (n+(k:Int)*Ω)))))with|some (.nx a Ξ)=>lB b f Â n Ω ι (k+1) Ξ a|o=>o)=_;rw[h]
theorem qw{f:List Nat}{w:Ś}{r:Option Ť}(h:w (õ p υ)=Z (n,Ω,k))(e:lB b f Â n Ω k 0 p υ=r):rK b f w Â p υ=r:=by unfold rK;rw[h];exact e
theorem FJ(h:ν δ=Z (.ok [.int (b:Int)]))(a:b<=1000):iU1 ν δ=Z (0,1,b):=by unfold iU1;rw[h];show(if ū (b:Int)then Z ((0:Int),(1:Int),(b:Int).toNat)else U)=_;rw[if_pos ⟨by omega,by omega⟩];rfl
theorem Op(h:ν δ=Z (.ok [.int 1,.int ((b:Int)+1)]))(a:b<=1000):iU2 ν δ=Z (1,1,b):=by unfold iU2;rw[h];show(if ū 1/\ū ((b:Int)+1)then Z ((1:Int),(1:Int),((b:Int)+1-1).toNat)else U)=_;rw[if_pos ⟨⟨by omega,by omega⟩,by omega,by omega⟩,show((b:Int)+1-1).toNat=b by omega]
theorem Oq(h:ν δ=Z (.ok [.int ((b:Int)-1),.int (-1),.int (-1)]))(a:b<=1000):iU3 ν δ=Z ((b:Int)-1,-1,b):=by unfold iU3;rw[h];show(if ū ((b:Int)-1)/\ū (-1)then Z ((b:Int)-1,(-1:Int),((b:Int)-1- -1).toNat)else U)=_;rw[if_pos ⟨⟨by omega,by omega⟩,by omega,by omega⟩,show((b:Int)-1- -1).toNat=b by omega]
noncomputable def Ŭ(w:Nat->Str)(r:Nat->List ai)(p:Nat):List Sp:=(p_ p).map λi=>(w i,r i)
noncomputable def Ŷ(w:Nat->Str)(r:Nat->List ai)(M:Nat)(p:Nat):List Sp:=(p_ (M-p)).map λq=>(w (M-1-q),r (M-q))
theorem Os(w:Nat->Str)(r:Nat->List ai)(p:Nat):Ŭ w r (p+1)=Ŭ w r p++[(w p,r p)]:=by simp[Ŭ,WE]
theorem Ot(w:Nat->Str)(r:Nat->List ai)(M:Nat){p:Nat}(h:p<M):Ŷ w r M p=Ŷ w r M (p+1)++[(w p,r (p+1))]:=by unfold Ŷ;rw[show M-p=(M-(p+1))+1 by omega,WE,UH,List.map_singleton,show M-1-(M-(p+1))=p by omega,show M-(M-(p+1))=p+1 by omega]
theorem Bj(w:Nat->Str)(r:Nat->List ai)(p:Nat):(Ŭ w r p).length=p:=by simp[Ŭ]
theorem Ou(w:Nat->Str)(r:Nat->List ai)(M:Nat)(p:Nat):(Ŷ w r M p).length=M-p:=by simp[Ŷ]
structure Ok(w:Nat->Str)(r:Nat->List ai)(M:Nat)(now:Int):Prop where
 w:∀i,i<M->w i∈w4
 r:∀i,i<=M->JS now (r i)/\(r i).length<=20m:M<=9
structure At(w:Nat->Str)(r:Nat->List ai)(M:Nat)(S:Ú)(T:Q)(p a b:Nat):Prop where
 d:DA S 0 T (r p) (Ŭ w r p) (Ŷ w r M p) a b
 rows:S[3]?=Z (.lst ((p_ (M+1)).map λi=>ej (r i)))na:a≠3nb:b≠3
theorem Ok.ds{w:Nat->Str}{r:Nat->List ai}{p:Nat}(O:Ok w r b n)(e:p<=b):∀q∈Ŭ w r p,DR q:=λq a=>by obtain⟨i,d,rfl⟩:=R_.mp a;have:=TX.mp d;exact⟨O.w i (by omega),(O.r i (by omega)).1.g⟩
theorem Ok.us{w:Nat->Str}{r:Nat->List ai}{p:Nat}(O:Ok w r b n):∀q∈Ŷ w r b p,DR q:=λq a=>by obtain⟨i,d,rfl⟩:=R_.mp a;have:=TX.mp d;exact⟨O.w _ (by omega),(O.r _ (by omega)).1.g⟩
theorem At.ch{w:Nat->Str}{r:Nat->List ai}{a:Nat}(h:At w r b p j k ι a)(C:Ch p Ξ 0 ι a):Ξ[3]?=Z (.lst ((p_ (b+1)).map λi=>ej (r i))):=(C.h 3 (ez h.rows) (by omega) (Uq h.na) (Uq h.nb)).trans h.rows
theorem At.back{w:Nat->Str}{r:Nat->List ai}{a:Nat}(h:At w r b p j (k+1) ι a)(O:Ok w r b n)(g:k<b):∃f,bQ p [.inr 0]=Z (.ok (.inl (.str (w k))) f)/\At w r b f j k ι a/\Ch p f 0 ι a:=by have i:=h.d;have ok:=O.ds (p:=k+1) g;rw[Os]at i ok;obtain⟨f,e,d,C⟩:=Bf i ok (by rw[Ou];have:=O.m;omega);rw[<-Ot w r b g]at d;exact⟨f,e,⟨d,h.ch C,h.na,h.nb⟩,C⟩
theorem At.forth{w:Nat->Str}{r:Nat->List ai}{a:Nat}(h:At w r b p j k ι a)(O:Ok w r b n)(i:k<b):∃f,fP p [.inr 0]=Z (.ok (.inl (.str (w k))) f)/\At w r b f j (k+1) ι a/\Ch p f 0 ι a:=by have g:=h.d;have ok:=O.us (p:=k);rw[Ot w r b i]at g ok;obtain⟨f,e,d,C⟩:=DS g ok (by rw[Bj];have:=O.m;omega);rw[<-Os w r k]at d;exact⟨f,e,⟨d,h.ch C,h.na,h.nb⟩,C⟩
theorem DA.set3{c:Nat}{x:ñ}(h:DA p ι j i Α Υ b k)(e:c≠ι)(d:c≠b)(a:c≠k):DA (p.set c x) ι j i Α Υ b k:=⟨by rw[on e];exact h.o,by rw[on d];exact h.d,by rw[on a];exact h.u,h.na,h.nb,h.ab⟩
theorem At.put{w:Nat->Str}{r:Nat->List ai}{a:Nat}{c:Nat}{x:ñ}(h:At w r b p j k ι a)(g:c≠0)(f:c≠ι)(e:c≠a)(d:c≠3):At w r b (p.set c x) j k ι a:=⟨h.d.set3 g f e,by rw[on d];exact h.rows,h.na,h.nb⟩
theorem At.app{w:Nat->Str}{r:Nat->List ai}{a:Nat}(h:At w r b p j k ι a)(l:Ú):At w r b (p++l) j k ι a:=⟨h.d.app l,by rw[I_ (ez h.rows)];exact h.rows,h.na,h.nb⟩
theorem FK{r:Nat->List ai}(h:p[3]?=Z (.lst ((p_ (b+1)).map λi=>ej (r i))))(a:υ[2]?=Z (Z (.inr 3)))(e:y (õ p υ)=Z (.ok (.int (k:Nat))))(f:k<=b):R Î (Y 2) y (õ p υ)=Z (.ok (ej (r k))):=by refine(bb (Oo h a) e).trans ?_;show(match Ă ((p_ (b+1)).map λi=>ej (r i)) ((k:Nat):Int)with|some d=>Z (Rs.ok d)|none=>U)=_;unfold Ă;rw[if_pos (by omega),show((k:Nat):Int).toNat=k from rfl,L_,Wd (by omega)];rfl
theorem At.row{w:Nat->Str}{r:Nat->List ai}{d:Nat}{a:Nat}(h:At w r b p j k ι d)(f:υ[2]?=Z (Z (.inr 3)))(g:y (õ p υ)=Z (.ok (.int (a:Nat))))(e:a<=b):R Î (Y 2) y (õ p υ)=Z (.ok (ej (r a))):=FK h.rows f g e
theorem At.notes{w:Nat->Str}{r:Nat->List ai}{a:Nat}(h:At w r b p j k ι a)(d:υ[1]?=Z (Z (.inr 0))):dO 1 aC 0 (Y 1) bZ (õ p υ)=Z (.ok (ej (r k))):=mZ (qv h.d d) jt
theorem At.steps{w:Nat->Str}{r:Nat->List ai}{a:Nat}(h:At w r b p j k ι a)(d:υ[1]?=Z (Z (.inr 0))):dO 1 aY 0 (Y 1) bZ (õ p υ)=Z (.ok (ĝ k (b-k))):=(mZ (qv h.d d) ku).trans (by rw[Bj,Ou])
noncomputable def V9(h:List Int)(a:Int)(g f e d b:Option Uv):í:=[Z (.inl (.scr h)),Z (.inr 0),Z (.inr 3),Z (.inl (.int a)),g,f,e,d,b]
structure Lp(S:Ú)(T:Q)(js:List ai)(ds:List Sp)(a b:Nat):Prop where
 d:DA S 0 T js ds [] a b
 rows:S[3]?=Z (.lst ((ds.map (·.2)++[js]).map ej))na:a≠3nb:b≠3
theorem Ry{g:List Int}{S j:Ú}{k:Nat}{f c:Int}{x:Option Uv}{T:Q}{r m:List ai}{i p:List Sp}{a b s:Nat}(hk:k<10)(h:Lp S T r i a b)(P:ac [.scr g,.int (16+(k:Int)),.int 4]=Z (.ok (.int c)))(hl:i.length<=20)(hg:∀n∈m,ç n)(e:fI S [.inl (.scr g),.inl (.int (30+90*(k:Int))),.inr 0,.inl (.int (f+10+c))]=Z (.ok (.inl (.bl L)) j))(d:DA j 0 T m p [] a s)(C:Ch S j 0 a b)(q:s=b\/S.length<=s)(N:(m=r/\p=i)\/∃w,p=i++[(w,r)]):∃S2,mM S (V9 g f (Z (.inl (.int (k:Int)))) U U U U)=Z (.nx (V9 g (f+10+c) (Z (.inl (.int (k:Int)))) (Z (.inl (ĝ i.length 0))) U U U) S2)/\Lp S2 T m p a s:=by
 have H:=ez h.rows;have o:s≠3:=q.elim (λe=>e▸h.nb) λz=>by omega
 have u:j[3]?=Z (.lst ((i.map (·.2)++[r]).map ej)):=(C.h 3 H (by omega) (Uq h.na) (Uq h.nb)).trans h.rows;unfold mM;have v:(R bX (R bX (Y 3) (X 10)) (ag ac 3 (bN (Y 0) (R bX (X 16) (Y 4)) (X 4)))) (õ S (V9 g f (Z (.inl (.int (k:Int)))) U U U U))=Z (.ok (.int (f+10+c))):=(bb (j:=.int (f+10)) (μ:=.int c) rfl (nI ac (a:=.scr g) (b:=.int (16+(k:Int))) (c:=.int 4) rfl rfl rfl P)).trans rfl;have y:uf S (V9 g f (Z (.inl (.int (k:Int)))) U U U U)=Z (.nx (V9 g (f+10+c) (Z (.inl (.int (k:Int)))) U U U U) S):=cA (ak v rfl) rfl;have A:ue S (V9 g (f+10+c) (Z (.inl (.int (k:Int)))) U U U U)=Z (.nx (V9 g (f+10+c) (Z (.inl (.int (k:Int)))) (Z (.inl (ĝ i.length 0))) U U U) S):=cA (ak (j:=ĝ i.length 0) (mZ (qv h.d rfl) ku) rfl) rfl;have I:kx (.int 90) (.int (k:Int))=Z (.ok (.int (90*(k:Int)))):=oJ (.inl (by omega));have ar:bg (aG (Y 0)) (bg (aG (R bX (X 30) (R kx (X 90) (Y 4)))) (bg (da 1) (bg (aG (Y 3)) fu))) S (V9 g (f+10+c) (Z (.inl (.int (k:Int)))) (Z (.inl (ĝ i.length 0))) U U U)=Z (.ok [.inl (.scr g),.inl (.int (30+90*(k:Int))),.inr 0,.inl (.int (f+10+c))] S):=aO (ak (j:=.scr g) rfl rfl) (aO (ak (j:=.int (30+90*(k:Int))) ((bb (j:=.int 30) (μ:=.int (90*(k:Int))) rfl ((bb (j:=.int 90) (μ:=.int (k:Int)) rfl rfl).trans I)).trans rfl) rfl) (aO (aV rfl) (aO (ak (j:=.int (f+10+c)) rfl rfl) rfl)));have E:ud S (V9 g (f+10+c) (Z (.inl (.int (k:Int)))) (Z (.inl (ĝ i.length 0))) U U U)=Z (.nx (V9 g (f+10+c) (Z (.inl (.int (k:Int)))) (Z (.inl (ĝ i.length 0))) U U U) j):=by refine iG (Jq (H:=L) (DU ?_));unfold CT jC;rw[ar];exact e
 rw[aB y,aB A,aB E];have st:dO 1 aY 0 (Y 1) bZ (õ j (V9 g (f+10+c) (Z (.inl (.int (k:Int)))) (Z (.inl (ĝ i.length 0))) U U U))=Z (.ok (ĝ p.length 0)):=mZ (qv d rfl) ku;rcases N with⟨rfl,rfl⟩|⟨w,rfl⟩;·exact⟨j,iG (cU (bi ((bb (μ:=ĝ p.length 0) st rfl).trans (Bi _ _)))),d,u,h.na,o⟩
 · refine⟨j.set 3 (.lst ((i.map (·.2)++[r]).map ej++[ej m])),?_,d.set3 (by omega) (Uq h.na) (Uq o),?_,h.na,o⟩
   · refine(DP (Ξ:=j) (cU (bi ((bb (μ:=ĝ i.length 0) st rfl).trans ?_)))).trans ?_;·rw[T_];exact Om _
     ·refine fT (qt (aV rfl) u (aO (ak (j:=ej m) (mZ (qv d rfl) jt) (k7 m)) rfl) u ?_);simp;omega
   ·rw[w_ (ez u)];simp
theorem Ov{j:List Int}{t:List Q}(p:j.length<=63)(v:t∈kZ ë){a:Nat}:∀(r k:Nat)(S:Ú)(x y:Option Uv)(e:Int)(m:List ai)(ds:List Sp)(b:Nat),k+r<=9->10*k<=e->e<=13*k->DI (e+3) m ds [] k->Lp S (.tup t) m ds a b->∃n f g i s o,lB 4 [5] mM 0 1 r k S (V9 j e x y U U U)=Z (.nx (V9 j f o U U U U) n)/\Lp n (.tup t) g i a s/\DI 200 g i [] 9
 |0,k,S,x,y,e,m,ds,b,hk,h0,h1,d,h=>⟨S,e,m,ds,b,x,rfl,h,d.later (by omega) (by omega)⟩|r+1,k,S,x,y,e,m,ds,b,hk,h0,h1,d,h=>by
  obtain⟨c,c0,c1,e0⟩:=aU j p (16+(k:Int)) 4 (by omega);obtain⟨I,d1,E,z,A,R1⟩:=Jp (z:=30+90*(k:Int)) (n:=e+10+c) p v (d.later (by omega) (pi _)) (by omega) (by omega) (by omega);obtain⟨S1,b1,e1,u,C1,H⟩:=R1 S 0 a b h.d;have hb:bd (e+10+c)<=e+10+c+3:=by unfold bd;split<;>omega
  have N:E=[]:=by rcases A with⟨_,_,q⟩|⟨_,_,q⟩<;>exact q
  subst N;have P:=d.m;obtain⟨S2,e2,h2⟩:=Ry (x:=y) (by omega) h e0 (by simp at P;omega) z.j.g e1 u C1 H (A.elim (λq=>.inl ⟨q.1,q.2.1⟩) λ⟨w,q,_⟩=>.inr ⟨w,q⟩);obtain⟨n,f,g,i,s,o,e3,g1,g2⟩:=Ov p v r (k+1) S2 (Z (.inl (.int (k:Int)))) (Z (.inl (ĝ ds.length 0))) (e+10+c) I d1 b1 (by omega) (by omega) (by omega) (z.later hb (pi _)) h2;refine⟨n,f,g,i,s,o,U5 (uA (a:=V9 j (e+10+c) (Z (.inl (.int (k:Int)))) (Z (.inl (ĝ ds.length 0))) U U U) (Ξ:=S2) ?_) e3,g1,g2⟩;rw[show(0:Int)+(k:Int)*1=(k:Int)by omega];exact e2
theorem Lp.at_(h:Lp p j i Α b k)(d:DI 200 i Α [] 9):∃w r,At w r Α.length p j Α.length b k/\Ok w r Α.length 200:=by
 have n:∀a,a<Α.length->∃s∈Α,Α[a]?=Z s:=λa f=>⟨Α[a],W4 f,F_ f⟩;refine⟨λa=>(Α.getD a (b_ "",[])).1,λa=>if a<Α.length then(Α.getD a (b_ "",[])).2 else i,⟨?_,?_,h.na,h.nb⟩,λa f=>?_,λa f=>?_,by have:=d.m;simp at this;omega⟩
 · have v:Ŭ (λa=>(Α.getD a (b_ "",[])).1) (λa=>if a<Α.length then(Α.getD a (b_ "",[])).2 else i) Α.length=Α:=by refine X5 (by simp[Ŭ]) λa q o=>?_;simp[Ŭ,o]
   have u:Ŷ (λa=>(Α.getD a (b_ "",[])).1) (λa=>if a<Α.length then(Α.getD a (b_ "",[])).2 else i) Α.length Α.length=[]:=by simp[Ŷ]
   rw[v,u,if_neg (U1 _)];exact h.d
 · rw[h.rows];congr 2;rw[WE,UH,UH,UQ];congr 1
   · refine X5 (by simp) λa q o=>?_;have f:a<Α.length:=by simpa using q
     simp[f]
   ·simp
 ·obtain⟨s,m,e⟩:=n a f;show(Α.getD a _).1∈w4;rw[Vi,e];exact(d.o s m).1.w
 · show JS 200 (if a<Α.length then(Α.getD a _).2 else i)/\(if a<Α.length then(Α.getD a _).2 else i).length<=20;by_cases g:a<Α.length;·obtain⟨s,m,e⟩:=n a g;rw[if_pos g,Vi,e];exact(d.o s m).2
   ·rw[if_neg g];exact⟨d.j,d.l⟩
noncomputable def ĥ(w:Nat->Str)(M k:Nat):List Q:=(p_ k).map λq=>Q.str (w (M-1-q))
theorem Rz(w:Nat->Str)(M k:Nat):ĥ w M (k+1)=ĥ w M k++[.str (w (M-1-k))]:=by simp[ĥ,WE]
abbrev VM(d:List Int)(a:Int)(M b:Nat)(x y:Option Uv):í:=V9 d a x U (Z (.inl (.int (M:Nat)))) (Z (.inr b)) y
theorem Ow{a:List Int}{x:Option Uv}(d:ι<=k):eI (bJ (Y 4) (R kG (Y 6) (Y 4))) (õ p (VM a n k b (Z (.inl (.int (ι:Nat)))) x))=Z (.ok (ĝ ι (k-ι))):=by refine jG (ae (j:=.int (ι:Nat)) rfl (ae (j:=.int ((k-ι:Nat):Int)) ((bb (j:=.int (k:Nat)) (μ:=.int (ι:Nat)) rfl rfl).trans ?_) au)) (by show 2<=100000;decide);show Z (Rs.ok (Q.int ((k:Int)-(ι:Int))))=_;rw[show(k:Int)-(ι:Int)=((k-ι:Nat):Int)by omega]
theorem Si{f:List Int}{w:Nat->Str}{r:Nat->List ai}{M a b d:Nat}{T:Q}{e:Int}(O:Ok w r M 200)(s:d≠0)(q:d≠a)(p:d≠b)(v:d≠3):∀(n k:Nat)(S:Ú)(x:Option Uv),k+n=M->At w r M S T n a b->S[d]?=Z (.lst (ĥ w M k))->∃i o,lB 4 [] mO ((M:Int)-1) (-1) n k S (VM f e M d x U)=Z (.nx (VM f e M d o U) i)/\At w r M i T 0 a b/\i[d]?=Z (.lst (ĥ w M M))|0,k,S,x,y,h,g=>⟨S,x,rfl,h,by rw[show M=k by omega]at g⊢;exact g⟩|n+1,k,S,x,y,h,g=>by have hM:=O.m;obtain⟨u,N,A,P⟩:=h.back O (by omega);have j:u[d]?=Z (.lst (ĥ w M k)):=(P.h d (ez g) s q p).trans g;have m:At w r M (u.set d (.lst (ĥ w M k++[.str (w n)]))) T n a b:=A.put s q p v;obtain⟨i,o,I,H,E⟩:=Si O s q p v n (k+1) _ (Z (.inl (.int (n:Nat)))) (by omega) m (by rw[w_ (ez j),Rz,show M-1-k=n by omega]);refine⟨i,o,U5 (uA (a:=VM f e M d (Z (.inl (.int (n:Nat)))) U) ?_) I,H,E⟩;rw[show(M:Int)-1+(k:Int)*(-1)=((n:Nat):Int)by omega];show mO S (VM f e M d (Z (.inl (.int (n:Nat)))) U)=_;unfold mO;have z:uh S (VM f e M d (Z (.inl (.int (n:Nat)))) U)=Z (.nx (VM f e M d (Z (.inl (.int (n:Nat)))) U) (u.set d (.lst (ĥ w M k++[.str (w n)])))):=fT (qt (aV rfl) g (aO ((bL (a:=[]) (aV rfl) h.d.o rfl rfl).trans N) rfl) j (by simp[ĥ];omega));rw[aB z];refine iG (cU ?_);unfold ug;rw[PJ (bi ((bb (m.notes rfl) (m.row rfl rfl (by omega))).trans (Ol (O.r n (by omega)).1.g)))];exact bi ((bb (m.steps rfl) (Ow (by omega))).trans (Bi _ _))
theorem Ox{w:Nat->Str}(h:k<b):Î (.lst (ĥ w b b)) (.int ((b-1-k:Nat):Int))=Z (.ok (.str (w k))):=by show(match Ă (ĥ w b b) ((b-1-k:Nat):Int)with|some d=>Z (Rs.ok d)|none=>U)=_;unfold Ă ĥ;rw[if_pos (by omega),show((b-1-k:Nat):Int).toNat=b-1-k from rfl,L_,Wd (by omega)];simp;congr 1;omega
theorem up{f:List Int}{w:Nat->Str}{r:Nat->List ai}{M a b d:Nat}{T:Q}{e:Int}(O:Ok w r M 200)(s:d≠0)(q:d≠a)(p:d≠b):∀(n k:Nat)(S:Ú)(x:Option Uv),k+n=M->At w r M S T k a b->S[d]?=Z (.lst (ĥ w M M))->∃g,lB 4 [4] mP 1 1 n k S (VM f e M d x U)=Z (.nx (VM f e M d U U) g)/\At w r M g T M a b/\g[d]?=Z (.lst (ĥ w M M))
 |0,k,S,x,u,h,j=>⟨S,rfl,by rw[show M=k by omega]at h⊢;exact h,j⟩|n+1,k,S,x,u,h,j=>by
  have I:=O.m;obtain⟨o,E,m,H⟩:=h.forth O (by omega);have i:o[d]?=Z (.lst (ĥ w M M)):=(H.h d (ez j) s q p).trans j;obtain⟨g,A,y,v⟩:=up O s q p n (k+1) o (Z (.inl (.int ((k+1:Nat):Int)))) (by omega) m i;refine⟨g,U5 (uA (a:=VM f e M d (Z (.inl (.int ((k+1:Nat):Int)))) U) (Ξ:=o) ?_) A,y,v⟩;rw[show(1:Int)+(k:Int)*1=((k+1:Nat):Int)by omega];show mP S (VM f e M d (Z (.inl (.int ((k+1:Nat):Int)))) U)=_;unfold mP;have z:ui S (VM f e M d (Z (.inl (.int ((k+1:Nat):Int)))) U)=Z (.nx (VM f e M d (Z (.inl (.int ((k+1:Nat):Int)))) U) o):=by
   refine iG ((On (DU (uz ((bL (a:=[]) (aV rfl) h.d.o rfl rfl).trans E) rfl ((bb (Oo i rfl) (μ:=.int ((M-1-k:Nat):Int)) ?_).trans (Ox (by omega))) (Rv (O.w k (by omega)))))).trans (cU ?_));·refine(bb (j:=.int (M:Nat)) (μ:=.int ((k+1:Nat):Int)) rfl rfl).trans ?_;show Z (Rs.ok (Q.int ((M:Int)-((k+1:Nat):Int))))=_;rw[show(M:Int)-((k+1:Nat):Int)=((M-1-k:Nat):Int)by omega]
   ·exact bi ((bb (m.notes rfl) (m.row rfl rfl (by omega))).trans (Ol (O.r _ (by omega)).1.g))
  rw[aB z];exact iG (cU (bi ((bb (m.steps rfl) (Ow (by omega))).trans (Bi _ _))))
theorem sy{w:Nat->Str}{r:Nat->List ai}{M a b:Nat}{T:Q}(O:Ok w r M 200):∀(n k p:Nat)(S:Ú),n<=p->p<=M->At w r M S T p a b->∃d,EO (uOk (cH 1 bQ 0 (da 1) fu)) 0 1 n k S [Z (.inr 0)]=Z ((p_ n).map λi=>Q.str (w (p-1-i)),d)/\At w r M d T (p-n) a b/\Ch S d 0 a b|0,k,p,S,j,g,h=>⟨S,rfl,h,.refl⟩|n+1,k,p,S,j,g,h=>by obtain⟨q,rfl⟩:∃q,p=q+1:=⟨p-1,by omega⟩;obtain⟨e,u,o,y⟩:=h.back O (by omega);obtain⟨d,s,m,v⟩:=sy O n (k+1) q e (by omega) (by omega) o;refine⟨d,?_,by rw[show q+1-(n+1)=q-n by omega];exact m,y.trans v (.inl rfl)⟩;unfold EO;rw[show uOk (cH 1 bQ 0 (da 1) fu) S (Z (.inl (.int (0+(k:Int)*1)))::[Z (.inr 0)])=Z (.ok (.inl (.str (w q))) e)by have f:cH 1 bQ 0 (da 1) fu S [Z (.inl (.int (0+(k:Int)*1))),Z (.inr 0)]=Z (.ok (.inl (.str (w q))) e):=(bL (a:=[]) (aV rfl) h.d.o rfl rfl).trans u;unfold uOk;rw[f]];dsimp only;rw[s];dsimp only;rw[XR,E_,UQ];congr 3;refine U6 λi _=>?_;show Q.str (w (q-1-i))=Q.str (w (q+1-1-(i+1)));congr 2;omega
theorem DV{d:List (Str×Nat)}{a:Ś}(h:a (õ p υ)=Z (n,Ω,b))(f:b<=100000)(e:EO Η n Ω b 0 p (C9 d υ)=Z (E,Ξ)):wE d a Η p υ=Z (.ok (.inr Ξ.length) (Ξ++[.lst E])):=by unfold wE;rw[h];dsimp only;rw[if_pos f,e]
theorem Jr{w:Nat->Str}(h:k<=b):yh (ĥ w b b) U (Z (k:Int))=(p_ k).map λi=>Q.str (w (b-1-i)):=by
 have a:(ĥ w b b).length=b:=by simp[ĥ]
 unfold yh HT.sIx;rw[a];have e:(if(k:Int)<0 then((k:Int)+(b:Int)).toNat else min k b)=k:=by rw[if_neg (by omega),ZQ h]
 simp[e];unfold ĥ;rw[<-List.map_take,List.take_range,ZQ h]
theorem Oy{w:Nat->Str}{r:Nat->List ai}(O:Ok w r b 200){q:Nat}(h:q<=b):Ę 1 (.lst ((p_ q).map λi=>Q.str (w (b-1-i)))):=vA λd e=>by obtain⟨i,a,rfl⟩:=R_.mp e;have:=TX.mp a;exact ji (aX (p:=λx=>Ue (.str x)) Bd (O.w _ (by omega)))
theorem RA(h:d∈w4):lh (.str d) (.tup [.str "give",.str "sweep",.str "forget",.str "merge"])=bo D:=by unfold w4 at h;simp only[uk,TD,or_false]at h;rcases h with rfl|rfl|rfl|rfl<;>lk
end J
open J
theorem DW(e:List Int)(N:e.length<=63):wR [.scr e]=Z (.ok (.bl L)):=by
 obtain⟨t,ht,eT⟩:=Do e N;have hT:=jj ht;have pT:=TB ht;suffices h:∃S',wQ [] [Z (.inl (.scr e)),U,U,U,U,U,U,U,U]=Z (.rt (.inl (.bl L)) S')by obtain⟨S',h⟩:=h;unfold wR OL;show(match wQ [] [Z (.inl (.scr e)),U,U,U,U,U,U,U,U]with|some (.rt (.inl d) _)=>Z (Rs.ok d)|_=>U)=_;rw[h]
 unfold wQ;have m0:=Jm (p:=[]) (υ:=[Z (.inl (.scr e)),U,U,U,U,U,U,U,U]) (a:=bg (aG (ag dL 2 (bJ (Y 0) (X 0)))) fu) hT pT (aO (ak (j:=.tup t) (gO dL (a:=.scr e) (b:=.int 0) rfl rfl eT) pT) rfl);rw[aB (Â:=qe) (cA (a:=[Z (.inl (.scr e)),Z (.inr 0),U,U,U,U,U,U,U]) m0 rfl)];have h0:=Oj (j:=.tup t) [];generalize k':([]:Ú)++[ń (.tup t) [] (([]:Ú).length+1) (([]:Ú).length+2),.lst [],.lst []]=n at h0⊢;have l0:n.length=3:=by rw[<-k'];rfl
 have a':qd n [Z (.inl (.scr e)),Z (.inr 0),U,U,U,U,U,U,U]=Z (.nx [Z (.inl (.scr e)),Z (.inr 0),Z (.inr 3),U,U,U,U,U,U] (n++[.lst [ej []]])):=by refine cA (u:=.inr 3) ?_ rfl;unfold xb jC;rw[aO (ak (j:=ej []) (mZ (qv h0 rfl) jt) (k7 [])) rfl];show Z (Ru.ok (YZ n.length) (n++[ñ.lst [ej []]]))=_;rw[l0]
 rw[aB a',aB (Â:=qc) (a:=V9 e 0 U U U U U) (cA (ak (j:=.int 0) rfl rfl) rfl)];obtain⟨c,c0,c1,ec⟩:=aU e N 15 8 (by omega);obtain⟨s,rfl⟩:∃s:Nat,c=(s:Int):=⟨c.toNat,by omega⟩;obtain⟨j,a,js,ds,b,m,e1,h1,D1⟩:=Ov N ht (2+s) 0 (n++[.lst [ej []]]) U U 0 [] [] _ (by omega) (by omega) (by omega) ⟨JS.nil,by simp,by simp,by simp,by simp⟩ ⟨h0.app _,by rw[K_ (by omega),l0];rfl,by decide,by decide⟩;have b':p9 (n++[.lst [ej []]]) (V9 e 0 U U U U U)=Z (.nx (V9 e a m U U U U) j):=by refine qw (FJ (b:=2+s) (ae ?_ au) (by omega)) e1;refine(bb (j:=.int 2) (μ:=.int (s:Int)) rfl (nI ac (a:=.scr e) (b:=.int 15) (c:=.int 8) rfl rfl rfl ec)).trans ?_;show Z (Rs.ok (Q.int (2+(s:Int))))=_;congr 3
 rw[aB b'];obtain⟨w,r,v,O⟩:=h1.at_ D1;generalize ds.length=M at v O;have hM:=O.m;have c':p8 j (V9 e a m U U U U)=Z (.nx (V9 e a m U (Z (.inl (.int (M:Nat)))) U U) j):=by
  refine cA (ak (j:=.int (M:Nat)) ((bb (j:=.int ((M+1:Nat):Int)) (μ:=.int 1) ((dg (ae (Oo v.rows rfl) au)).trans ?_) rfl).trans ?_) rfl) rfl;·show Z (Rs.ok (Q.int ((((p_ (M+1)).map λi=>ej (r i)).length:Nat):Int)))=_;rw[P_,WQ]
  ·show Z (Rs.ok (Q.int (((M+1:Nat):Int)-1)))=_;rw[show((M+1:Nat):Int)-1=((M:Nat):Int)by omega]
 have d':p0 j (V9 e a m U (Z (.inl (.int (M:Nat)))) U U)=Z (.nx (VM e a M j.length m U) (j++[.lst []])):=cA lP rfl;rw[aB c',aB d'];have A2:=v.app [.lst []];have la:=ez v.d.d;have lb:=ez v.d.u;have l3:=ez v.rows;have hw:(j++[ñ.lst []])[j.length]?=Z (.lst (ĥ w M 0)):=mY j _ [];generalize l':j.length=g at*;obtain⟨S2,o,e2,A3,H⟩:=Si (f:=e) (e:=a) O (by omega) (by omega) (by omega) (by omega) M 0 (j++[.lst []]) m (by omega) A2 hw;have e':pZ (j++[.lst []]) (VM e a M g m U)=Z (.nx (VM e a M g o U) S2):=qw (Oq (b:=M) (ae (j:=.int ((M:Int)-1)) rfl (ae (j:=.int (-1)) rfl (ae (j:=.int (-1)) rfl au))) (by omega)) e2;rw[aB e'];have f':pY S2 (VM e a M g o U)=Z (.nx (VM e a M g o U) S2):=by refine iG (cU ?_);have cm:=jh (d:=[]) (ν:=gz (Y 7)) (Μ:=fB (R lh (Y 0) (eI (nQ (Ï "give") (Ï "sweep") (Ï "forget") (Ï "merge"))))) (y:=Y 0) (δ:=õ S2 (VM e a M g o U)) (λq:Nat=>Q.str (w (M-1-q))) (λ_=>D) (λq:Nat=>Q.str (w (M-1-q))) (l:=p_ M) (by unfold gz;rw[Oo H rfl];rfl) (by simp;omega) λq y=>⟨bi ((bb (j:=.str (w (M-1-q))) (μ:=.tup [.str "give",.str "sweep",.str "forget",.str "merge"]) rfl rfl).trans (RA (O.w _ (by have:=TX.mp y;omega)))),rfl⟩;rw[show(p_ M).filter (λ_=>D)=[]by simp]at cm;exact bi ((bb (μ:=.lst []) cm rfl).trans rfl)
 rw[aB f'];obtain⟨S3,e3,A4,E⟩:=up (f:=e) (e:=a) O (by omega) (by omega) (by omega) M 0 S2 o (by omega) A3 H;have g':pW S2 (VM e a M g o U)=Z (.nx (VM e a M g U U) S3):=qw (Op (b:=M) (ae (j:=.int 1) rfl (ae (j:=.int ((M:Int)+1)) rfl au)) (by omega)) e3;rw[aB g'];obtain⟨q,q0,q1,eq⟩:=aU e N 26 ((M:Int)+1) (by omega);obtain⟨f,rfl⟩:∃f:Nat,q=(f:Int):=⟨q.toNat,by omega⟩;have y:f<=M:=by omega
 obtain⟨p,hp⟩:∃p,M-f=p:=⟨_,rfl⟩;rw[aB (Â:=uq) (a:=VM e a M g U (Z (.inl (.int (f:Nat))))) (cA (ak (j:=.int (f:Nat)) (nI ac (a:=.scr e) (b:=.int 26) (c:=.int ((M:Int)+1)) rfl rfl rfl eq) rfl) rfl)];obtain⟨k,e4,A5,C4⟩:=sy O f 0 M S3 y (pi _) A4;rw[hp]at A5;have A:k[g]?=Z (.lst (ĥ w M M)):=(C4.h g (ez E) (by omega) (by omega) (by omega)).trans E;have u:=A5.app [.lst ((p_ f).map λi=>Q.str (w (M-1-i)))];have h':(k++[ñ.lst ((p_ f).map λi=>Q.str (w (M-1-i)))])[g]?=Z (.lst (ĥ w M M)):=by rw[I_ (ez A)];exact A
 have i':=mY k (ñ.lst ((p_ f).map λi=>Q.str (w (M-1-i)))) [];have l5:k.length<(k++[ñ.lst ((p_ f).map λi=>Q.str (w (M-1-i)))]).length:=by simp
 have z8:uo S3 (VM e a M g U (Z (.inl (.int (f:Nat)))))=Z (.nx (VM e a M g U (Z (.inl (.int (f:Nat))))) (k++[.lst ((p_ f).map λi=>Q.str (w (M-1-i)))])):=by
  refine iG (DU (uz (u:=.inr k.length) (j:=.lst ((p_ f).map λi=>Q.str (w (M-1-i)))) (μ:=.lst ((p_ f).map λi=>Q.str (w (M-1-i)))) ?_ (FH i') ?_ (DB (Oy O y) (by omega))));·exact DV (FJ (b:=f) (ae (j:=.int (f:Nat)) rfl au) (by omega)) (by omega) e4
  ·unfold uO;rw[Oo h' rfl];show Z (Rs.ok (Q.lst (yh (ĥ w M M) U (Z ((f:Nat):Int)))))=_;rw[Jr y]
 rw[aB z8];generalize k++[ñ.lst ((p_ f).map λi=>Q.str (w (M-1-i)))]=S5 at*;have sub:∀S:Ú,R kG (Y 6) (Y 8) (õ S (VM e a M g U (Z (.inl (.int (f:Nat))))))=Z (.ok (.int (p:Nat))):=λS=>by refine(bb (j:=.int (M:Nat)) (μ:=.int (f:Nat)) rfl rfl).trans ?_;show Z (Rs.ok (Q.int ((M:Int)-(f:Int))))=_;rw[show(M:Int)-(f:Int)=((p:Nat):Int)by omega]
 have z7:um S5 (VM e a M g U (Z (.inl (.int (f:Nat)))))=Z (.nx (VM e a M g U (Z (.inl (.int (f:Nat))))) S5):=by refine iG (cU (bi ((bb (u.steps rfl) (μ:=ĝ p f) (jG (ae (sub _) (ae (j:=.int (f:Nat)) rfl au)) (by show 2<=100000;decide))).trans ?_)));rw[show M-p=f by omega];exact Bi _ _
 rw[aB z7];have I:=O.r p (by omega);obtain⟨S6,e6,D6,C6⟩:=vP u.d (by rw[Bj];omega) (AK I.1 I.2 (k:=0) (by omega) (by omega));have r6:=u.ch C6;have z6:ul S5 (VM e a M g U (Z (.inl (.int (f:Nat)))))=Z (.nx (VM e a M g U (Z (.inl (.int (f:Nat))))) S6):=fT ((bL (b:=1) (a:=[.inl (.int 0)]) (aV rfl) u.d.o (aO (ak (j:=.int 0) rfl rfl) rfl) rfl).trans e6);rw[aB z6];obtain⟨P,e7,D7,C7⟩:=Bf D6 (λx hx=>(TH.mp hx).elim (O.ds (by omega) x) λz=>by rw[M_.mp z];exact⟨by simp[w4],I.1.g⟩) (by decide);have r7:P[3]?=Z (.lst ((p_ (M+1)).map λi=>ej (r i))):=(C7.h 3 (ez r6) (by omega) (Uq u.na) (by have:=ez u.rows;omega)).trans r6;have z5:uj S6 (VM e a M g U (Z (.inl (.int (f:Nat)))))=Z (.nx (VM e a M g U (Z (.inl (.int (f:Nat))))) P):=by
  refine iG ((On (cU (bi ((bb (mZ (qv D6 rfl) ku) (μ:=ĝ (p+1) 0) (jG (ae (j:=.int ((p+1:Nat):Int)) ((bb (sub _) (μ:=.int 1) rfl).trans rfl) (ae (j:=.int 0) rfl au)) (by show 2<=100000;decide))).trans ?_)))).trans (DU (uz ((bL (a:=[]) (aV rfl) D6.o rfl rfl).trans e7) rfl rfl ?_)));·rw[T_,Bj];exact Bi (p+1) 0
  ·lk
 rw[aB z5];refine⟨P,eZ (ak (j:=.bl L) ?_ rfl)⟩;have a1:R ß (dO 1 aC 0 (Y 1) bZ) (R Î (Y 2) (R kG (Y 6) (Y 8))) (õ P (VM e a M g U (Z (.inl (.int (f:Nat))))))=bo L:=(bb (mZ (qv D7 rfl) jt) (FK r7 rfl (sub _) (by omega))).trans (Rw I.1.g);rw[Eu a1];refine(bb (mZ (qv D7 rfl) ku) (μ:=ĝ p 1) (jG (ae (sub _) (ae (j:=.int 1) rfl au)) (by show 2<=100000;decide))).trans ?_;rw[Bj];exact Rx p 1
theorem Oz(b:OA h)(a:ă q h e η):rw q h e η:=by
 rcases a with(a|a)|a;·rcases b e with z|⟨o,d,z⟩<;>(rw[z]at a;cases a)
 ·exact .inl a
 ·exact .inr a
theorem walk{l:ZO}{H:(Str->Option B)->TC->Prop}{n:x_->TC->Prop}{d:DefRec}{K:Z9->d_}(p:l.most=Z 63)(i:d.params.defaults=[])(y:∀(w:x_)(h:TC),n w h->(K w.params).In h)(F:∀(w:x_)(g:Str->Option B)(m:O)(h:TC),(K w.params).In h->h.Ns B_ g->g d.name=Z (.ref m)->∃k:UD,(∀(b:ge)(u:B),aaX b k ⟨[u],[]⟩ [("_law_script",u)])/\∀e:TC,(K w.params).In e->e.Ns B_ g->ì l.prog w (K w.params) g e į 14 m k ["_law_script"] (Ņ (K w.params) wR 1)):abW s A H n l.row.toRowW d [] (λf o=>abE f o):=L2.walk_of (b:=63) (k:=14) (d:="_law_script") (CX:=λ_=>į) (sp:=λw=>Ņ (K w.params) wR 1) p (by decide) i ⟨rfl,by decide,by decide,rfl⟩ y F (λ_ _ a j q E hS=>⟨[.scr j],⟨.ref a,[],rfl,⟨a,rfl,Oz E hS⟩,rfl⟩,rfl,by rw[DW j q];exactλv I _ r=>r⟩) λ_ _ _ _ _ z=>z
end G
variable{Κ:FD.Q}{ζ:Str}{Ο:Option Str}{π:G.J.ai}{i τ:List G.J.ai}{Ξ:FD.Ú}{Α Υ:List G.J.Sp}
open PySem.W
set_option maxRecDepth 100000 in
theorem PySem.Challenge.cw_notejar_k74_whole_back_holds : PySem.Challenge.rw_notejar_k74_whole_back.Holds := by
 refine G.hld fun b=>?_;refine PySem.W.holds_open (q:=G.VQ) (loose:=G.VL) (Xt:=fun s=>recOk [] s) (XP:=fun _ _=>True) (Yf:=Hook.obs (abZ G.KK G.KA G.KA_ok)) (Ya:=Hook.val (abZ G.KK G.KA G.KA_ok)) (YP:=Hook.says (abZ G.KK G.KA G.KA_ok)) (N:=10466) G.left (Hook.of (abZ G.KK G.KA G.KA_ok)) (Hook.keeps (abZ G.KK G.KA G.KA_ok)) (fun _ _=>trivial) (fun _ _ _ _ _=>trivial) (by rfl) (by rfl) (by rfl) (fun s e=>recFacts_of e) (by rfl) (by first | assumption | decide +kernel) (by decide +kernel) G.hbr ?hw ?hc
 (case hw=>w_witness2)
 refine G.walk (l:=r9_) rfl rfl (fun w h Y=>PySem.W.kIn_of Y) ?F
 case F =>
  intro w g i h f d a;exact G.all_mk (C0:=44) (C1:=56) (C2:=68) (C3:=80) (C4:=92) (C5:=104) (C6:=116) (C8:=128) (CJ:=31) f d a (G.af 135 "notejar.kinds" 342) (G.af 156 "notejar.names" 367) (G.af 161 "notejar.names" 367) (G.af 168 "notejar.names" 367) (G.af 173 "notejar.names" 367) (G.af 187 "notejar.names" 367) (G.af 419 "notejar.notes" 652) (G.af 441 "notejar.jars" 770) (G.af 436 "notejar.jars" 770) (G.af 142 "notejar.kinds" 342) (G.af 262 "notejar.asks" 505) (G.af 269 "notejar.asks" 505) (G.af 304 "notejar.giving" 565) (G.af 234 "notejar.paths" 469) (G.af 316 "notejar.giving" 565) (G.af 149 "notejar.kinds" 342) (G.af 309 "notejar.giving" 565) (G.af 384 "notejar.notes" 652) (G.af 431 "notejar.jars" 770) (G.af 448 "notejar.jars" 770) (G.af 276 "notejar.asks" 505) (G.af 426 "notejar.notes" 652) (G.af 467 "notejar.jars" 770) (G.af 462 "notejar.jars" 770) (G.af 653) (G.af 660) (G.af 194 "notejar.names" 367) (G.af 180 "notejar.names" 367) (G.af 472 "notejar.jars" 770) (G.af 455 "notejar.jars" 770) (G.af 283 "notejar.asks" 505) (G.af 290 "notejar.asks" 505) (G.af 337 "notejar.giving" 565) (G.af 344 "notejar.giving" 565) (G.af 349 "notejar.giving" 565) (G.af 484 "notejar.jars" 770) (G.af 405 "notejar.notes" 652) (G.af 391 "notejar.notes" 652) (G.af 206 "notejar.names" 367) (G.af 199 "notejar.names" 367) (G.af 213 "notejar.names" 367) (G.af 220 "notejar.names" 367) (G.af 356 "notejar.notes" 652) (G.af 363 "notejar.notes" 652) (G.af 323 "notejar.giving" 565) (G.af 330 "notejar.giving" 565) (G.af 241 "notejar.paths" 469) (G.af 248 "notejar.paths" 469) (G.af 398 "notejar.notes" 652) (G.af 227 "notejar.names" 367) (G.af 297 "notejar.asks" 505) (G.af 370 "notejar.notes" 652) (G.af 377 "notejar.notes" 652) (G.af 412 "notejar.notes" 652) (G.af 477 "notejar.jars" 770) (G.af 255 "notejar.paths" 469) (G.af 503 "notejar.jars" 770) (G.af 496 "notejar.jars" 770) (G.af 513 "notejar.jars" 770) (G.af 508 "notejar.jars" 770) (G.af 491 "notejar.jars" 770) (G.af 541 "notejar.comparing" 883) (G.af 534 "notejar.comparing" 883) (G.af 527 "notejar.comparing" 883) (G.af 520 "notejar.comparing" 883) (G.af 667) (G.af 679) (G.af 686) (G.af 698) (G.af 691) (G.af 705) (G.af 712) (G.af 672) (FD.ck_mk (b:=1) (e:=642) (by lk) (by lk) (by lk) (by lk) (by lk) (by lk)) (G.amf 555 "notejar.desks" 918 554) ⟨by lk,by lk,by lk,by lk⟩ (G.am (G.amf 625 "notejar.desks" 918 624)) (G.am (G.amf 611 "notejar.desks" 918 610)) (G.am (G.amf 618 "notejar.desks" 918 617)) (G.am (G.amf 562 "notejar.desks" 918 561)) (G.am (G.amf 632 "notejar.desks" 918 631)) (G.am (G.amf 569 "notejar.desks" 918 568)) (G.am (G.amf 597 "notejar.desks" 918 596)) (G.am (G.amf 583 "notejar.desks" 918 582)) (G.am (G.amf 590 "notejar.desks" 918 589)) (G.am (G.amf 576 "notejar.desks" 918 575)) (G.am (G.amf 604 "notejar.desks" 918 603)) (G.af 717) (by lk) (by lk)
#print axioms PySem.Challenge.cw_notejar_k74_whole_back_holds
